import Derived.Test.YtkkehbdahniiaaaGreatDoorB19
set_option linter.unusedVariables false
set_option linter.unusedSimpArgs false
set_option maxRecDepth 100000
namespace Go.Proofs.YtkkehbdahniiaaaGreatDoor
open Go.ChangeShapes Go.WideShapes Go.ChangeAt Go.RowKit
set_option maxHeartbeats 4000000 in
set_option maxRecDepth 100000 in
theorem w_one3e (v:Value) (a:Int) (r:List Int) (wide:Bool) (w:World) (h:Rd .u8 w v (a::r)) (hB:bytesL (a::r)) (hl:(a::r).length≤8192) (h16:16≤a) (hk:bhF a=3) (hlt:(r.length:Int) < 1) (hn:bePn 3 a wide r=none):
  Calls Tryz.prog 30 #[v, .bool wide] w (OneP w (a::r) wide):=by
 have hone1:=one_1 a r wide 3 (by omega) hk
 have hlen:=rd_len h uB (P:=Tryz.prog)
 have hLL:((a::r).length:Int)=r.length+1:=by simp
 rw[hLL] at hlen
 have hrl:(r.length:Int)≤8191:=by have:(a::r).length=r.length+1:=rfl;omega
 have hBr:bytesL r:=fun x hx=>hB x (by simp[hx])
 have hab:=hB a (by simp)
 obtain ⟨ha0,ha1⟩:=hab
 obtain ⟨vr,rr,_,_,cut⟩:=rd_cut h uB zB 1 (a::r).length (by simp) (Nat.le_refl _)
 rw[show (List.drop 1 (a::r))=r from rfl,List.take_of_length_le (by simp)] at rr
 have cut1:∀w',(Instr.slice 29 v (some (.int .i64 1)) none none).run Tryz.prog w'= .ok vr w':=cut rfl
 have hlr:=rd_len rr uB (P:=Tryz.prog)
 clear cut hLL
 have cB:=fun w=>w_rbehind a w
 rw[hk] at cB
 rw[hn] at hone1
 have HK1:=hid hone1
 clear hn
 clear hone1 hk
 have hlz:((r.length:Int)+1==0)=false:=by rw[beq_eq_false_iff_ne];omega
 go_enter Tryz.func30,Tryz.ntmps30
 go_upto_region 4 with fail
 have bW:Below w.heap.size w ((w.alloc (.cells #[.int .i64 0, .int .u32 0, .string ⟨#[]⟩, .int .i64 0] 40)).alloc (.cells #[.int .i64 0, .int .u32 0, .string ⟨#[]⟩, .int .i64 0] 40)):=below_trans (box_below w _) (box_below _ _)
 have sA:Stands ((w.alloc (.cells #[.int .i64 0, .int .u32 0, .string ⟨#[]⟩, .int .i64 0] 40)).alloc (.cells #[.int .i64 0, .int .u32 0, .string ⟨#[]⟩, .int .i64 0] 40)) w.heap.size #[.int .i64 0, .int .u32 0, .string ⟨#[]⟩, .int .i64 0] 40:=(stands_new w _ _).below (box_below _ _)
 have sT:Stands ((w.alloc (.cells #[.int .i64 0, .int .u32 0, .string ⟨#[]⟩, .int .i64 0] 40)).alloc (.cells #[.int .i64 0, .int .u32 0, .string ⟨#[]⟩, .int .i64 0] 40)) (w.heap.size+1) #[.int .i64 0, .int .u32 0, .string ⟨#[]⟩, .int .i64 0] 40:=by have:=stands_new (w.alloc (.cells #[.int .i64 0, .int .u32 0, .string ⟨#[]⟩, .int .i64 0] 40)) #[.int .i64 0, .int .u32 0, .string ⟨#[]⟩, .int .i64 0] 40;rwa [size_al] at this
 generalize (w.alloc (.cells #[.int .i64 0, .int .u32 0, .string ⟨#[]⟩, .int .i64 0] 40)).alloc (.cells #[.int .i64 0, .int .u32 0, .string ⟨#[]⟩, .int .i64 0] 40)=W0 at bW sA sT ⊢
 obtain ⟨ad0,x0,i0,c0,_,_,g0⟩:=mem_at (h.below bW) hB 0 (by omega) (by simp only[List.length_cons];omega)
 simp only[Int.toNat_zero,List.getD_cons_zero] at g0
 subst g0
 have t00:=sT.cell 0 _ rfl
 have t01:=sT.cell 1 _ rfl
 have t02:=sT.cell 2 _ rfl
 have t03:=sT.cell 3 _ rfl
 have y00:=sT.free 0
 have y01:=sT.free 1
 have y02:=sT.free 2
 have y03:=sT.free 3
 go_upto_region 6 with fail
 have sA1:=sA.other 0 (.int .i64 a) (show ¬w.heap.size=w.heap.size+1 by omega)
 have sT1:Stands _ (w.heap.size+1) #[.int .i64 a, .int .u32 0, .string ⟨#[]⟩, .int .i64 0] 40:=sT.set 0 (.int .i64 a)
 have bW1:=below_set bW (w.heap.size+1) 0 (.int .i64 a) (by omega)
 clear t00 y00 t01 y01 t02 y02 t03 y03
 clear sA sT bW
 have sA:=sA1
 have sT:=sT1
 have bW:=bW1
 clear sA1 sT1 bW1
 generalize W0.setCell ⟨w.heap.size+1,0,none⟩ (.int .i64 a)=W1 at sA sT bW ⊢
 have t10:=sT.cell 0 _ rfl
 have t11:=sT.cell 1 _ rfl
 have t12:=sT.cell 2 _ rfl
 have t13:=sT.cell 3 _ rfl
 have y10:=sT.free 0
 have y11:=sT.free 1
 have y12:=sT.free 2
 have y13:=sT.free 3
 have u10:=sA.cell 0 _ rfl
 have z10:=sA.free 0
 have u11:=sA.cell 1 _ rfl
 have z11:=sA.free 1
 have u12:=sA.cell 2 _ rfl
 have z12:=sA.free 2
 have u13:=sA.cell 3 _ rfl
 have z13:=sA.free 3
 go_wp2_with (first|(go_at_call 17;refine (cB _).mono ?_;rintro e q ⟨rfl,hw⟩;obtain rfl:=hw.symm))
 have g9:=set4 sA (.int .i64 0) (.int .u32 0) (.string ⟨#[]⟩) (.int .i64 0)
 refine bodyPost_ret (res_row2 rfl _ _ w.heap.size 40 _ (0,0) _ rfl g9 Tryz.underlying40 rfl (show _=some 4 by kernel_rfl)) rfl ?_
 exact one_none HK1.out (bset4 bW _ _ _ _ _ (Nat.le_refl _))
set_option maxHeartbeats 4000000 in
set_option maxRecDepth 100000 in
theorem w_one3s (v:Value) (a:Int) (r:List Int) (wide:Bool) (w:World) (h:Rd .u8 w v (a::r)) (hB:bytesL (a::r)) (hl:(a::r).length≤8192) (h16:16≤a) (hk:bhF a=3) (hge:¬(r.length:Int) < 1) (hlt:(r.length:Int) < 1+r.getD 0 0) (hn:bePn 3 a wide r=none):
  Calls Tryz.prog 30 #[v, .bool wide] w (OneP w (a::r) wide):=by
 have hone1:=one_1 a r wide 3 (by omega) hk
 have hlen:=rd_len h uB (P:=Tryz.prog)
 have hLL:((a::r).length:Int)=r.length+1:=by simp
 rw[hLL] at hlen
 have hrl:(r.length:Int)≤8191:=by have:(a::r).length=r.length+1:=rfl;omega
 have hBr:bytesL r:=fun x hx=>hB x (by simp[hx])
 have hab:=hB a (by simp)
 obtain ⟨ha0,ha1⟩:=hab
 obtain ⟨vr,rr,_,_,cut⟩:=rd_cut h uB zB 1 (a::r).length (by simp) (Nat.le_refl _)
 rw[show (List.drop 1 (a::r))=r from rfl,List.take_of_length_le (by simp)] at rr
 have cut1:∀w',(Instr.slice 29 v (some (.int .i64 1)) none none).run Tryz.prog w'= .ok vr w':=cut rfl
 have hlr:=rd_len rr uB (P:=Tryz.prog)
 clear cut hLL
 have cB:=fun w=>w_rbehind a w
 rw[hk] at cB
 rw[hn] at hone1
 have HK1:=hid hone1
 clear hn
 clear hone1 hk
 have hlz:((r.length:Int)+1==0)=false:=by rw[beq_eq_false_iff_ne];omega
 go_enter Tryz.func30,Tryz.ntmps30
 go_upto_region 4 with fail
 have bW:Below w.heap.size w ((w.alloc (.cells #[.int .i64 0, .int .u32 0, .string ⟨#[]⟩, .int .i64 0] 40)).alloc (.cells #[.int .i64 0, .int .u32 0, .string ⟨#[]⟩, .int .i64 0] 40)):=below_trans (box_below w _) (box_below _ _)
 have sA:Stands ((w.alloc (.cells #[.int .i64 0, .int .u32 0, .string ⟨#[]⟩, .int .i64 0] 40)).alloc (.cells #[.int .i64 0, .int .u32 0, .string ⟨#[]⟩, .int .i64 0] 40)) w.heap.size #[.int .i64 0, .int .u32 0, .string ⟨#[]⟩, .int .i64 0] 40:=(stands_new w _ _).below (box_below _ _)
 have sT:Stands ((w.alloc (.cells #[.int .i64 0, .int .u32 0, .string ⟨#[]⟩, .int .i64 0] 40)).alloc (.cells #[.int .i64 0, .int .u32 0, .string ⟨#[]⟩, .int .i64 0] 40)) (w.heap.size+1) #[.int .i64 0, .int .u32 0, .string ⟨#[]⟩, .int .i64 0] 40:=by have:=stands_new (w.alloc (.cells #[.int .i64 0, .int .u32 0, .string ⟨#[]⟩, .int .i64 0] 40)) #[.int .i64 0, .int .u32 0, .string ⟨#[]⟩, .int .i64 0] 40;rwa [size_al] at this
 generalize (w.alloc (.cells #[.int .i64 0, .int .u32 0, .string ⟨#[]⟩, .int .i64 0] 40)).alloc (.cells #[.int .i64 0, .int .u32 0, .string ⟨#[]⟩, .int .i64 0] 40)=W0 at bW sA sT ⊢
 obtain ⟨ad0,x0,i0,c0,_,_,g0⟩:=mem_at (h.below bW) hB 0 (by omega) (by simp only[List.length_cons];omega)
 simp only[Int.toNat_zero,List.getD_cons_zero] at g0
 subst g0
 have t00:=sT.cell 0 _ rfl
 have t01:=sT.cell 1 _ rfl
 have t02:=sT.cell 2 _ rfl
 have t03:=sT.cell 3 _ rfl
 have y00:=sT.free 0
 have y01:=sT.free 1
 have y02:=sT.free 2
 have y03:=sT.free 3
 go_upto_region 6 with fail
 have sA1:=sA.other 0 (.int .i64 a) (show ¬w.heap.size=w.heap.size+1 by omega)
 have sT1:Stands _ (w.heap.size+1) #[.int .i64 a, .int .u32 0, .string ⟨#[]⟩, .int .i64 0] 40:=sT.set 0 (.int .i64 a)
 have bW1:=below_set bW (w.heap.size+1) 0 (.int .i64 a) (by omega)
 clear t00 y00 t01 y01 t02 y02 t03 y03
 clear sA sT bW
 have sA:=sA1
 have sT:=sT1
 have bW:=bW1
 clear sA1 sT1 bW1
 generalize W0.setCell ⟨w.heap.size+1,0,none⟩ (.int .i64 a)=W1 at sA sT bW ⊢
 have t10:=sT.cell 0 _ rfl
 have t11:=sT.cell 1 _ rfl
 have t12:=sT.cell 2 _ rfl
 have t13:=sT.cell 3 _ rfl
 have y10:=sT.free 0
 have y11:=sT.free 1
 have y12:=sT.free 2
 have y13:=sT.free 3
 obtain ⟨ad0,x0,ii0,cw0,lo0,hi0,gg0⟩:=mem_at rr hBr 0 (by omega) (by omega)
 have cc0:=below_cell bW cw0
 have gx:r.getD 0 0=x0:=gg0
 rw[gx] at hlt
 clear gg0 gx
 have u10:=sA.cell 0 _ rfl
 have z10:=sA.free 0
 have u11:=sA.cell 1 _ rfl
 have z11:=sA.free 1
 have u12:=sA.cell 2 _ rfl
 have z12:=sA.free 2
 have u13:=sA.cell 3 _ rfl
 have z13:=sA.free 3
 go_wp2_with (first|(go_at_call 17;refine (cB _).mono ?_;rintro e q ⟨rfl,hw⟩;obtain rfl:=hw.symm))
 have g9:=set4 sA (.int .i64 0) (.int .u32 0) (.string ⟨#[]⟩) (.int .i64 0)
 refine bodyPost_ret (res_row2 rfl _ _ w.heap.size 40 _ (0,0) _ rfl g9 Tryz.underlying40 rfl (show _=some 4 by kernel_rfl)) rfl ?_
 exact one_none HK1.out (bset4 bW _ _ _ _ _ (Nat.le_refl _))
set_option maxHeartbeats 4000000 in
set_option maxRecDepth 100000 in
theorem w_one6e (v:Value) (a:Int) (r:List Int) (wide:Bool) (w:World) (h:Rd .u8 w v (a::r)) (hB:bytesL (a::r)) (hl:(a::r).length≤8192) (h16:16≤a) (hk:bhF a=6) (hlt:(r.length:Int) < 1) (hn:bePn 6 a wide r=none):
  Calls Tryz.prog 30 #[v, .bool wide] w (OneP w (a::r) wide):=by
 have hone1:=one_1 a r wide 6 (by omega) hk
 have hlen:=rd_len h uB (P:=Tryz.prog)
 have hLL:((a::r).length:Int)=r.length+1:=by simp
 rw[hLL] at hlen
 have hrl:(r.length:Int)≤8191:=by have:(a::r).length=r.length+1:=rfl;omega
 have hBr:bytesL r:=fun x hx=>hB x (by simp[hx])
 have hab:=hB a (by simp)
 obtain ⟨ha0,ha1⟩:=hab
 obtain ⟨vr,rr,_,_,cut⟩:=rd_cut h uB zB 1 (a::r).length (by simp) (Nat.le_refl _)
 rw[show (List.drop 1 (a::r))=r from rfl,List.take_of_length_le (by simp)] at rr
 have cut1:∀w',(Instr.slice 29 v (some (.int .i64 1)) none none).run Tryz.prog w'= .ok vr w':=cut rfl
 have hlr:=rd_len rr uB (P:=Tryz.prog)
 clear cut hLL
 have cB:=fun w=>w_rbehind a w
 rw[hk] at cB
 rw[hn] at hone1
 have HK1:=hid hone1
 clear hn
 clear hone1 hk
 have hlz:((r.length:Int)+1==0)=false:=by rw[beq_eq_false_iff_ne];omega
 go_enter Tryz.func30,Tryz.ntmps30
 go_upto_region 4 with fail
 have bW:Below w.heap.size w ((w.alloc (.cells #[.int .i64 0, .int .u32 0, .string ⟨#[]⟩, .int .i64 0] 40)).alloc (.cells #[.int .i64 0, .int .u32 0, .string ⟨#[]⟩, .int .i64 0] 40)):=below_trans (box_below w _) (box_below _ _)
 have sA:Stands ((w.alloc (.cells #[.int .i64 0, .int .u32 0, .string ⟨#[]⟩, .int .i64 0] 40)).alloc (.cells #[.int .i64 0, .int .u32 0, .string ⟨#[]⟩, .int .i64 0] 40)) w.heap.size #[.int .i64 0, .int .u32 0, .string ⟨#[]⟩, .int .i64 0] 40:=(stands_new w _ _).below (box_below _ _)
 have sT:Stands ((w.alloc (.cells #[.int .i64 0, .int .u32 0, .string ⟨#[]⟩, .int .i64 0] 40)).alloc (.cells #[.int .i64 0, .int .u32 0, .string ⟨#[]⟩, .int .i64 0] 40)) (w.heap.size+1) #[.int .i64 0, .int .u32 0, .string ⟨#[]⟩, .int .i64 0] 40:=by have:=stands_new (w.alloc (.cells #[.int .i64 0, .int .u32 0, .string ⟨#[]⟩, .int .i64 0] 40)) #[.int .i64 0, .int .u32 0, .string ⟨#[]⟩, .int .i64 0] 40;rwa [size_al] at this
 generalize (w.alloc (.cells #[.int .i64 0, .int .u32 0, .string ⟨#[]⟩, .int .i64 0] 40)).alloc (.cells #[.int .i64 0, .int .u32 0, .string ⟨#[]⟩, .int .i64 0] 40)=W0 at bW sA sT ⊢
 obtain ⟨ad0,x0,i0,c0,_,_,g0⟩:=mem_at (h.below bW) hB 0 (by omega) (by simp only[List.length_cons];omega)
 simp only[Int.toNat_zero,List.getD_cons_zero] at g0
 subst g0
 have t00:=sT.cell 0 _ rfl
 have t01:=sT.cell 1 _ rfl
 have t02:=sT.cell 2 _ rfl
 have t03:=sT.cell 3 _ rfl
 have y00:=sT.free 0
 have y01:=sT.free 1
 have y02:=sT.free 2
 have y03:=sT.free 3
 go_upto_region 6 with fail
 have sA1:=sA.other 0 (.int .i64 a) (show ¬w.heap.size=w.heap.size+1 by omega)
 have sT1:Stands _ (w.heap.size+1) #[.int .i64 a, .int .u32 0, .string ⟨#[]⟩, .int .i64 0] 40:=sT.set 0 (.int .i64 a)
 have bW1:=below_set bW (w.heap.size+1) 0 (.int .i64 a) (by omega)
 clear t00 y00 t01 y01 t02 y02 t03 y03
 clear sA sT bW
 have sA:=sA1
 have sT:=sT1
 have bW:=bW1
 clear sA1 sT1 bW1
 generalize W0.setCell ⟨w.heap.size+1,0,none⟩ (.int .i64 a)=W1 at sA sT bW ⊢
 have t10:=sT.cell 0 _ rfl
 have t11:=sT.cell 1 _ rfl
 have t12:=sT.cell 2 _ rfl
 have t13:=sT.cell 3 _ rfl
 have y10:=sT.free 0
 have y11:=sT.free 1
 have y12:=sT.free 2
 have y13:=sT.free 3
 have u10:=sA.cell 0 _ rfl
 have z10:=sA.free 0
 have u11:=sA.cell 1 _ rfl
 have z11:=sA.free 1
 have u12:=sA.cell 2 _ rfl
 have z12:=sA.free 2
 have u13:=sA.cell 3 _ rfl
 have z13:=sA.free 3
 go_wp2_with (first|(go_at_call 17;refine (cB _).mono ?_;rintro e q ⟨rfl,hw⟩;obtain rfl:=hw.symm))
 have g9:=set4 sA (.int .i64 0) (.int .u32 0) (.string ⟨#[]⟩) (.int .i64 0)
 refine bodyPost_ret (res_row2 rfl _ _ w.heap.size 40 _ (0,0) _ rfl g9 Tryz.underlying40 rfl (show _=some 4 by kernel_rfl)) rfl ?_
 exact one_none HK1.out (bset4 bW _ _ _ _ _ (Nat.le_refl _))
set_option maxHeartbeats 4000000 in
set_option maxRecDepth 100000 in
theorem w_one6s (v:Value) (a:Int) (r:List Int) (wide:Bool) (w:World) (h:Rd .u8 w v (a::r)) (hB:bytesL (a::r)) (hl:(a::r).length≤8192) (h16:16≤a) (hk:bhF a=6) (hge:¬(r.length:Int) < 1) (hlt:(r.length:Int) < 1+r.getD 0 0) (hn:bePn 6 a wide r=none):
  Calls Tryz.prog 30 #[v, .bool wide] w (OneP w (a::r) wide):=by
 have hone1:=one_1 a r wide 6 (by omega) hk
 have hlen:=rd_len h uB (P:=Tryz.prog)
 have hLL:((a::r).length:Int)=r.length+1:=by simp
 rw[hLL] at hlen
 have hrl:(r.length:Int)≤8191:=by have:(a::r).length=r.length+1:=rfl;omega
 have hBr:bytesL r:=fun x hx=>hB x (by simp[hx])
 have hab:=hB a (by simp)
 obtain ⟨ha0,ha1⟩:=hab
 obtain ⟨vr,rr,_,_,cut⟩:=rd_cut h uB zB 1 (a::r).length (by simp) (Nat.le_refl _)
 rw[show (List.drop 1 (a::r))=r from rfl,List.take_of_length_le (by simp)] at rr
 have cut1:∀w',(Instr.slice 29 v (some (.int .i64 1)) none none).run Tryz.prog w'= .ok vr w':=cut rfl
 have hlr:=rd_len rr uB (P:=Tryz.prog)
 clear cut hLL
 have cB:=fun w=>w_rbehind a w
 rw[hk] at cB
 rw[hn] at hone1
 have HK1:=hid hone1
 clear hn
 clear hone1 hk
 have hlz:((r.length:Int)+1==0)=false:=by rw[beq_eq_false_iff_ne];omega
 go_enter Tryz.func30,Tryz.ntmps30
 go_upto_region 4 with fail
 have bW:Below w.heap.size w ((w.alloc (.cells #[.int .i64 0, .int .u32 0, .string ⟨#[]⟩, .int .i64 0] 40)).alloc (.cells #[.int .i64 0, .int .u32 0, .string ⟨#[]⟩, .int .i64 0] 40)):=below_trans (box_below w _) (box_below _ _)
 have sA:Stands ((w.alloc (.cells #[.int .i64 0, .int .u32 0, .string ⟨#[]⟩, .int .i64 0] 40)).alloc (.cells #[.int .i64 0, .int .u32 0, .string ⟨#[]⟩, .int .i64 0] 40)) w.heap.size #[.int .i64 0, .int .u32 0, .string ⟨#[]⟩, .int .i64 0] 40:=(stands_new w _ _).below (box_below _ _)
 have sT:Stands ((w.alloc (.cells #[.int .i64 0, .int .u32 0, .string ⟨#[]⟩, .int .i64 0] 40)).alloc (.cells #[.int .i64 0, .int .u32 0, .string ⟨#[]⟩, .int .i64 0] 40)) (w.heap.size+1) #[.int .i64 0, .int .u32 0, .string ⟨#[]⟩, .int .i64 0] 40:=by have:=stands_new (w.alloc (.cells #[.int .i64 0, .int .u32 0, .string ⟨#[]⟩, .int .i64 0] 40)) #[.int .i64 0, .int .u32 0, .string ⟨#[]⟩, .int .i64 0] 40;rwa [size_al] at this
 generalize (w.alloc (.cells #[.int .i64 0, .int .u32 0, .string ⟨#[]⟩, .int .i64 0] 40)).alloc (.cells #[.int .i64 0, .int .u32 0, .string ⟨#[]⟩, .int .i64 0] 40)=W0 at bW sA sT ⊢
 obtain ⟨ad0,x0,i0,c0,_,_,g0⟩:=mem_at (h.below bW) hB 0 (by omega) (by simp only[List.length_cons];omega)
 simp only[Int.toNat_zero,List.getD_cons_zero] at g0
 subst g0
 have t00:=sT.cell 0 _ rfl
 have t01:=sT.cell 1 _ rfl
 have t02:=sT.cell 2 _ rfl
 have t03:=sT.cell 3 _ rfl
 have y00:=sT.free 0
 have y01:=sT.free 1
 have y02:=sT.free 2
 have y03:=sT.free 3
 go_upto_region 6 with fail
 have sA1:=sA.other 0 (.int .i64 a) (show ¬w.heap.size=w.heap.size+1 by omega)
 have sT1:Stands _ (w.heap.size+1) #[.int .i64 a, .int .u32 0, .string ⟨#[]⟩, .int .i64 0] 40:=sT.set 0 (.int .i64 a)
 have bW1:=below_set bW (w.heap.size+1) 0 (.int .i64 a) (by omega)
 clear t00 y00 t01 y01 t02 y02 t03 y03
 clear sA sT bW
 have sA:=sA1
 have sT:=sT1
 have bW:=bW1
 clear sA1 sT1 bW1
 generalize W0.setCell ⟨w.heap.size+1,0,none⟩ (.int .i64 a)=W1 at sA sT bW ⊢
 have t10:=sT.cell 0 _ rfl
 have t11:=sT.cell 1 _ rfl
 have t12:=sT.cell 2 _ rfl
 have t13:=sT.cell 3 _ rfl
 have y10:=sT.free 0
 have y11:=sT.free 1
 have y12:=sT.free 2
 have y13:=sT.free 3
 obtain ⟨ad0,x0,ii0,cw0,lo0,hi0,gg0⟩:=mem_at rr hBr 0 (by omega) (by omega)
 have cc0:=below_cell bW cw0
 have gx:r.getD 0 0=x0:=gg0
 rw[gx] at hlt
 clear gg0 gx
 have u10:=sA.cell 0 _ rfl
 have z10:=sA.free 0
 have u11:=sA.cell 1 _ rfl
 have z11:=sA.free 1
 have u12:=sA.cell 2 _ rfl
 have z12:=sA.free 2
 have u13:=sA.cell 3 _ rfl
 have z13:=sA.free 3
 go_wp2_with (first|(go_at_call 17;refine (cB _).mono ?_;rintro e q ⟨rfl,hw⟩;obtain rfl:=hw.symm))
 have g9:=set4 sA (.int .i64 0) (.int .u32 0) (.string ⟨#[]⟩) (.int .i64 0)
 refine bodyPost_ret (res_row2 rfl _ _ w.heap.size 40 _ (0,0) _ rfl g9 Tryz.underlying40 rfl (show _=some 4 by kernel_rfl)) rfl ?_
 exact one_none HK1.out (bset4 bW _ _ _ _ _ (Nat.le_refl _))
set_option maxHeartbeats 4000000 in
set_option maxRecDepth 100000 in
theorem w_one3 (v:Value) (a:Int) (r:List Int) (wide:Bool) (w:World) (h:Rd .u8 w v (a::r)) (hB:bytesL (a::r)) (hl:(a::r).length≤8192) (h16:16≤a) (hk:bhF a=3) (hge:¬(r.length:Int) < 1) (hge2:¬(r.length:Int) < 1+r.getD 0 0) (r2:List Int) (hn:bePn 3 a wide r=some (⟨a,0,(r.drop 1).take (r.getD 0 0).toNat,0⟩,r2)):
  Calls Tryz.prog 30 #[v, .bool wide] w (OneP w (a::r) wide):=by
 have hone1:=one_1 a r wide 3 (by omega) hk
 have hlen:=rd_len h uB (P:=Tryz.prog)
 have hLL:((a::r).length:Int)=r.length+1:=by simp
 rw[hLL] at hlen
 have hrl:(r.length:Int)≤8191:=by have:(a::r).length=r.length+1:=rfl;omega
 have hBr:bytesL r:=fun x hx=>hB x (by simp[hx])
 have hab:=hB a (by simp)
 obtain ⟨ha0,ha1⟩:=hab
 obtain ⟨vr,rr,_,_,cut⟩:=rd_cut h uB zB 1 (a::r).length (by simp) (Nat.le_refl _)
 rw[show (List.drop 1 (a::r))=r from rfl,List.take_of_length_le (by simp)] at rr
 have cut1:∀w',(Instr.slice 29 v (some (.int .i64 1)) none none).run Tryz.prog w'= .ok vr w':=cut rfl
 have hlr:=rd_len rr uB (P:=Tryz.prog)
 clear cut hLL
 have cB:=fun w=>w_rbehind a w
 rw[hk] at cB
 rw[hn] at hone1
 have HK1:=hid hone1
 clear hn
 clear hone1 hk
 have hlz:((r.length:Int)+1==0)=false:=by rw[beq_eq_false_iff_ne];omega
 go_enter Tryz.func30,Tryz.ntmps30
 go_upto_region 4 with fail
 have bW:Below w.heap.size w ((w.alloc (.cells #[.int .i64 0, .int .u32 0, .string ⟨#[]⟩, .int .i64 0] 40)).alloc (.cells #[.int .i64 0, .int .u32 0, .string ⟨#[]⟩, .int .i64 0] 40)):=below_trans (box_below w _) (box_below _ _)
 have sA:Stands ((w.alloc (.cells #[.int .i64 0, .int .u32 0, .string ⟨#[]⟩, .int .i64 0] 40)).alloc (.cells #[.int .i64 0, .int .u32 0, .string ⟨#[]⟩, .int .i64 0] 40)) w.heap.size #[.int .i64 0, .int .u32 0, .string ⟨#[]⟩, .int .i64 0] 40:=(stands_new w _ _).below (box_below _ _)
 have sT:Stands ((w.alloc (.cells #[.int .i64 0, .int .u32 0, .string ⟨#[]⟩, .int .i64 0] 40)).alloc (.cells #[.int .i64 0, .int .u32 0, .string ⟨#[]⟩, .int .i64 0] 40)) (w.heap.size+1) #[.int .i64 0, .int .u32 0, .string ⟨#[]⟩, .int .i64 0] 40:=by have:=stands_new (w.alloc (.cells #[.int .i64 0, .int .u32 0, .string ⟨#[]⟩, .int .i64 0] 40)) #[.int .i64 0, .int .u32 0, .string ⟨#[]⟩, .int .i64 0] 40;rwa [size_al] at this
 generalize (w.alloc (.cells #[.int .i64 0, .int .u32 0, .string ⟨#[]⟩, .int .i64 0] 40)).alloc (.cells #[.int .i64 0, .int .u32 0, .string ⟨#[]⟩, .int .i64 0] 40)=W0 at bW sA sT ⊢
 obtain ⟨ad0,x0,i0,c0,_,_,g0⟩:=mem_at (h.below bW) hB 0 (by omega) (by simp only[List.length_cons];omega)
 simp only[Int.toNat_zero,List.getD_cons_zero] at g0
 subst g0
 have t00:=sT.cell 0 _ rfl
 have t01:=sT.cell 1 _ rfl
 have t02:=sT.cell 2 _ rfl
 have t03:=sT.cell 3 _ rfl
 have y00:=sT.free 0
 have y01:=sT.free 1
 have y02:=sT.free 2
 have y03:=sT.free 3
 go_upto_region 6 with fail
 have sA1:=sA.other 0 (.int .i64 a) (show ¬w.heap.size=w.heap.size+1 by omega)
 have sT1:Stands _ (w.heap.size+1) #[.int .i64 a, .int .u32 0, .string ⟨#[]⟩, .int .i64 0] 40:=sT.set 0 (.int .i64 a)
 have bW1:=below_set bW (w.heap.size+1) 0 (.int .i64 a) (by omega)
 clear t00 y00 t01 y01 t02 y02 t03 y03
 clear sA sT bW
 have sA:=sA1
 have sT:=sT1
 have bW:=bW1
 clear sA1 sT1 bW1
 generalize W0.setCell ⟨w.heap.size+1,0,none⟩ (.int .i64 a)=W1 at sA sT bW ⊢
 have t10:=sT.cell 0 _ rfl
 have t11:=sT.cell 1 _ rfl
 have t12:=sT.cell 2 _ rfl
 have t13:=sT.cell 3 _ rfl
 have y10:=sT.free 0
 have y11:=sT.free 1
 have y12:=sT.free 2
 have y13:=sT.free 3
 obtain ⟨ad0,x0,ii0,cw0,lo0,hi0,gg0⟩:=mem_at rr hBr 0 (by omega) (by omega)
 have cc0:=below_cell bW cw0
 have gx:r.getD 0 0=x0:=gg0
 rw[gx] at hge2 HK1
 clear gg0 gx
 obtain ⟨vs,rs,cuts,_,_⟩:=rd_cutI rr uB zB 1 (1+x0) (by omega) (by omega) (by omega)
 have hcv:=rd_strT (rs.below bW)
 have hsl:((r.drop (1:Int).toNat).take (1+x0 - 1).toNat)=(r.drop 1).take x0.toNat:=by rw[show (1+x0 - 1).toNat=x0.toNat by omega];rfl
 rw[hsl] at hcv
 have hST:∃ST,strOfNums ((r.drop 1).take x0.toNat)=ST:=⟨_,rfl⟩
 obtain ⟨ST,hST⟩:=hST
 rw[hST] at hcv
 have hLB:LB ST=(r.drop 1).take x0.toNat:=by rw[←hST];exact LB_nums _ (fun x hx=>hBr x (List.mem_of_mem_drop (List.mem_of_mem_take hx)))
 have hSs:ST.size≤maxLen:=by rw[←LB_len,hLB];unfold maxLen;simp only[List.length_take,List.length_drop];omega
 rw[←hLB] at HK1
 clear hLB hST hsl rs
 go_upto_region 45 with (first|(go_at_call 17;refine (cB _).mono ?_;rintro e q ⟨rfl,hw⟩;obtain rfl:=hw.symm))
 have sA2:=sA.other 2 (.string ST) (show ¬w.heap.size=w.heap.size+1 by omega)
 have sT2:Stands _ (w.heap.size+1) #[.int .i64 a, .int .u32 0, .string ST, .int .i64 0] 40:=sT.set 2 (.string ST)
 have bW2:=below_set bW (w.heap.size+1) 2 (.string ST) (by omega)
 clear t10 y10 t11 y11 t12 y12 t13 y13
 clear sA sT bW
 have sA:=sA2
 have sT:=sT2
 have bW:=bW2
 clear sA2 sT2 bW2
 generalize W1.setCell ⟨w.heap.size+1,2,none⟩ (.string ST)=W2 at sA sT bW ⊢
 have t20:=sT.cell 0 _ rfl
 have t21:=sT.cell 1 _ rfl
 have t22:=sT.cell 2 _ rfl
 have t23:=sT.cell 3 _ rfl
 have y20:=sT.free 0
 have y21:=sT.free 1
 have y22:=sT.free 2
 have y23:=sT.free 3
 have hone:oneP _ wide=some (⟨a,0,LB ST,0⟩,_):=HK1.out
 have HO:=hid hone
 have cY:=fun w=>w_rbytes (a) (0) (0) (ST) wide w (by omega) (by omega) (by omega) (by omega) hSs
 clear hone
 cases hq:okQ ⟨a,0,LB ST,0⟩ wide with
 |true=>
  rw[hq] at cY
  have HQ:=hid hq
  clear hq
  go_wp2_with (first|(go_at_call 27;refine (cY _).mono ?_;rintro e w4 ⟨v4,rfl,o4,b4⟩;have sA4:=sA.below b4;have sT4:=sT.below b4;have bW4:=below_trans bW b4;have u40:=sA4.cell 0 _ rfl;have z40:=sA4.free 0;have t40:=sT4.cell 0 _ rfl;have u41:=sA4.cell 1 _ rfl;have z41:=sA4.free 1;have t41:=sT4.cell 1 _ rfl;have u42:=sA4.cell 2 _ rfl;have z42:=sA4.free 2;have t42:=sT4.cell 2 _ rfl;have u43:=sA4.cell 3 _ rfl;have z43:=sA4.free 3;have t43:=sT4.cell 3 _ rfl;have q4:OwB W2.heap.size w4 v4 (byQ ⟨a,0,LB ST,0⟩ wide):=(by first|exact o4 rfl|exact o4 trivial|exact o4);have hl4:=rd_len (Rd_own q4).1 uB (P:=Tryz.prog))|(go_at_call 17;refine (cB _).mono ?_;rintro e q ⟨rfl,hw⟩;obtain rfl:=hw.symm))
  have g9:=set4 sA4 (.int .i64 (a)) (.int .u32 (0)) (.string (ST)) (.int .i64 (0))
  refine bodyPost_ret (res_row2 rfl _ _ w.heap.size 40 _ (0,0) _ rfl g9 Tryz.underlying40 rfl (show _=some 4 by kernel_rfl)) rfl ?_
  have e9:(tqC ⟨a,0,LB ST,0⟩).toArray=#[.int .i64 (a), .int .u32 (0), .string (ST), .int .i64 (0)]:=by simp[tqC,nums_LB]
  have f9:=one_good HO.out HQ.out (bset4 bW4 _ (.int .i64 (a)) (.int .u32 (0)) (.string (ST)) (.int .i64 (0)) (Nat.le_refl _))
  rw[e9] at f9
  exact f9
 |false=>
  rw[hq] at cY
  have HQ:=hid hq
  clear hq
  go_wp2_with (first|(go_at_call 27;refine (cY _).mono ?_;rintro e w4 ⟨v4,rfl,o4,b4⟩;have sA4:=sA.below b4;have sT4:=sT.below b4;have bW4:=below_trans bW b4;have u40:=sA4.cell 0 _ rfl;have z40:=sA4.free 0;have t40:=sT4.cell 0 _ rfl;have u41:=sA4.cell 1 _ rfl;have z41:=sA4.free 1;have t41:=sT4.cell 1 _ rfl;have u42:=sA4.cell 2 _ rfl;have z42:=sA4.free 2;have t42:=sT4.cell 2 _ rfl;have u43:=sA4.cell 3 _ rfl;have z43:=sA4.free 3;have t43:=sT4.cell 3 _ rfl)|(go_at_call 17;refine (cB _).mono ?_;rintro e q ⟨rfl,hw⟩;obtain rfl:=hw.symm))
  have g9:=set4 sA4 (.int .i64 0) (.int .u32 0) (.string ⟨#[]⟩) (.int .i64 0)
  refine bodyPost_ret (res_row2 rfl _ _ w.heap.size 40 _ (0,0) _ rfl g9 Tryz.underlying40 rfl (show _=some 4 by kernel_rfl)) rfl ?_
  exact one_bad HO.out HQ.out (bset4 bW4 _ _ _ _ _ (Nat.le_refl _))
set_option maxHeartbeats 4000000 in
set_option maxRecDepth 100000 in
theorem w_one6t (v:Value) (a:Int) (r:List Int) (wide:Bool) (w:World) (h:Rd .u8 w v (a::r)) (hB:bytesL (a::r)) (hl:(a::r).length≤8192) (h16:16≤a) (hk:bhF a=6) (hge:¬(r.length:Int) < 1) (hge2:¬(r.length:Int) < 1+r.getD 0 0) (hlt:(r.length:Int) < 1+r.getD 0 0+2) (hn:bePn 6 a wide r=none):
  Calls Tryz.prog 30 #[v, .bool wide] w (OneP w (a::r) wide):=by
 have hone1:=one_1 a r wide 6 (by omega) hk
 have hlen:=rd_len h uB (P:=Tryz.prog)
 have hLL:((a::r).length:Int)=r.length+1:=by simp
 rw[hLL] at hlen
 have hrl:(r.length:Int)≤8191:=by have:(a::r).length=r.length+1:=rfl;omega
 have hBr:bytesL r:=fun x hx=>hB x (by simp[hx])
 have hab:=hB a (by simp)
 obtain ⟨ha0,ha1⟩:=hab
 obtain ⟨vr,rr,_,_,cut⟩:=rd_cut h uB zB 1 (a::r).length (by simp) (Nat.le_refl _)
 rw[show (List.drop 1 (a::r))=r from rfl,List.take_of_length_le (by simp)] at rr
 have cut1:∀w',(Instr.slice 29 v (some (.int .i64 1)) none none).run Tryz.prog w'= .ok vr w':=cut rfl
 have hlr:=rd_len rr uB (P:=Tryz.prog)
 clear cut hLL
 have cB:=fun w=>w_rbehind a w
 rw[hk] at cB
 rw[hn] at hone1
 have HK1:=hid hone1
 clear hn
 clear hone1 hk
 have hlz:((r.length:Int)+1==0)=false:=by rw[beq_eq_false_iff_ne];omega
 go_enter Tryz.func30,Tryz.ntmps30
 go_upto_region 4 with fail
 have bW:Below w.heap.size w ((w.alloc (.cells #[.int .i64 0, .int .u32 0, .string ⟨#[]⟩, .int .i64 0] 40)).alloc (.cells #[.int .i64 0, .int .u32 0, .string ⟨#[]⟩, .int .i64 0] 40)):=below_trans (box_below w _) (box_below _ _)
 have sA:Stands ((w.alloc (.cells #[.int .i64 0, .int .u32 0, .string ⟨#[]⟩, .int .i64 0] 40)).alloc (.cells #[.int .i64 0, .int .u32 0, .string ⟨#[]⟩, .int .i64 0] 40)) w.heap.size #[.int .i64 0, .int .u32 0, .string ⟨#[]⟩, .int .i64 0] 40:=(stands_new w _ _).below (box_below _ _)
 have sT:Stands ((w.alloc (.cells #[.int .i64 0, .int .u32 0, .string ⟨#[]⟩, .int .i64 0] 40)).alloc (.cells #[.int .i64 0, .int .u32 0, .string ⟨#[]⟩, .int .i64 0] 40)) (w.heap.size+1) #[.int .i64 0, .int .u32 0, .string ⟨#[]⟩, .int .i64 0] 40:=by have:=stands_new (w.alloc (.cells #[.int .i64 0, .int .u32 0, .string ⟨#[]⟩, .int .i64 0] 40)) #[.int .i64 0, .int .u32 0, .string ⟨#[]⟩, .int .i64 0] 40;rwa [size_al] at this
 generalize (w.alloc (.cells #[.int .i64 0, .int .u32 0, .string ⟨#[]⟩, .int .i64 0] 40)).alloc (.cells #[.int .i64 0, .int .u32 0, .string ⟨#[]⟩, .int .i64 0] 40)=W0 at bW sA sT ⊢
 obtain ⟨ad0,x0,i0,c0,_,_,g0⟩:=mem_at (h.below bW) hB 0 (by omega) (by simp only[List.length_cons];omega)
 simp only[Int.toNat_zero,List.getD_cons_zero] at g0
 subst g0
 have t00:=sT.cell 0 _ rfl
 have t01:=sT.cell 1 _ rfl
 have t02:=sT.cell 2 _ rfl
 have t03:=sT.cell 3 _ rfl
 have y00:=sT.free 0
 have y01:=sT.free 1
 have y02:=sT.free 2
 have y03:=sT.free 3
 go_upto_region 6 with fail
 have sA1:=sA.other 0 (.int .i64 a) (show ¬w.heap.size=w.heap.size+1 by omega)
 have sT1:Stands _ (w.heap.size+1) #[.int .i64 a, .int .u32 0, .string ⟨#[]⟩, .int .i64 0] 40:=sT.set 0 (.int .i64 a)
 have bW1:=below_set bW (w.heap.size+1) 0 (.int .i64 a) (by omega)
 clear t00 y00 t01 y01 t02 y02 t03 y03
 clear sA sT bW
 have sA:=sA1
 have sT:=sT1
 have bW:=bW1
 clear sA1 sT1 bW1
 generalize W0.setCell ⟨w.heap.size+1,0,none⟩ (.int .i64 a)=W1 at sA sT bW ⊢
 have t10:=sT.cell 0 _ rfl
 have t11:=sT.cell 1 _ rfl
 have t12:=sT.cell 2 _ rfl
 have t13:=sT.cell 3 _ rfl
 have y10:=sT.free 0
 have y11:=sT.free 1
 have y12:=sT.free 2
 have y13:=sT.free 3
 obtain ⟨ad0,x0,ii0,cw0,lo0,hi0,gg0⟩:=mem_at rr hBr 0 (by omega) (by omega)
 have cc0:=below_cell bW cw0
 have gx:r.getD 0 0=x0:=gg0
 rw[gx] at hge2 hlt
 clear gg0 gx
 obtain ⟨vs,rs,cuts,_,_⟩:=rd_cutI rr uB zB 1 (1+x0) (by omega) (by omega) (by omega)
 have hcv:=rd_strT (rs.below bW)
 have hsl:((r.drop (1:Int).toNat).take (1+x0 - 1).toNat)=(r.drop 1).take x0.toNat:=by rw[show (1+x0 - 1).toNat=x0.toNat by omega];rfl
 rw[hsl] at hcv
 have hST:∃ST,strOfNums ((r.drop 1).take x0.toNat)=ST:=⟨_,rfl⟩
 obtain ⟨ST,hST⟩:=hST
 rw[hST] at hcv
 have hLB:LB ST=(r.drop 1).take x0.toNat:=by rw[←hST];exact LB_nums _ (fun x hx=>hBr x (List.mem_of_mem_drop (List.mem_of_mem_take hx)))
 have hSs:ST.size≤maxLen:=by rw[←LB_len,hLB];unfold maxLen;simp only[List.length_take,List.length_drop];omega
 clear hLB hST hsl rs
 go_upto_region 45 with (first|(go_at_call 17;refine (cB _).mono ?_;rintro e q ⟨rfl,hw⟩;obtain rfl:=hw.symm))
 have sA2:=sA.other 2 (.string ST) (show ¬w.heap.size=w.heap.size+1 by omega)
 have sT2:Stands _ (w.heap.size+1) #[.int .i64 a, .int .u32 0, .string ST, .int .i64 0] 40:=sT.set 2 (.string ST)
 have bW2:=below_set bW (w.heap.size+1) 2 (.string ST) (by omega)
 clear t10 y10 t11 y11 t12 y12 t13 y13
 clear sA sT bW
 have sA:=sA2
 have sT:=sT2
 have bW:=bW2
 clear sA2 sT2 bW2
 generalize W1.setCell ⟨w.heap.size+1,2,none⟩ (.string ST)=W2 at sA sT bW ⊢
 have t20:=sT.cell 0 _ rfl
 have t21:=sT.cell 1 _ rfl
 have t22:=sT.cell 2 _ rfl
 have t23:=sT.cell 3 _ rfl
 have y20:=sT.free 0
 have y21:=sT.free 1
 have y22:=sT.free 2
 have y23:=sT.free 3
 have u20:=sA.cell 0 _ rfl
 have z20:=sA.free 0
 have u21:=sA.cell 1 _ rfl
 have z21:=sA.free 1
 have u22:=sA.cell 2 _ rfl
 have z22:=sA.free 2
 have u23:=sA.cell 3 _ rfl
 have z23:=sA.free 3
 go_wp2_with (first|(go_at_call 17;refine (cB _).mono ?_;rintro e q ⟨rfl,hw⟩;obtain rfl:=hw.symm))
 have g9:=set4 sA (.int .i64 0) (.int .u32 0) (.string ⟨#[]⟩) (.int .i64 0)
 refine bodyPost_ret (res_row2 rfl _ _ w.heap.size 40 _ (0,0) _ rfl g9 Tryz.underlying40 rfl (show _=some 4 by kernel_rfl)) rfl ?_
 exact one_none HK1.out (bset4 bW _ _ _ _ _ (Nat.le_refl _))
set_option maxHeartbeats 4000000 in
set_option maxRecDepth 100000 in
theorem w_one6 (v:Value) (a:Int) (r:List Int) (wide:Bool) (w:World) (h:Rd .u8 w v (a::r)) (hB:bytesL (a::r)) (hl:(a::r).length≤8192) (h16:16≤a) (hk:bhF a=6) (hge:¬(r.length:Int) < 1) (hge2:¬(r.length:Int) < 1+r.getD 0 0) (hge3:¬(r.length:Int) < 1+r.getD 0 0+2) (N:Int) (r2:List Int) (hn:bePn 6 a wide r=some (⟨a,N,(r.drop 1).take (r.getD 0 0).toNat,0⟩,r2)) (hN:N=r.getD (1+r.getD 0 0).toNat 0*256+r.getD (1+r.getD 0 0+1).toNat 0):
  Calls Tryz.prog 30 #[v, .bool wide] w (OneP w (a::r) wide):=by
 have hone1:=one_1 a r wide 6 (by omega) hk
 have hlen:=rd_len h uB (P:=Tryz.prog)
 have hLL:((a::r).length:Int)=r.length+1:=by simp
 rw[hLL] at hlen
 have hrl:(r.length:Int)≤8191:=by have:(a::r).length=r.length+1:=rfl;omega
 have hBr:bytesL r:=fun x hx=>hB x (by simp[hx])
 have hab:=hB a (by simp)
 obtain ⟨ha0,ha1⟩:=hab
 obtain ⟨vr,rr,_,_,cut⟩:=rd_cut h uB zB 1 (a::r).length (by simp) (Nat.le_refl _)
 rw[show (List.drop 1 (a::r))=r from rfl,List.take_of_length_le (by simp)] at rr
 have cut1:∀w',(Instr.slice 29 v (some (.int .i64 1)) none none).run Tryz.prog w'= .ok vr w':=cut rfl
 have hlr:=rd_len rr uB (P:=Tryz.prog)
 clear cut hLL
 have cB:=fun w=>w_rbehind a w
 rw[hk] at cB
 rw[hn] at hone1
 have HK1:=hid hone1
 clear hn
 clear hone1 hk
 have hlz:((r.length:Int)+1==0)=false:=by rw[beq_eq_false_iff_ne];omega
 go_enter Tryz.func30,Tryz.ntmps30
 go_upto_region 4 with fail
 have bW:Below w.heap.size w ((w.alloc (.cells #[.int .i64 0, .int .u32 0, .string ⟨#[]⟩, .int .i64 0] 40)).alloc (.cells #[.int .i64 0, .int .u32 0, .string ⟨#[]⟩, .int .i64 0] 40)):=below_trans (box_below w _) (box_below _ _)
 have sA:Stands ((w.alloc (.cells #[.int .i64 0, .int .u32 0, .string ⟨#[]⟩, .int .i64 0] 40)).alloc (.cells #[.int .i64 0, .int .u32 0, .string ⟨#[]⟩, .int .i64 0] 40)) w.heap.size #[.int .i64 0, .int .u32 0, .string ⟨#[]⟩, .int .i64 0] 40:=(stands_new w _ _).below (box_below _ _)
 have sT:Stands ((w.alloc (.cells #[.int .i64 0, .int .u32 0, .string ⟨#[]⟩, .int .i64 0] 40)).alloc (.cells #[.int .i64 0, .int .u32 0, .string ⟨#[]⟩, .int .i64 0] 40)) (w.heap.size+1) #[.int .i64 0, .int .u32 0, .string ⟨#[]⟩, .int .i64 0] 40:=by have:=stands_new (w.alloc (.cells #[.int .i64 0, .int .u32 0, .string ⟨#[]⟩, .int .i64 0] 40)) #[.int .i64 0, .int .u32 0, .string ⟨#[]⟩, .int .i64 0] 40;rwa [size_al] at this
 generalize (w.alloc (.cells #[.int .i64 0, .int .u32 0, .string ⟨#[]⟩, .int .i64 0] 40)).alloc (.cells #[.int .i64 0, .int .u32 0, .string ⟨#[]⟩, .int .i64 0] 40)=W0 at bW sA sT ⊢
 obtain ⟨ad0,x0,i0,c0,_,_,g0⟩:=mem_at (h.below bW) hB 0 (by omega) (by simp only[List.length_cons];omega)
 simp only[Int.toNat_zero,List.getD_cons_zero] at g0
 subst g0
 have t00:=sT.cell 0 _ rfl
 have t01:=sT.cell 1 _ rfl
 have t02:=sT.cell 2 _ rfl
 have t03:=sT.cell 3 _ rfl
 have y00:=sT.free 0
 have y01:=sT.free 1
 have y02:=sT.free 2
 have y03:=sT.free 3
 go_upto_region 6 with fail
 have sA1:=sA.other 0 (.int .i64 a) (show ¬w.heap.size=w.heap.size+1 by omega)
 have sT1:Stands _ (w.heap.size+1) #[.int .i64 a, .int .u32 0, .string ⟨#[]⟩, .int .i64 0] 40:=sT.set 0 (.int .i64 a)
 have bW1:=below_set bW (w.heap.size+1) 0 (.int .i64 a) (by omega)
 clear t00 y00 t01 y01 t02 y02 t03 y03
 clear sA sT bW
 have sA:=sA1
 have sT:=sT1
 have bW:=bW1
 clear sA1 sT1 bW1
 generalize W0.setCell ⟨w.heap.size+1,0,none⟩ (.int .i64 a)=W1 at sA sT bW ⊢
 have t10:=sT.cell 0 _ rfl
 have t11:=sT.cell 1 _ rfl
 have t12:=sT.cell 2 _ rfl
 have t13:=sT.cell 3 _ rfl
 have y10:=sT.free 0
 have y11:=sT.free 1
 have y12:=sT.free 2
 have y13:=sT.free 3
 obtain ⟨ad0,x0,ii0,cw0,lo0,hi0,gg0⟩:=mem_at rr hBr 0 (by omega) (by omega)
 have cc0:=below_cell bW cw0
 have gx:r.getD 0 0=x0:=gg0
 rw[gx] at hge2 hge3 HK1 hN
 clear gg0 gx
 obtain ⟨vs,rs,cuts,_,_⟩:=rd_cutI rr uB zB 1 (1+x0) (by omega) (by omega) (by omega)
 have hcv:=rd_strT (rs.below bW)
 have hsl:((r.drop (1:Int).toNat).take (1+x0 - 1).toNat)=(r.drop 1).take x0.toNat:=by rw[show (1+x0 - 1).toNat=x0.toNat by omega];rfl
 rw[hsl] at hcv
 have hST:∃ST,strOfNums ((r.drop 1).take x0.toNat)=ST:=⟨_,rfl⟩
 obtain ⟨ST,hST⟩:=hST
 rw[hST] at hcv
 have hLB:LB ST=(r.drop 1).take x0.toNat:=by rw[←hST];exact LB_nums _ (fun x hx=>hBr x (List.mem_of_mem_drop (List.mem_of_mem_take hx)))
 have hSs:ST.size≤maxLen:=by rw[←LB_len,hLB];unfold maxLen;simp only[List.length_take,List.length_drop];omega
 obtain ⟨ad1,x1,ii1,cw1,lo1,hi1,gg1⟩:=mem_at rr hBr (1+x0) (by omega) (by omega)
 have cc1:=below_cell bW cw1
 obtain ⟨ad2,x2,ii2,cw2,lo2,hi2,gg2⟩:=mem_at rr hBr (1+x0+1) (by omega) (by omega)
 have cc2:=below_cell bW cw2
 have HN:Hid (N=x1*256+x2):=by show _=_;rw[hN,gg1,gg2]
 have N0:0≤N:=by have:=HN.out;omega
 have N1:N < 4294967296:=by have:=HN.out;omega
 rw[←hLB] at HK1
 clear hLB hST hsl rs hN gg1 gg2
 go_upto_region 45 with (first|(go_at_call 17;refine (cB _).mono ?_;rintro e q ⟨rfl,hw⟩;obtain rfl:=hw.symm))
 have sA2:=sA.other 2 (.string ST) (show ¬w.heap.size=w.heap.size+1 by omega)
 have sT2:Stands _ (w.heap.size+1) #[.int .i64 a, .int .u32 0, .string ST, .int .i64 0] 40:=sT.set 2 (.string ST)
 have bW2:=below_set bW (w.heap.size+1) 2 (.string ST) (by omega)
 clear t10 y10 t11 y11 t12 y12 t13 y13
 clear sA sT bW
 have sA:=sA2
 have sT:=sT2
 have bW:=bW2
 clear sA2 sT2 bW2
 generalize W1.setCell ⟨w.heap.size+1,2,none⟩ (.string ST)=W2 at sA sT bW ⊢
 have t20:=sT.cell 0 _ rfl
 have t21:=sT.cell 1 _ rfl
 have t22:=sT.cell 2 _ rfl
 have t23:=sT.cell 3 _ rfl
 have y20:=sT.free 0
 have y21:=sT.free 1
 have y22:=sT.free 2
 have y23:=sT.free 3
 have cd1:=below_cell bW cw1
 have cd2:=below_cell bW cw2
 go_upto_region 48 with (first|(go_at_call 17;refine (cB _).mono ?_;rintro e q ⟨rfl,hw⟩;obtain rfl:=hw.symm))
 go_region
 rw[show x1*256+x2=N from HN.out.symm]
 have bd:Below (W2.setCell ⟨w.heap.size+1,1,none⟩ (.int .u32 (N))).heap.size (W2.setCell ⟨w.heap.size+1,1,none⟩ (.int .u32 (N))) (W2.setCell ⟨w.heap.size+1,1,none⟩ (.int .u32 (N))).drew:=below_drewN (Below.refl _ _) 1
 have sA3:=(sA.other 1 (.int .u32 (N)) (show ¬w.heap.size=w.heap.size+1 by omega)).below bd
 have sT3:Stands _ (w.heap.size+1) #[.int .i64 a, .int .u32 N, .string ST, .int .i64 0] 40:=(sT.set 1 (.int .u32 (N))).below bd
 have bW3:=below_trans (below_set bW (w.heap.size+1) 1 (.int .u32 (N)) (by omega)) bd
 clear t20 y20 t21 y21 t22 y22 t23 y23
 clear sA sT bW bd
 have sA:=sA3
 have sT:=sT3
 have bW:=bW3
 clear sA3 sT3 bW3
 generalize (W2.setCell ⟨w.heap.size+1,1,none⟩ (.int .u32 (N))).drew=W3 at sA sT bW ⊢
 have t30:=sT.cell 0 _ rfl
 have t31:=sT.cell 1 _ rfl
 have t32:=sT.cell 2 _ rfl
 have t33:=sT.cell 3 _ rfl
 have y30:=sT.free 0
 have y31:=sT.free 1
 have y32:=sT.free 2
 have y33:=sT.free 3
 have hone:oneP _ wide=some (⟨a,N,LB ST,0⟩,_):=HK1.out
 have HO:=hid hone
 have cY:=fun w=>w_rbytes (a) (N) (0) (ST) wide w N0 N1 (by omega) (by omega) hSs
 clear hone
 cases hq:okQ ⟨a,N,LB ST,0⟩ wide with
 |true=>
  rw[hq] at cY
  have HQ:=hid hq
  clear hq
  go_wp2_with (first|(go_at_call 27;refine (cY _).mono ?_;rintro e w4 ⟨v4,rfl,o4,b4⟩;have sA4:=sA.below b4;have sT4:=sT.below b4;have bW4:=below_trans bW b4;have u40:=sA4.cell 0 _ rfl;have z40:=sA4.free 0;have t40:=sT4.cell 0 _ rfl;have u41:=sA4.cell 1 _ rfl;have z41:=sA4.free 1;have t41:=sT4.cell 1 _ rfl;have u42:=sA4.cell 2 _ rfl;have z42:=sA4.free 2;have t42:=sT4.cell 2 _ rfl;have u43:=sA4.cell 3 _ rfl;have z43:=sA4.free 3;have t43:=sT4.cell 3 _ rfl;have q4:OwB W3.heap.size w4 v4 (byQ ⟨a,N,LB ST,0⟩ wide):=(by first|exact o4 rfl|exact o4 trivial|exact o4);have hl4:=rd_len (Rd_own q4).1 uB (P:=Tryz.prog))|(go_at_call 17;refine (cB _).mono ?_;rintro e q ⟨rfl,hw⟩;obtain rfl:=hw.symm))
  have g9:=set4 sA4 (.int .i64 (a)) (.int .u32 (N)) (.string (ST)) (.int .i64 (0))
  refine bodyPost_ret (res_row2 rfl _ _ w.heap.size 40 _ (0,0) _ rfl g9 Tryz.underlying40 rfl (show _=some 4 by kernel_rfl)) rfl ?_
  have e9:(tqC ⟨a,N,LB ST,0⟩).toArray=#[.int .i64 (a), .int .u32 (N), .string (ST), .int .i64 (0)]:=by simp[tqC,nums_LB]
  have f9:=one_good HO.out HQ.out (bset4 bW4 _ (.int .i64 (a)) (.int .u32 (N)) (.string (ST)) (.int .i64 (0)) (Nat.le_refl _))
  rw[e9] at f9
  exact f9
 |false=>
  rw[hq] at cY
  have HQ:=hid hq
  clear hq
  go_wp2_with (first|(go_at_call 27;refine (cY _).mono ?_;rintro e w4 ⟨v4,rfl,o4,b4⟩;have sA4:=sA.below b4;have sT4:=sT.below b4;have bW4:=below_trans bW b4;have u40:=sA4.cell 0 _ rfl;have z40:=sA4.free 0;have t40:=sT4.cell 0 _ rfl;have u41:=sA4.cell 1 _ rfl;have z41:=sA4.free 1;have t41:=sT4.cell 1 _ rfl;have u42:=sA4.cell 2 _ rfl;have z42:=sA4.free 2;have t42:=sT4.cell 2 _ rfl;have u43:=sA4.cell 3 _ rfl;have z43:=sA4.free 3;have t43:=sT4.cell 3 _ rfl)|(go_at_call 17;refine (cB _).mono ?_;rintro e q ⟨rfl,hw⟩;obtain rfl:=hw.symm))
  have g9:=set4 sA4 (.int .i64 0) (.int .u32 0) (.string ⟨#[]⟩) (.int .i64 0)
  refine bodyPost_ret (res_row2 rfl _ _ w.heap.size 40 _ (0,0) _ rfl g9 Tryz.underlying40 rfl (show _=some 4 by kernel_rfl)) rfl ?_
  exact one_bad HO.out HQ.out (bset4 bW4 _ _ _ _ _ (Nat.le_refl _))
set_option maxHeartbeats 4000000 in
set_option maxRecDepth 100000 in
theorem w_onet (v:Value) (a:Int) (wide:Bool) (w:World) (h:Rd .u8 w v ([a])) (hB:bytesL ([a])) (hl:([a]).length≤8192) (h0:0 < a) (h16:a < 16):
  Calls Tryz.prog 30 #[v, .bool wide] w (OneP w ([a]) wide):=by
 have hone1:oneP [a] wide=none:=by simp only[oneP,cdP];rw[if_neg (by omega)];rfl
 have HK1:=hid hone1
 clear hone1
 have hlen:=rd_len h uB (P:=Tryz.prog)
 have hlen:∀ty w',(Builtin.len_ #[29] ty #[v]).run Tryz.prog w'= .ok (.int .i64 1) w':=hlen
 have hab:=hB a (by simp)
 obtain ⟨ha0,ha1⟩:=hab
 have cB:=fun w=>w_rbehind a w
 have hlz:((1:Int)==0)=false:=by decide
 go_enter Tryz.func30,Tryz.ntmps30
 go_upto_region 4 with fail
 have bW:Below w.heap.size w ((w.alloc (.cells #[.int .i64 0, .int .u32 0, .string ⟨#[]⟩, .int .i64 0] 40)).alloc (.cells #[.int .i64 0, .int .u32 0, .string ⟨#[]⟩, .int .i64 0] 40)):=below_trans (box_below w _) (box_below _ _)
 have sA:Stands ((w.alloc (.cells #[.int .i64 0, .int .u32 0, .string ⟨#[]⟩, .int .i64 0] 40)).alloc (.cells #[.int .i64 0, .int .u32 0, .string ⟨#[]⟩, .int .i64 0] 40)) w.heap.size #[.int .i64 0, .int .u32 0, .string ⟨#[]⟩, .int .i64 0] 40:=(stands_new w _ _).below (box_below _ _)
 have sT:Stands ((w.alloc (.cells #[.int .i64 0, .int .u32 0, .string ⟨#[]⟩, .int .i64 0] 40)).alloc (.cells #[.int .i64 0, .int .u32 0, .string ⟨#[]⟩, .int .i64 0] 40)) (w.heap.size+1) #[.int .i64 0, .int .u32 0, .string ⟨#[]⟩, .int .i64 0] 40:=by have:=stands_new (w.alloc (.cells #[.int .i64 0, .int .u32 0, .string ⟨#[]⟩, .int .i64 0] 40)) #[.int .i64 0, .int .u32 0, .string ⟨#[]⟩, .int .i64 0] 40;rwa [size_al] at this
 generalize (w.alloc (.cells #[.int .i64 0, .int .u32 0, .string ⟨#[]⟩, .int .i64 0] 40)).alloc (.cells #[.int .i64 0, .int .u32 0, .string ⟨#[]⟩, .int .i64 0] 40)=W0 at bW sA sT ⊢
 obtain ⟨ad0,x0,i0,c0,_,_,g0⟩:=mem_at (h.below bW) hB 0 (by omega) (by simp)
 simp only[Int.toNat_zero,List.getD_cons_zero] at g0
 subst g0
 have t00:=sT.cell 0 _ rfl
 have t01:=sT.cell 1 _ rfl
 have t02:=sT.cell 2 _ rfl
 have t03:=sT.cell 3 _ rfl
 have y00:=sT.free 0
 have y01:=sT.free 1
 have y02:=sT.free 2
 have y03:=sT.free 3
 go_upto_region 6 with fail
 have sA1:=sA.other 0 (.int .i64 a) (show ¬w.heap.size=w.heap.size+1 by omega)
 have sT1:Stands _ (w.heap.size+1) #[.int .i64 a, .int .u32 0, .string ⟨#[]⟩, .int .i64 0] 40:=sT.set 0 (.int .i64 a)
 have bW1:=below_set bW (w.heap.size+1) 0 (.int .i64 a) (by omega)
 clear t00 y00 t01 y01 t02 y02 t03 y03
 clear sA sT bW
 have sA:=sA1
 have sT:=sT1
 have bW:=bW1
 clear sA1 sT1 bW1
 generalize W0.setCell ⟨w.heap.size+1,0,none⟩ (.int .i64 a)=W1 at sA sT bW ⊢
 have t10:=sT.cell 0 _ rfl
 have t11:=sT.cell 1 _ rfl
 have t12:=sT.cell 2 _ rfl
 have t13:=sT.cell 3 _ rfl
 have y10:=sT.free 0
 have y11:=sT.free 1
 have y12:=sT.free 2
 have y13:=sT.free 3
 have u10:=sA.cell 0 _ rfl
 have z10:=sA.free 0
 have u11:=sA.cell 1 _ rfl
 have z11:=sA.free 1
 have u12:=sA.cell 2 _ rfl
 have z12:=sA.free 2
 have u13:=sA.cell 3 _ rfl
 have z13:=sA.free 3
 go_wp2_with fail
 have g9:=set4 sA (.int .i64 0) (.int .u32 0) (.string ⟨#[]⟩) (.int .i64 0)
 refine bodyPost_ret (res_row2 rfl _ _ w.heap.size 40 _ (0,0) _ rfl g9 Tryz.underlying40 rfl (show _=some 4 by kernel_rfl)) rfl ?_
 exact one_none HK1.out (bset4 bW _ _ _ _ _ (Nat.le_refl _))
set_option maxHeartbeats 4000000 in
set_option maxRecDepth 100000 in
theorem w_onetw (v:Value) (a b:Int) (r:List Int) (wide:Bool) (w:World) (h:Rd .u8 w v (a::b::r)) (hB:bytesL (a::b::r)) (hl:(a::b::r).length≤8192) (h0:0 < a) (h16:a < 16):
  Calls Tryz.prog 30 #[v, .bool wide] w (OneP w (a::b::r) wide):=by
 have hone1:oneP (a::b::r) wide=some (⟨a*256+b,0,[],0⟩,r):=by
  have hb:=hB b (by simp)
  simp only[oneP,cdP]
  rw[if_neg (by omega)]
  simp only[Option.bind_some]
  rw[bh_big (a*256+b) (by omega)]
  rfl
 have HK1:=hid hone1
 clear hone1
 have hbb:=hB b (by simp)
 obtain ⟨hb0,hb1⟩:=hbb
 have hC:∃C,a*256+b=C:=⟨_,rfl⟩
 obtain ⟨C,hC⟩:=hC
 rw[hC] at HK1
 have hk:bhF C=0:=bh_big C (by omega)
 have C0:256≤C:=by omega
 have C1:C < 65536:=by omega
 have HC:=hid hC
 clear hC
 have hlen:=rd_len h uB (P:=Tryz.prog)
 have hLL:((a::b::r).length:Int)=r.length+2:=by simp;omega
 rw[hLL] at hlen
 have hrl:(r.length:Int)≤8190:=by have:(a::b::r).length=r.length+2:=rfl;omega
 clear hLL
 have hab:=hB a (by simp)
 obtain ⟨ha0,ha1⟩:=hab
 obtain ⟨vr,rr,_,_,cut⟩:=rd_cut h uB zB 2 (a::b::r).length (by simp) (Nat.le_refl _)
 have cut1:∀w',(Instr.slice 29 v (some (.int .i64 2)) none none).run Tryz.prog w'= .ok vr w':=cut rfl
 clear cut
 have cB:=fun w=>w_rbehind C w
 rw[hk] at cB
 clear hk
 have hlz:((r.length:Int)+2==0)=false:=by rw[beq_eq_false_iff_ne];omega
 go_enter Tryz.func30,Tryz.ntmps30
 go_upto_region 4 with fail
 have bW:Below w.heap.size w ((w.alloc (.cells #[.int .i64 0, .int .u32 0, .string ⟨#[]⟩, .int .i64 0] 40)).alloc (.cells #[.int .i64 0, .int .u32 0, .string ⟨#[]⟩, .int .i64 0] 40)):=below_trans (box_below w _) (box_below _ _)
 have sA:Stands ((w.alloc (.cells #[.int .i64 0, .int .u32 0, .string ⟨#[]⟩, .int .i64 0] 40)).alloc (.cells #[.int .i64 0, .int .u32 0, .string ⟨#[]⟩, .int .i64 0] 40)) w.heap.size #[.int .i64 0, .int .u32 0, .string ⟨#[]⟩, .int .i64 0] 40:=(stands_new w _ _).below (box_below _ _)
 have sT:Stands ((w.alloc (.cells #[.int .i64 0, .int .u32 0, .string ⟨#[]⟩, .int .i64 0] 40)).alloc (.cells #[.int .i64 0, .int .u32 0, .string ⟨#[]⟩, .int .i64 0] 40)) (w.heap.size+1) #[.int .i64 0, .int .u32 0, .string ⟨#[]⟩, .int .i64 0] 40:=by have:=stands_new (w.alloc (.cells #[.int .i64 0, .int .u32 0, .string ⟨#[]⟩, .int .i64 0] 40)) #[.int .i64 0, .int .u32 0, .string ⟨#[]⟩, .int .i64 0] 40;rwa [size_al] at this
 generalize (w.alloc (.cells #[.int .i64 0, .int .u32 0, .string ⟨#[]⟩, .int .i64 0] 40)).alloc (.cells #[.int .i64 0, .int .u32 0, .string ⟨#[]⟩, .int .i64 0] 40)=W0 at bW sA sT ⊢
 obtain ⟨ad0,x0,i0,c0,_,_,g0⟩:=mem_at (h.below bW) hB 0 (by omega) (by simp only[List.length_cons];omega)
 simp only[Int.toNat_zero,List.getD_cons_zero] at g0
 subst g0
 have t00:=sT.cell 0 _ rfl
 have t01:=sT.cell 1 _ rfl
 have t02:=sT.cell 2 _ rfl
 have t03:=sT.cell 3 _ rfl
 have y00:=sT.free 0
 have y01:=sT.free 1
 have y02:=sT.free 2
 have y03:=sT.free 3
 go_upto_region 6 with fail
 have sA1:=sA.other 0 (.int .i64 a) (show ¬w.heap.size=w.heap.size+1 by omega)
 have sT1:Stands _ (w.heap.size+1) #[.int .i64 a, .int .u32 0, .string ⟨#[]⟩, .int .i64 0] 40:=sT.set 0 (.int .i64 a)
 have bW1:=below_set bW (w.heap.size+1) 0 (.int .i64 a) (by omega)
 clear t00 y00 t01 y01 t02 y02 t03 y03
 clear sA sT bW
 have sA:=sA1
 have sT:=sT1
 have bW:=bW1
 clear sA1 sT1 bW1
 generalize W0.setCell ⟨w.heap.size+1,0,none⟩ (.int .i64 a)=W1 at sA sT bW ⊢
 have t10:=sT.cell 0 _ rfl
 have t11:=sT.cell 1 _ rfl
 have t12:=sT.cell 2 _ rfl
 have t13:=sT.cell 3 _ rfl
 have y10:=sT.free 0
 have y11:=sT.free 1
 have y12:=sT.free 2
 have y13:=sT.free 3
 obtain ⟨ad1,x1,i1,cw1,_,_,g1⟩:=mem_at h hB 1 (by omega) (by simp only[List.length_cons];omega)
 have g1':b=x1:=g1
 subst g1'
 clear g1
 have cd1:=below_cell bW cw1
 go_upto_region 9 with fail
 go_region
 rw[show a*256+b=C from HC.out]
 have bd:Below (W1.setCell ⟨w.heap.size+1,0,none⟩ (.int .i64 (C))).heap.size (W1.setCell ⟨w.heap.size+1,0,none⟩ (.int .i64 (C))) (W1.setCell ⟨w.heap.size+1,0,none⟩ (.int .i64 (C))).drew:=below_drewN (Below.refl _ _) 1
 have sA2:=(sA.other 0 (.int .i64 (C)) (show ¬w.heap.size=w.heap.size+1 by omega)).below bd
 have sT2:Stands _ (w.heap.size+1) #[.int .i64 C, .int .u32 0, .string ⟨#[]⟩, .int .i64 0] 40:=(sT.set 0 (.int .i64 (C))).below bd
 have bW2:=below_trans (below_set bW (w.heap.size+1) 0 (.int .i64 (C)) (by omega)) bd
 clear t10 y10 t11 y11 t12 y12 t13 y13
 clear sA sT bW bd
 have sA:=sA2
 have sT:=sT2
 have bW:=bW2
 clear sA2 sT2 bW2
 generalize (W1.setCell ⟨w.heap.size+1,0,none⟩ (.int .i64 (C))).drew=W2 at sA sT bW ⊢
 have t20:=sT.cell 0 _ rfl
 have t21:=sT.cell 1 _ rfl
 have t22:=sT.cell 2 _ rfl
 have t23:=sT.cell 3 _ rfl
 have y20:=sT.free 0
 have y21:=sT.free 1
 have y22:=sT.free 2
 have y23:=sT.free 3
 have hone:oneP _ wide=some (⟨C,0,LB ⟨#[]⟩,0⟩,_):=HK1.out
 have HO:=hid hone
 have cY:=fun w=>w_rbytes (C) (0) (0) (⟨#[]⟩) wide w (by omega) (by omega) (by omega) (by omega) (by decide)
 clear hone
 cases hq:okQ ⟨C,0,LB ⟨#[]⟩,0⟩ wide with
 |true=>
  rw[hq] at cY
  have HQ:=hid hq
  clear hq
  go_wp2_with (first|(go_at_call 27;refine (cY _).mono ?_;rintro e w4 ⟨v4,rfl,o4,b4⟩;have sA4:=sA.below b4;have sT4:=sT.below b4;have bW4:=below_trans bW b4;have u40:=sA4.cell 0 _ rfl;have z40:=sA4.free 0;have t40:=sT4.cell 0 _ rfl;have u41:=sA4.cell 1 _ rfl;have z41:=sA4.free 1;have t41:=sT4.cell 1 _ rfl;have u42:=sA4.cell 2 _ rfl;have z42:=sA4.free 2;have t42:=sT4.cell 2 _ rfl;have u43:=sA4.cell 3 _ rfl;have z43:=sA4.free 3;have t43:=sT4.cell 3 _ rfl;have q4:OwB W2.heap.size w4 v4 (byQ ⟨C,0,LB ⟨#[]⟩,0⟩ wide):=(by first|exact o4 rfl|exact o4 trivial|exact o4);have hl4:=rd_len (Rd_own q4).1 uB (P:=Tryz.prog))|(go_at_call 17;refine (cB _).mono ?_;rintro e q ⟨rfl,hw⟩;obtain rfl:=hw.symm))
  have g9:=set4 sA4 (.int .i64 (C)) (.int .u32 (0)) (.string (⟨#[]⟩)) (.int .i64 (0))
  refine bodyPost_ret (res_row2 rfl _ _ w.heap.size 40 _ (0,0) _ rfl g9 Tryz.underlying40 rfl (show _=some 4 by kernel_rfl)) rfl ?_
  have e9:(tqC ⟨C,0,LB ⟨#[]⟩,0⟩).toArray=#[.int .i64 (C), .int .u32 (0), .string (⟨#[]⟩), .int .i64 (0)]:=by simp[tqC,nums_LB]
  have f9:=one_good HO.out HQ.out (bset4 bW4 _ (.int .i64 (C)) (.int .u32 (0)) (.string (⟨#[]⟩)) (.int .i64 (0)) (Nat.le_refl _))
  rw[e9] at f9
  exact f9
 |false=>
  rw[hq] at cY
  have HQ:=hid hq
  clear hq
  go_wp2_with (first|(go_at_call 27;refine (cY _).mono ?_;rintro e w4 ⟨v4,rfl,o4,b4⟩;have sA4:=sA.below b4;have sT4:=sT.below b4;have bW4:=below_trans bW b4;have u40:=sA4.cell 0 _ rfl;have z40:=sA4.free 0;have t40:=sT4.cell 0 _ rfl;have u41:=sA4.cell 1 _ rfl;have z41:=sA4.free 1;have t41:=sT4.cell 1 _ rfl;have u42:=sA4.cell 2 _ rfl;have z42:=sA4.free 2;have t42:=sT4.cell 2 _ rfl;have u43:=sA4.cell 3 _ rfl;have z43:=sA4.free 3;have t43:=sT4.cell 3 _ rfl)|(go_at_call 17;refine (cB _).mono ?_;rintro e q ⟨rfl,hw⟩;obtain rfl:=hw.symm))
  have g9:=set4 sA4 (.int .i64 0) (.int .u32 0) (.string ⟨#[]⟩) (.int .i64 0)
  refine bodyPost_ret (res_row2 rfl _ _ w.heap.size 40 _ (0,0) _ rfl g9 Tryz.underlying40 rfl (show _=some 4 by kernel_rfl)) rfl ?_
  exact one_bad HO.out HQ.out (bset4 bW4 _ _ _ _ _ (Nat.le_refl _))
theorem w_rone (v:Value) (b:List Int) (wide:Bool) (w:World) (h:Rd .u8 w v b) (hB:bytesL b) (hl:b.length≤8192):
  Calls Tryz.prog 30 #[v, .bool wide] w (OneP w b wide):=by
 match b with
 |[]=>exact w_oneN v wide w h hB hl
 |a::r=>
  have ha:=hB a (by simp)
  by_cases hz:a=0
  ·exact w_one0z v a r wide w h hB hl hz
  by_cases h16:16≤a
  case neg=>
   match r with
   |[]=>exact w_onet v a wide w h hB hl (by omega) (by omega)
   |b::r=>exact w_onetw v a b r wide w h hB hl (by omega) (by omega)
  have hBr:bytesL r:=fun x hx=>hB x (by simp[hx])
  have hk:=bh_le a
  obtain ⟨k,hkk⟩:∃k,bhF a=k:=⟨_,rfl⟩
  rw[hkk] at hk
  match k,hk with
  |0,_=>exact w_one0 v a r wide w h hB hl h16 hkk
  |1,_=>
   match r with
   |[]=>exact w_one1f v a _ wide w h hB hl h16 hkk (by simp) rfl
   |[b0]=>exact w_one1f v a _ wide w h hB hl h16 hkk (by simp) rfl
   |[b0,b1]=>exact w_one1f v a _ wide w h hB hl h16 hkk (by simp) rfl
   |[b0,b1,b2]=>exact w_one1f v a _ wide w h hB hl h16 hkk (by simp) rfl
   |b0::b1::b2::b3::r=>
    have q0:=hBr b0 (by simp)
    have q1:=hBr b1 (by simp)
    have q2:=hBr b2 (by simp)
    have q3:=hBr b3 (by simp)
    exact w_one1 v a _ wide w h hB hl h16 hkk (by simp only[List.length_cons];omega) _ _ rfl rfl (by omega) (by omega)
  |2,_=>
   match r with
   |[]=>exact w_one2e v a _ wide w h hB hl h16 hkk (by simp) rfl
   |b0::r=>
    have q0:=hBr b0 (by simp)
    by_cases hb0:b0=0
    ·subst hb0
     exact w_one2z v a _ wide w h hB hl h16 hkk (by simp only[List.length_cons];omega) r rfl rfl
    by_cases hb1:16≤b0
    ·exact w_one2g v a _ wide w h hB hl h16 hkk (by simp only[List.length_cons];omega) r (by simp only[bePn,cdP];rw[if_pos (Or.inr hb1)];rfl) hb1
    ·match r with
     |[]=>exact w_one2s v a _ wide w h hB hl h16 hkk (by simp) (by simp) (by simp only[bePn,cdP];rw[if_neg (by omega)];rfl) (show 0 < b0 by omega) (show b0 < 16 by omega)
     |b1::r=>exact w_one2 v a _ wide w h hB hl h16 hkk (by simp only[List.length_cons];omega) _ r (by simp only[bePn,cdP];rw[if_neg (by omega)];rfl) rfl (show 0 < b0 by omega) (show b0 < 16 by omega)
  |3,_=>
   match r with
   |[]=>exact w_one3e v a _ wide w h hB hl h16 hkk (by simp) rfl
   |b0::r=>
    have q0:=hBr b0 (by simp)
    by_cases hb0:b0≤r.length
    ·exact w_one3 v a _ wide w h hB hl h16 hkk (by simp only[List.length_cons];omega) (by show ¬(((b0::r).length:Nat):Int) < 1+b0;simp only[List.length_cons];omega) (r.drop b0.toNat) (by simp only[bePn,txP];rw[if_pos hb0];rfl)
    ·exact w_one3s v a _ wide w h hB hl h16 hkk (by simp only[List.length_cons];omega) (by show (((b0::r).length:Nat):Int) < 1+b0;simp only[List.length_cons];omega) (by simp only[bePn,txP];rw[if_neg hb0];rfl)
  |4,_=>
   match r with
   |[]=>exact w_one4e v a _ wide w h hB hl h16 hkk (by simp) (by cases wide <;> rfl)
   |b0::r=>
    have q0:=hBr b0 (by simp)
    cases wide with
    |false=>
     by_cases hb0:128≤b0
     ·exact w_one4nh v a _ false w h hB hl h16 hkk rfl (by simp only[List.length_cons];omega) r (by simp only[bePn,ofP,sgF,Bool.false_eq_true,if_false,Option.map_some];rw[if_pos hb0];rfl) hb0
     ·exact w_one4nl v a _ false w h hB hl h16 hkk rfl (by simp only[List.length_cons];omega) r (by simp only[bePn,ofP,sgF,Bool.false_eq_true,if_false,Option.map_some];rw[if_neg hb0];rfl) hb0
    |true=>
     match r with
     |[]=>exact w_one4s v a _ true w h hB hl h16 hkk rfl (by simp) (by simp) rfl
     |b1::r=>
      have q1:=hBr b1 (by simp)
      by_cases hb0:32768≤b0*256+b1
      ·exact w_one4wh v a _ true w h hB hl h16 hkk rfl (by simp only[List.length_cons];omega) r (by simp only[bePn,ofP,twP,sgF,if_true,Option.map_some];rw[if_pos hb0];rfl) hb0
      ·exact w_one4wl v a _ true w h hB hl h16 hkk rfl (by simp only[List.length_cons];omega) r (by simp only[bePn,ofP,twP,sgF,if_true,Option.map_some];rw[if_neg hb0];rfl) hb0
  |5,_=>
   match r with
   |[]=>exact w_one5f v a _ wide w h hB hl h16 hkk (by simp) rfl
   |[b0]=>exact w_one5f v a _ wide w h hB hl h16 hkk (by simp) rfl
   |b0::b1::r=>
    have q0:=hBr b0 (by simp)
    have q1:=hBr b1 (by simp)
    exact w_one5 v a _ wide w h hB hl h16 hkk (by simp only[List.length_cons];omega) _ _ rfl rfl (by omega) (by omega)
  |6,_=>
   match r with
   |[]=>exact w_one6e v a _ wide w h hB hl h16 hkk (by simp) rfl
   |b0::r=>
    have q0:=hBr b0 (by simp)
    by_cases hb0:b0≤r.length
    case neg=>exact w_one6s v a _ wide w h hB hl h16 hkk (by simp only[List.length_cons];omega) (by show (((b0::r).length:Nat):Int) < 1+b0;simp only[List.length_cons];omega) (by simp only[bePn,txP];rw[if_neg hb0];rfl)
    have hge:¬(((b0::r).length:Nat):Int) < 1+b0:=by simp only[List.length_cons];omega
    by_cases hb1:b0+2≤r.length
    ·obtain ⟨y0,y1,r3,hd⟩:∃y0 y1 r3,r.drop b0.toNat=y0::y1::r3:=by
      match hd:r.drop b0.toNat with
      |[]=>have:=congrArg List.length hd;simp only[List.length_drop,List.length_nil] at this;omega
      |[y0]=>have:=congrArg List.length hd;simp only[List.length_drop,List.length_cons,List.length_nil] at this;omega
      |y0::y1::r3=>exact ⟨y0,y1,r3,rfl⟩
     have e0:r.getD b0.toNat 0=y0:=by have:=congrArg (fun l=>l.getD 0 0) hd;simpa [List.getD_eq_getElem?_getD,List.getElem?_drop] using this
     have e1:r.getD (b0.toNat+1) 0=y1:=by have:=congrArg (fun l=>l.getD 1 0) hd;simpa [List.getD_eq_getElem?_getD,List.getElem?_drop] using this
     have n0:(1+b0).toNat=b0.toNat+1:=by omega
     have n1:(1+b0+1).toNat=b0.toNat+1+1:=by omega
     refine w_one6 v a _ wide w h hB hl h16 hkk (by simp only[List.length_cons];omega) hge (by show ¬(((b0::r).length:Nat):Int) < 1+b0+2;simp only[List.length_cons];omega) (y0*256+y1) r3 ?_ ?_
     ·simp only[bePn,txP]
      rw[if_pos hb0]
      simp only[Option.bind_some]
      rw[hd]
      rfl
     ·show y0*256+y1=(b0::r).getD (1+b0).toNat 0*256+(b0::r).getD (1+b0+1).toNat 0
      rw[n0,n1,←e0,←e1]
      rfl
    ·refine w_one6t v a _ wide w h hB hl h16 hkk (by simp only[List.length_cons];omega) hge (by show (((b0::r).length:Nat):Int) < 1+b0+2;simp only[List.length_cons];omega) ?_
     have hlen:(r.drop b0.toNat).length < 2:=by simp only[List.length_drop];omega
     simp only[bePn,txP]
     rw[if_pos hb0]
     simp only[Option.bind_some]
     match hd:r.drop b0.toNat,hlen with
     |[],_=>rfl
     |[y0],_=>rfl
end Go.Proofs.YtkkehbdahniiaaaGreatDoor
