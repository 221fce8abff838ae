import Derived.Test.YtkkehbdahniiaaaGreatDoorB18
set_option linter.unusedVariables false
set_option linter.unusedSimpArgs false
set_option maxRecDepth 100000
namespace Go.Proofs.YtkkehbdahniiaaaGreatDoor
open Go.ChangeShapes Go.WideShapes Go.ChangeAt Go.RowKit
set_option maxHeartbeats 4000000 in
set_option maxRecDepth 100000 in
theorem w_one4e (v:Value) (a:Int) (r:List Int) (wide:Bool) (w:World) (h:Rd .u8 w v (a::r)) (hB:bytesL (a::r)) (hl:(a::r).length≤8192) (h16:16≤a) (hk:bhF a=4) (hlt:(r.length:Int) < 1) (hn:bePn 4 a wide r=none):
  Calls Tryz.prog 30 #[v, .bool wide] w (OneP w (a::r) wide):=by
 have hone1:=one_1 a r wide 4 (by omega) hk
 have hlen:=rd_len h uB (P:=Tryz.prog)
 have hLL:((a::r).length:Int)=r.length+1:=by simp
 rw[hLL] at hlen
 have hrl:(r.length:Int)≤8191:=by have:(a::r).length=r.length+1:=rfl;omega
 have hBr:bytesL r:=fun x hx=>hB x (by simp[hx])
 have hab:=hB a (by simp)
 obtain ⟨ha0,ha1⟩:=hab
 obtain ⟨vr,rr,_,_,cut⟩:=rd_cut h uB zB 1 (a::r).length (by simp) (Nat.le_refl _)
 rw[show (List.drop 1 (a::r))=r from rfl,List.take_of_length_le (by simp)] at rr
 have cut1:∀w',(Instr.slice 29 v (some (.int .i64 1)) none none).run Tryz.prog w'= .ok vr w':=cut rfl
 have hlr:=rd_len rr uB (P:=Tryz.prog)
 clear cut hLL
 have cB:=fun w=>w_rbehind a w
 rw[hk] at cB
 rw[hn] at hone1
 have HK1:=hid hone1
 clear hn
 clear hone1 hk
 have hlz:((r.length:Int)+1==0)=false:=by rw[beq_eq_false_iff_ne];omega
 go_enter Tryz.func30,Tryz.ntmps30
 go_upto_region 4 with fail
 have bW:Below w.heap.size w ((w.alloc (.cells #[.int .i64 0, .int .u32 0, .string ⟨#[]⟩, .int .i64 0] 40)).alloc (.cells #[.int .i64 0, .int .u32 0, .string ⟨#[]⟩, .int .i64 0] 40)):=below_trans (box_below w _) (box_below _ _)
 have sA:Stands ((w.alloc (.cells #[.int .i64 0, .int .u32 0, .string ⟨#[]⟩, .int .i64 0] 40)).alloc (.cells #[.int .i64 0, .int .u32 0, .string ⟨#[]⟩, .int .i64 0] 40)) w.heap.size #[.int .i64 0, .int .u32 0, .string ⟨#[]⟩, .int .i64 0] 40:=(stands_new w _ _).below (box_below _ _)
 have sT:Stands ((w.alloc (.cells #[.int .i64 0, .int .u32 0, .string ⟨#[]⟩, .int .i64 0] 40)).alloc (.cells #[.int .i64 0, .int .u32 0, .string ⟨#[]⟩, .int .i64 0] 40)) (w.heap.size+1) #[.int .i64 0, .int .u32 0, .string ⟨#[]⟩, .int .i64 0] 40:=by have:=stands_new (w.alloc (.cells #[.int .i64 0, .int .u32 0, .string ⟨#[]⟩, .int .i64 0] 40)) #[.int .i64 0, .int .u32 0, .string ⟨#[]⟩, .int .i64 0] 40;rwa [size_al] at this
 generalize (w.alloc (.cells #[.int .i64 0, .int .u32 0, .string ⟨#[]⟩, .int .i64 0] 40)).alloc (.cells #[.int .i64 0, .int .u32 0, .string ⟨#[]⟩, .int .i64 0] 40)=W0 at bW sA sT ⊢
 obtain ⟨ad0,x0,i0,c0,_,_,g0⟩:=mem_at (h.below bW) hB 0 (by omega) (by simp only[List.length_cons];omega)
 simp only[Int.toNat_zero,List.getD_cons_zero] at g0
 subst g0
 have t00:=sT.cell 0 _ rfl
 have t01:=sT.cell 1 _ rfl
 have t02:=sT.cell 2 _ rfl
 have t03:=sT.cell 3 _ rfl
 have y00:=sT.free 0
 have y01:=sT.free 1
 have y02:=sT.free 2
 have y03:=sT.free 3
 go_upto_region 6 with fail
 have sA1:=sA.other 0 (.int .i64 a) (show ¬w.heap.size=w.heap.size+1 by omega)
 have sT1:Stands _ (w.heap.size+1) #[.int .i64 a, .int .u32 0, .string ⟨#[]⟩, .int .i64 0] 40:=sT.set 0 (.int .i64 a)
 have bW1:=below_set bW (w.heap.size+1) 0 (.int .i64 a) (by omega)
 clear t00 y00 t01 y01 t02 y02 t03 y03
 clear sA sT bW
 have sA:=sA1
 have sT:=sT1
 have bW:=bW1
 clear sA1 sT1 bW1
 generalize W0.setCell ⟨w.heap.size+1,0,none⟩ (.int .i64 a)=W1 at sA sT bW ⊢
 have t10:=sT.cell 0 _ rfl
 have t11:=sT.cell 1 _ rfl
 have t12:=sT.cell 2 _ rfl
 have t13:=sT.cell 3 _ rfl
 have y10:=sT.free 0
 have y11:=sT.free 1
 have y12:=sT.free 2
 have y13:=sT.free 3
 have u10:=sA.cell 0 _ rfl
 have z10:=sA.free 0
 have u11:=sA.cell 1 _ rfl
 have z11:=sA.free 1
 have u12:=sA.cell 2 _ rfl
 have z12:=sA.free 2
 have u13:=sA.cell 3 _ rfl
 have z13:=sA.free 3
 go_wp2_with (first|(go_at_call 17;refine (cB _).mono ?_;rintro e q ⟨rfl,hw⟩;obtain rfl:=hw.symm))
 have g9:=set4 sA (.int .i64 0) (.int .u32 0) (.string ⟨#[]⟩) (.int .i64 0)
 refine bodyPost_ret (res_row2 rfl _ _ w.heap.size 40 _ (0,0) _ rfl g9 Tryz.underlying40 rfl (show _=some 4 by kernel_rfl)) rfl ?_
 exact one_none HK1.out (bset4 bW _ _ _ _ _ (Nat.le_refl _))
set_option maxHeartbeats 4000000 in
set_option maxRecDepth 100000 in
theorem w_one4s (v:Value) (a:Int) (r:List Int) (wide:Bool) (w:World) (h:Rd .u8 w v (a::r)) (hB:bytesL (a::r)) (hl:(a::r).length≤8192) (h16:16≤a) (hk:bhF a=4) (hw:wide=true) (hge:¬(r.length:Int) < 1) (hlt:(r.length:Int) < 2) (hn:bePn 4 a wide r=none):
  Calls Tryz.prog 30 #[v, .bool wide] w (OneP w (a::r) wide):=by
 have hone1:=one_1 a r wide 4 (by omega) hk
 have hlen:=rd_len h uB (P:=Tryz.prog)
 have hLL:((a::r).length:Int)=r.length+1:=by simp
 rw[hLL] at hlen
 have hrl:(r.length:Int)≤8191:=by have:(a::r).length=r.length+1:=rfl;omega
 have hBr:bytesL r:=fun x hx=>hB x (by simp[hx])
 have hab:=hB a (by simp)
 obtain ⟨ha0,ha1⟩:=hab
 obtain ⟨vr,rr,_,_,cut⟩:=rd_cut h uB zB 1 (a::r).length (by simp) (Nat.le_refl _)
 rw[show (List.drop 1 (a::r))=r from rfl,List.take_of_length_le (by simp)] at rr
 have cut1:∀w',(Instr.slice 29 v (some (.int .i64 1)) none none).run Tryz.prog w'= .ok vr w':=cut rfl
 have hlr:=rd_len rr uB (P:=Tryz.prog)
 clear cut hLL
 have cB:=fun w=>w_rbehind a w
 rw[hk] at cB
 rw[hn] at hone1
 have HK1:=hid hone1
 clear hn
 clear hone1 hk
 have hlz:((r.length:Int)+1==0)=false:=by rw[beq_eq_false_iff_ne];omega
 subst hw
 go_enter Tryz.func30,Tryz.ntmps30
 go_upto_region 4 with fail
 have bW:Below w.heap.size w ((w.alloc (.cells #[.int .i64 0, .int .u32 0, .string ⟨#[]⟩, .int .i64 0] 40)).alloc (.cells #[.int .i64 0, .int .u32 0, .string ⟨#[]⟩, .int .i64 0] 40)):=below_trans (box_below w _) (box_below _ _)
 have sA:Stands ((w.alloc (.cells #[.int .i64 0, .int .u32 0, .string ⟨#[]⟩, .int .i64 0] 40)).alloc (.cells #[.int .i64 0, .int .u32 0, .string ⟨#[]⟩, .int .i64 0] 40)) w.heap.size #[.int .i64 0, .int .u32 0, .string ⟨#[]⟩, .int .i64 0] 40:=(stands_new w _ _).below (box_below _ _)
 have sT:Stands ((w.alloc (.cells #[.int .i64 0, .int .u32 0, .string ⟨#[]⟩, .int .i64 0] 40)).alloc (.cells #[.int .i64 0, .int .u32 0, .string ⟨#[]⟩, .int .i64 0] 40)) (w.heap.size+1) #[.int .i64 0, .int .u32 0, .string ⟨#[]⟩, .int .i64 0] 40:=by have:=stands_new (w.alloc (.cells #[.int .i64 0, .int .u32 0, .string ⟨#[]⟩, .int .i64 0] 40)) #[.int .i64 0, .int .u32 0, .string ⟨#[]⟩, .int .i64 0] 40;rwa [size_al] at this
 generalize (w.alloc (.cells #[.int .i64 0, .int .u32 0, .string ⟨#[]⟩, .int .i64 0] 40)).alloc (.cells #[.int .i64 0, .int .u32 0, .string ⟨#[]⟩, .int .i64 0] 40)=W0 at bW sA sT ⊢
 obtain ⟨ad0,x0,i0,c0,_,_,g0⟩:=mem_at (h.below bW) hB 0 (by omega) (by simp only[List.length_cons];omega)
 simp only[Int.toNat_zero,List.getD_cons_zero] at g0
 subst g0
 have t00:=sT.cell 0 _ rfl
 have t01:=sT.cell 1 _ rfl
 have t02:=sT.cell 2 _ rfl
 have t03:=sT.cell 3 _ rfl
 have y00:=sT.free 0
 have y01:=sT.free 1
 have y02:=sT.free 2
 have y03:=sT.free 3
 go_upto_region 6 with fail
 have sA1:=sA.other 0 (.int .i64 a) (show ¬w.heap.size=w.heap.size+1 by omega)
 have sT1:Stands _ (w.heap.size+1) #[.int .i64 a, .int .u32 0, .string ⟨#[]⟩, .int .i64 0] 40:=sT.set 0 (.int .i64 a)
 have bW1:=below_set bW (w.heap.size+1) 0 (.int .i64 a) (by omega)
 clear t00 y00 t01 y01 t02 y02 t03 y03
 clear sA sT bW
 have sA:=sA1
 have sT:=sT1
 have bW:=bW1
 clear sA1 sT1 bW1
 generalize W0.setCell ⟨w.heap.size+1,0,none⟩ (.int .i64 a)=W1 at sA sT bW ⊢
 have t10:=sT.cell 0 _ rfl
 have t11:=sT.cell 1 _ rfl
 have t12:=sT.cell 2 _ rfl
 have t13:=sT.cell 3 _ rfl
 have y10:=sT.free 0
 have y11:=sT.free 1
 have y12:=sT.free 2
 have y13:=sT.free 3
 have u10:=sA.cell 0 _ rfl
 have z10:=sA.free 0
 have u11:=sA.cell 1 _ rfl
 have z11:=sA.free 1
 have u12:=sA.cell 2 _ rfl
 have z12:=sA.free 2
 have u13:=sA.cell 3 _ rfl
 have z13:=sA.free 3
 go_wp2_with (first|(go_at_call 17;refine (cB _).mono ?_;rintro e q ⟨rfl,hw⟩;obtain rfl:=hw.symm))
 have g9:=set4 sA (.int .i64 0) (.int .u32 0) (.string ⟨#[]⟩) (.int .i64 0)
 refine bodyPost_ret (res_row2 rfl _ _ w.heap.size 40 _ (0,0) _ rfl g9 Tryz.underlying40 rfl (show _=some 4 by kernel_rfl)) rfl ?_
 exact one_none HK1.out (bset4 bW _ _ _ _ _ (Nat.le_refl _))
set_option maxHeartbeats 4000000 in
set_option maxRecDepth 100000 in
theorem w_one4nl (v:Value) (a:Int) (r:List Int) (wide:Bool) (w:World) (h:Rd .u8 w v (a::r)) (hB:bytesL (a::r)) (hl:(a::r).length≤8192) (h16:16≤a) (hk:bhF a=4) (hw:wide=false) (hge:¬(r.length:Int) < 1) (r2:List Int) (hn:bePn 4 a wide r=some (⟨a,0,[],(r.getD 0 0)⟩,r2)) (hx:¬128≤r.getD 0 0):
  Calls Tryz.prog 30 #[v, .bool wide] w (OneP w (a::r) wide):=by
 have hone1:=one_1 a r wide 4 (by omega) hk
 have hlen:=rd_len h uB (P:=Tryz.prog)
 have hLL:((a::r).length:Int)=r.length+1:=by simp
 rw[hLL] at hlen
 have hrl:(r.length:Int)≤8191:=by have:(a::r).length=r.length+1:=rfl;omega
 have hBr:bytesL r:=fun x hx=>hB x (by simp[hx])
 have hab:=hB a (by simp)
 obtain ⟨ha0,ha1⟩:=hab
 obtain ⟨vr,rr,_,_,cut⟩:=rd_cut h uB zB 1 (a::r).length (by simp) (Nat.le_refl _)
 rw[show (List.drop 1 (a::r))=r from rfl,List.take_of_length_le (by simp)] at rr
 have cut1:∀w',(Instr.slice 29 v (some (.int .i64 1)) none none).run Tryz.prog w'= .ok vr w':=cut rfl
 have hlr:=rd_len rr uB (P:=Tryz.prog)
 clear cut hLL
 have cB:=fun w=>w_rbehind a w
 rw[hk] at cB
 rw[hn] at hone1
 have HK1:=hid hone1
 clear hn
 clear hone1 hk
 have hlz:((r.length:Int)+1==0)=false:=by rw[beq_eq_false_iff_ne];omega
 subst hw
 go_enter Tryz.func30,Tryz.ntmps30
 go_upto_region 4 with fail
 have bW:Below w.heap.size w ((w.alloc (.cells #[.int .i64 0, .int .u32 0, .string ⟨#[]⟩, .int .i64 0] 40)).alloc (.cells #[.int .i64 0, .int .u32 0, .string ⟨#[]⟩, .int .i64 0] 40)):=below_trans (box_below w _) (box_below _ _)
 have sA:Stands ((w.alloc (.cells #[.int .i64 0, .int .u32 0, .string ⟨#[]⟩, .int .i64 0] 40)).alloc (.cells #[.int .i64 0, .int .u32 0, .string ⟨#[]⟩, .int .i64 0] 40)) w.heap.size #[.int .i64 0, .int .u32 0, .string ⟨#[]⟩, .int .i64 0] 40:=(stands_new w _ _).below (box_below _ _)
 have sT:Stands ((w.alloc (.cells #[.int .i64 0, .int .u32 0, .string ⟨#[]⟩, .int .i64 0] 40)).alloc (.cells #[.int .i64 0, .int .u32 0, .string ⟨#[]⟩, .int .i64 0] 40)) (w.heap.size+1) #[.int .i64 0, .int .u32 0, .string ⟨#[]⟩, .int .i64 0] 40:=by have:=stands_new (w.alloc (.cells #[.int .i64 0, .int .u32 0, .string ⟨#[]⟩, .int .i64 0] 40)) #[.int .i64 0, .int .u32 0, .string ⟨#[]⟩, .int .i64 0] 40;rwa [size_al] at this
 generalize (w.alloc (.cells #[.int .i64 0, .int .u32 0, .string ⟨#[]⟩, .int .i64 0] 40)).alloc (.cells #[.int .i64 0, .int .u32 0, .string ⟨#[]⟩, .int .i64 0] 40)=W0 at bW sA sT ⊢
 obtain ⟨ad0,x0,i0,c0,_,_,g0⟩:=mem_at (h.below bW) hB 0 (by omega) (by simp only[List.length_cons];omega)
 simp only[Int.toNat_zero,List.getD_cons_zero] at g0
 subst g0
 have t00:=sT.cell 0 _ rfl
 have t01:=sT.cell 1 _ rfl
 have t02:=sT.cell 2 _ rfl
 have t03:=sT.cell 3 _ rfl
 have y00:=sT.free 0
 have y01:=sT.free 1
 have y02:=sT.free 2
 have y03:=sT.free 3
 go_upto_region 6 with fail
 have sA1:=sA.other 0 (.int .i64 a) (show ¬w.heap.size=w.heap.size+1 by omega)
 have sT1:Stands _ (w.heap.size+1) #[.int .i64 a, .int .u32 0, .string ⟨#[]⟩, .int .i64 0] 40:=sT.set 0 (.int .i64 a)
 have bW1:=below_set bW (w.heap.size+1) 0 (.int .i64 a) (by omega)
 clear t00 y00 t01 y01 t02 y02 t03 y03
 clear sA sT bW
 have sA:=sA1
 have sT:=sT1
 have bW:=bW1
 clear sA1 sT1 bW1
 generalize W0.setCell ⟨w.heap.size+1,0,none⟩ (.int .i64 a)=W1 at sA sT bW ⊢
 have t10:=sT.cell 0 _ rfl
 have t11:=sT.cell 1 _ rfl
 have t12:=sT.cell 2 _ rfl
 have t13:=sT.cell 3 _ rfl
 have y10:=sT.free 0
 have y11:=sT.free 1
 have y12:=sT.free 2
 have y13:=sT.free 3
 obtain ⟨ad0,x0,ii0,cw0,lo0,hi0,gg0⟩:=mem_at rr hBr 0 (by omega) (by omega)
 have cc0:=below_cell bW cw0
 have gx:r.getD 0 0=x0:=gg0
 rw[gx] at hx HK1
 clear gg0 gx
 go_upto_region 29 with (first|(go_at_call 17;refine (cB _).mono ?_;rintro e q ⟨rfl,hw⟩;obtain rfl:=hw.symm))
 have sA2:=sA.other 3 (.int .i64 x0) (show ¬w.heap.size=w.heap.size+1 by omega)
 have sT2:Stands _ (w.heap.size+1) #[.int .i64 a, .int .u32 0, .string ⟨#[]⟩, .int .i64 x0] 40:=sT.set 3 (.int .i64 x0)
 have bW2:=below_set bW (w.heap.size+1) 3 (.int .i64 x0) (by omega)
 clear t10 y10 t11 y11 t12 y12 t13 y13
 clear sA sT bW
 have sA:=sA2
 have sT:=sT2
 have bW:=bW2
 clear sA2 sT2 bW2
 generalize W1.setCell ⟨w.heap.size+1,3,none⟩ (.int .i64 x0)=W2 at sA sT bW ⊢
 have t20:=sT.cell 0 _ rfl
 have t21:=sT.cell 1 _ rfl
 have t22:=sT.cell 2 _ rfl
 have t23:=sT.cell 3 _ rfl
 have y20:=sT.free 0
 have y21:=sT.free 1
 have y22:=sT.free 2
 have y23:=sT.free 3
 have hone:oneP _ false=some (⟨a,0,LB ⟨#[]⟩,x0⟩,_):=HK1.out
 have HO:=hid hone
 have cY:=fun w=>w_rbytes (a) (0) (x0) (⟨#[]⟩) false w (by omega) (by omega) (by omega) (by omega) (by decide)
 clear hone
 cases hq:okQ ⟨a,0,LB ⟨#[]⟩,x0⟩ false with
 |true=>
  rw[hq] at cY
  have HQ:=hid hq
  clear hq
  go_wp2_with (first|(go_at_call 27;refine (cY _).mono ?_;rintro e w4 ⟨v4,rfl,o4,b4⟩;have sA4:=sA.below b4;have sT4:=sT.below b4;have bW4:=below_trans bW b4;have u40:=sA4.cell 0 _ rfl;have z40:=sA4.free 0;have t40:=sT4.cell 0 _ rfl;have u41:=sA4.cell 1 _ rfl;have z41:=sA4.free 1;have t41:=sT4.cell 1 _ rfl;have u42:=sA4.cell 2 _ rfl;have z42:=sA4.free 2;have t42:=sT4.cell 2 _ rfl;have u43:=sA4.cell 3 _ rfl;have z43:=sA4.free 3;have t43:=sT4.cell 3 _ rfl;have q4:OwB W2.heap.size w4 v4 (byQ ⟨a,0,LB ⟨#[]⟩,x0⟩ false):=(by first|exact o4 rfl|exact o4 trivial|exact o4);have hl4:=rd_len (Rd_own q4).1 uB (P:=Tryz.prog))|(go_at_call 17;refine (cB _).mono ?_;rintro e q ⟨rfl,hw⟩;obtain rfl:=hw.symm))
  have g9:=set4 sA4 (.int .i64 (a)) (.int .u32 (0)) (.string (⟨#[]⟩)) (.int .i64 (x0))
  refine bodyPost_ret (res_row2 rfl _ _ w.heap.size 40 _ (0,0) _ rfl g9 Tryz.underlying40 rfl (show _=some 4 by kernel_rfl)) rfl ?_
  have e9:(tqC ⟨a,0,LB ⟨#[]⟩,x0⟩).toArray=#[.int .i64 (a), .int .u32 (0), .string (⟨#[]⟩), .int .i64 (x0)]:=by simp[tqC,nums_LB]
  have f9:=one_good HO.out HQ.out (bset4 bW4 _ (.int .i64 (a)) (.int .u32 (0)) (.string (⟨#[]⟩)) (.int .i64 (x0)) (Nat.le_refl _))
  rw[e9] at f9
  exact f9
 |false=>
  rw[hq] at cY
  have HQ:=hid hq
  clear hq
  go_wp2_with (first|(go_at_call 27;refine (cY _).mono ?_;rintro e w4 ⟨v4,rfl,o4,b4⟩;have sA4:=sA.below b4;have sT4:=sT.below b4;have bW4:=below_trans bW b4;have u40:=sA4.cell 0 _ rfl;have z40:=sA4.free 0;have t40:=sT4.cell 0 _ rfl;have u41:=sA4.cell 1 _ rfl;have z41:=sA4.free 1;have t41:=sT4.cell 1 _ rfl;have u42:=sA4.cell 2 _ rfl;have z42:=sA4.free 2;have t42:=sT4.cell 2 _ rfl;have u43:=sA4.cell 3 _ rfl;have z43:=sA4.free 3;have t43:=sT4.cell 3 _ rfl)|(go_at_call 17;refine (cB _).mono ?_;rintro e q ⟨rfl,hw⟩;obtain rfl:=hw.symm))
  have g9:=set4 sA4 (.int .i64 0) (.int .u32 0) (.string ⟨#[]⟩) (.int .i64 0)
  refine bodyPost_ret (res_row2 rfl _ _ w.heap.size 40 _ (0,0) _ rfl g9 Tryz.underlying40 rfl (show _=some 4 by kernel_rfl)) rfl ?_
  exact one_bad HO.out HQ.out (bset4 bW4 _ _ _ _ _ (Nat.le_refl _))
set_option maxHeartbeats 4000000 in
set_option maxRecDepth 100000 in
theorem w_one4nh (v:Value) (a:Int) (r:List Int) (wide:Bool) (w:World) (h:Rd .u8 w v (a::r)) (hB:bytesL (a::r)) (hl:(a::r).length≤8192) (h16:16≤a) (hk:bhF a=4) (hw:wide=false) (hge:¬(r.length:Int) < 1) (r2:List Int) (hn:bePn 4 a wide r=some (⟨a,0,[],(r.getD 0 0 - 256)⟩,r2)) (hx:128≤r.getD 0 0):
  Calls Tryz.prog 30 #[v, .bool wide] w (OneP w (a::r) wide):=by
 have hone1:=one_1 a r wide 4 (by omega) hk
 have hlen:=rd_len h uB (P:=Tryz.prog)
 have hLL:((a::r).length:Int)=r.length+1:=by simp
 rw[hLL] at hlen
 have hrl:(r.length:Int)≤8191:=by have:(a::r).length=r.length+1:=rfl;omega
 have hBr:bytesL r:=fun x hx=>hB x (by simp[hx])
 have hab:=hB a (by simp)
 obtain ⟨ha0,ha1⟩:=hab
 obtain ⟨vr,rr,_,_,cut⟩:=rd_cut h uB zB 1 (a::r).length (by simp) (Nat.le_refl _)
 rw[show (List.drop 1 (a::r))=r from rfl,List.take_of_length_le (by simp)] at rr
 have cut1:∀w',(Instr.slice 29 v (some (.int .i64 1)) none none).run Tryz.prog w'= .ok vr w':=cut rfl
 have hlr:=rd_len rr uB (P:=Tryz.prog)
 clear cut hLL
 have cB:=fun w=>w_rbehind a w
 rw[hk] at cB
 rw[hn] at hone1
 have HK1:=hid hone1
 clear hn
 clear hone1 hk
 have hlz:((r.length:Int)+1==0)=false:=by rw[beq_eq_false_iff_ne];omega
 subst hw
 go_enter Tryz.func30,Tryz.ntmps30
 go_upto_region 4 with fail
 have bW:Below w.heap.size w ((w.alloc (.cells #[.int .i64 0, .int .u32 0, .string ⟨#[]⟩, .int .i64 0] 40)).alloc (.cells #[.int .i64 0, .int .u32 0, .string ⟨#[]⟩, .int .i64 0] 40)):=below_trans (box_below w _) (box_below _ _)
 have sA:Stands ((w.alloc (.cells #[.int .i64 0, .int .u32 0, .string ⟨#[]⟩, .int .i64 0] 40)).alloc (.cells #[.int .i64 0, .int .u32 0, .string ⟨#[]⟩, .int .i64 0] 40)) w.heap.size #[.int .i64 0, .int .u32 0, .string ⟨#[]⟩, .int .i64 0] 40:=(stands_new w _ _).below (box_below _ _)
 have sT:Stands ((w.alloc (.cells #[.int .i64 0, .int .u32 0, .string ⟨#[]⟩, .int .i64 0] 40)).alloc (.cells #[.int .i64 0, .int .u32 0, .string ⟨#[]⟩, .int .i64 0] 40)) (w.heap.size+1) #[.int .i64 0, .int .u32 0, .string ⟨#[]⟩, .int .i64 0] 40:=by have:=stands_new (w.alloc (.cells #[.int .i64 0, .int .u32 0, .string ⟨#[]⟩, .int .i64 0] 40)) #[.int .i64 0, .int .u32 0, .string ⟨#[]⟩, .int .i64 0] 40;rwa [size_al] at this
 generalize (w.alloc (.cells #[.int .i64 0, .int .u32 0, .string ⟨#[]⟩, .int .i64 0] 40)).alloc (.cells #[.int .i64 0, .int .u32 0, .string ⟨#[]⟩, .int .i64 0] 40)=W0 at bW sA sT ⊢
 obtain ⟨ad0,x0,i0,c0,_,_,g0⟩:=mem_at (h.below bW) hB 0 (by omega) (by simp only[List.length_cons];omega)
 simp only[Int.toNat_zero,List.getD_cons_zero] at g0
 subst g0
 have t00:=sT.cell 0 _ rfl
 have t01:=sT.cell 1 _ rfl
 have t02:=sT.cell 2 _ rfl
 have t03:=sT.cell 3 _ rfl
 have y00:=sT.free 0
 have y01:=sT.free 1
 have y02:=sT.free 2
 have y03:=sT.free 3
 go_upto_region 6 with fail
 have sA1:=sA.other 0 (.int .i64 a) (show ¬w.heap.size=w.heap.size+1 by omega)
 have sT1:Stands _ (w.heap.size+1) #[.int .i64 a, .int .u32 0, .string ⟨#[]⟩, .int .i64 0] 40:=sT.set 0 (.int .i64 a)
 have bW1:=below_set bW (w.heap.size+1) 0 (.int .i64 a) (by omega)
 clear t00 y00 t01 y01 t02 y02 t03 y03
 clear sA sT bW
 have sA:=sA1
 have sT:=sT1
 have bW:=bW1
 clear sA1 sT1 bW1
 generalize W0.setCell ⟨w.heap.size+1,0,none⟩ (.int .i64 a)=W1 at sA sT bW ⊢
 have t10:=sT.cell 0 _ rfl
 have t11:=sT.cell 1 _ rfl
 have t12:=sT.cell 2 _ rfl
 have t13:=sT.cell 3 _ rfl
 have y10:=sT.free 0
 have y11:=sT.free 1
 have y12:=sT.free 2
 have y13:=sT.free 3
 obtain ⟨ad0,x0,ii0,cw0,lo0,hi0,gg0⟩:=mem_at rr hBr 0 (by omega) (by omega)
 have cc0:=below_cell bW cw0
 have gx:r.getD 0 0=x0:=gg0
 rw[gx] at hx HK1
 clear gg0 gx
 go_upto_region 29 with (first|(go_at_call 17;refine (cB _).mono ?_;rintro e q ⟨rfl,hw⟩;obtain rfl:=hw.symm))
 have sA2:=sA.other 3 (.int .i64 x0) (show ¬w.heap.size=w.heap.size+1 by omega)
 have sT2:Stands _ (w.heap.size+1) #[.int .i64 a, .int .u32 0, .string ⟨#[]⟩, .int .i64 x0] 40:=sT.set 3 (.int .i64 x0)
 have bW2:=below_set bW (w.heap.size+1) 3 (.int .i64 x0) (by omega)
 clear t10 y10 t11 y11 t12 y12 t13 y13
 clear sA sT bW
 have sA:=sA2
 have sT:=sT2
 have bW:=bW2
 clear sA2 sT2 bW2
 generalize W1.setCell ⟨w.heap.size+1,3,none⟩ (.int .i64 x0)=W2 at sA sT bW ⊢
 have t20:=sT.cell 0 _ rfl
 have t21:=sT.cell 1 _ rfl
 have t22:=sT.cell 2 _ rfl
 have t23:=sT.cell 3 _ rfl
 have y20:=sT.free 0
 have y21:=sT.free 1
 have y22:=sT.free 2
 have y23:=sT.free 3
 go_upto_region 35 with fail
 have sA3:=sA.other 3 (.int .i64 (x0 - 256)) (show ¬w.heap.size=w.heap.size+1 by omega)
 have sT3:Stands _ (w.heap.size+1) #[.int .i64 a, .int .u32 0, .string ⟨#[]⟩, .int .i64 (x0 - 256)] 40:=sT.set 3 (.int .i64 (x0 - 256))
 have bW3:=below_set bW (w.heap.size+1) 3 (.int .i64 (x0 - 256)) (by omega)
 clear t20 y20 t21 y21 t22 y22 t23 y23
 clear sA sT bW
 have sA:=sA3
 have sT:=sT3
 have bW:=bW3
 clear sA3 sT3 bW3
 generalize W2.setCell ⟨w.heap.size+1,3,none⟩ (.int .i64 (x0 - 256))=W3 at sA sT bW ⊢
 have t30:=sT.cell 0 _ rfl
 have t31:=sT.cell 1 _ rfl
 have t32:=sT.cell 2 _ rfl
 have t33:=sT.cell 3 _ rfl
 have y30:=sT.free 0
 have y31:=sT.free 1
 have y32:=sT.free 2
 have y33:=sT.free 3
 have hone:oneP _ false=some (⟨a,0,LB ⟨#[]⟩,(x0 - 256)⟩,_):=HK1.out
 have HO:=hid hone
 have cY:=fun w=>w_rbytes (a) (0) ((x0 - 256)) (⟨#[]⟩) false w (by omega) (by omega) (by omega) (by omega) (by decide)
 clear hone
 cases hq:okQ ⟨a,0,LB ⟨#[]⟩,(x0 - 256)⟩ false with
 |true=>
  rw[hq] at cY
  have HQ:=hid hq
  clear hq
  go_wp2_with (first|(go_at_call 27;refine (cY _).mono ?_;rintro e w4 ⟨v4,rfl,o4,b4⟩;have sA4:=sA.below b4;have sT4:=sT.below b4;have bW4:=below_trans bW b4;have u40:=sA4.cell 0 _ rfl;have z40:=sA4.free 0;have t40:=sT4.cell 0 _ rfl;have u41:=sA4.cell 1 _ rfl;have z41:=sA4.free 1;have t41:=sT4.cell 1 _ rfl;have u42:=sA4.cell 2 _ rfl;have z42:=sA4.free 2;have t42:=sT4.cell 2 _ rfl;have u43:=sA4.cell 3 _ rfl;have z43:=sA4.free 3;have t43:=sT4.cell 3 _ rfl;have q4:OwB W3.heap.size w4 v4 (byQ ⟨a,0,LB ⟨#[]⟩,(x0 - 256)⟩ false):=(by first|exact o4 rfl|exact o4 trivial|exact o4);have hl4:=rd_len (Rd_own q4).1 uB (P:=Tryz.prog))|(go_at_call 17;refine (cB _).mono ?_;rintro e q ⟨rfl,hw⟩;obtain rfl:=hw.symm))
  have g9:=set4 sA4 (.int .i64 (a)) (.int .u32 (0)) (.string (⟨#[]⟩)) (.int .i64 ((x0 - 256)))
  refine bodyPost_ret (res_row2 rfl _ _ w.heap.size 40 _ (0,0) _ rfl g9 Tryz.underlying40 rfl (show _=some 4 by kernel_rfl)) rfl ?_
  have e9:(tqC ⟨a,0,LB ⟨#[]⟩,(x0 - 256)⟩).toArray=#[.int .i64 (a), .int .u32 (0), .string (⟨#[]⟩), .int .i64 ((x0 - 256))]:=by simp[tqC,nums_LB]
  have f9:=one_good HO.out HQ.out (bset4 bW4 _ (.int .i64 (a)) (.int .u32 (0)) (.string (⟨#[]⟩)) (.int .i64 ((x0 - 256))) (Nat.le_refl _))
  rw[e9] at f9
  exact f9
 |false=>
  rw[hq] at cY
  have HQ:=hid hq
  clear hq
  go_wp2_with (first|(go_at_call 27;refine (cY _).mono ?_;rintro e w4 ⟨v4,rfl,o4,b4⟩;have sA4:=sA.below b4;have sT4:=sT.below b4;have bW4:=below_trans bW b4;have u40:=sA4.cell 0 _ rfl;have z40:=sA4.free 0;have t40:=sT4.cell 0 _ rfl;have u41:=sA4.cell 1 _ rfl;have z41:=sA4.free 1;have t41:=sT4.cell 1 _ rfl;have u42:=sA4.cell 2 _ rfl;have z42:=sA4.free 2;have t42:=sT4.cell 2 _ rfl;have u43:=sA4.cell 3 _ rfl;have z43:=sA4.free 3;have t43:=sT4.cell 3 _ rfl)|(go_at_call 17;refine (cB _).mono ?_;rintro e q ⟨rfl,hw⟩;obtain rfl:=hw.symm))
  have g9:=set4 sA4 (.int .i64 0) (.int .u32 0) (.string ⟨#[]⟩) (.int .i64 0)
  refine bodyPost_ret (res_row2 rfl _ _ w.heap.size 40 _ (0,0) _ rfl g9 Tryz.underlying40 rfl (show _=some 4 by kernel_rfl)) rfl ?_
  exact one_bad HO.out HQ.out (bset4 bW4 _ _ _ _ _ (Nat.le_refl _))
set_option maxHeartbeats 4000000 in
set_option maxRecDepth 100000 in
theorem w_one4wl (v:Value) (a:Int) (r:List Int) (wide:Bool) (w:World) (h:Rd .u8 w v (a::r)) (hB:bytesL (a::r)) (hl:(a::r).length≤8192) (h16:16≤a) (hk:bhF a=4) (hw:wide=true) (hge:¬(r.length:Int) < 2) (r2:List Int) (hn:bePn 4 a wide r=some (⟨a,0,[],(r.getD 0 0*256+r.getD 1 0)⟩,r2)) (hx:¬32768≤r.getD 0 0*256+r.getD 1 0):
  Calls Tryz.prog 30 #[v, .bool wide] w (OneP w (a::r) wide):=by
 have hone1:=one_1 a r wide 4 (by omega) hk
 have hlen:=rd_len h uB (P:=Tryz.prog)
 have hLL:((a::r).length:Int)=r.length+1:=by simp
 rw[hLL] at hlen
 have hrl:(r.length:Int)≤8191:=by have:(a::r).length=r.length+1:=rfl;omega
 have hBr:bytesL r:=fun x hx=>hB x (by simp[hx])
 have hab:=hB a (by simp)
 obtain ⟨ha0,ha1⟩:=hab
 obtain ⟨vr,rr,_,_,cut⟩:=rd_cut h uB zB 1 (a::r).length (by simp) (Nat.le_refl _)
 rw[show (List.drop 1 (a::r))=r from rfl,List.take_of_length_le (by simp)] at rr
 have cut1:∀w',(Instr.slice 29 v (some (.int .i64 1)) none none).run Tryz.prog w'= .ok vr w':=cut rfl
 have hlr:=rd_len rr uB (P:=Tryz.prog)
 clear cut hLL
 have cB:=fun w=>w_rbehind a w
 rw[hk] at cB
 rw[hn] at hone1
 have HK1:=hid hone1
 clear hn
 clear hone1 hk
 have hlz:((r.length:Int)+1==0)=false:=by rw[beq_eq_false_iff_ne];omega
 subst hw
 have hl1:¬(r.length:Int) < 1:=by omega
 go_enter Tryz.func30,Tryz.ntmps30
 go_upto_region 4 with fail
 have bW:Below w.heap.size w ((w.alloc (.cells #[.int .i64 0, .int .u32 0, .string ⟨#[]⟩, .int .i64 0] 40)).alloc (.cells #[.int .i64 0, .int .u32 0, .string ⟨#[]⟩, .int .i64 0] 40)):=below_trans (box_below w _) (box_below _ _)
 have sA:Stands ((w.alloc (.cells #[.int .i64 0, .int .u32 0, .string ⟨#[]⟩, .int .i64 0] 40)).alloc (.cells #[.int .i64 0, .int .u32 0, .string ⟨#[]⟩, .int .i64 0] 40)) w.heap.size #[.int .i64 0, .int .u32 0, .string ⟨#[]⟩, .int .i64 0] 40:=(stands_new w _ _).below (box_below _ _)
 have sT:Stands ((w.alloc (.cells #[.int .i64 0, .int .u32 0, .string ⟨#[]⟩, .int .i64 0] 40)).alloc (.cells #[.int .i64 0, .int .u32 0, .string ⟨#[]⟩, .int .i64 0] 40)) (w.heap.size+1) #[.int .i64 0, .int .u32 0, .string ⟨#[]⟩, .int .i64 0] 40:=by have:=stands_new (w.alloc (.cells #[.int .i64 0, .int .u32 0, .string ⟨#[]⟩, .int .i64 0] 40)) #[.int .i64 0, .int .u32 0, .string ⟨#[]⟩, .int .i64 0] 40;rwa [size_al] at this
 generalize (w.alloc (.cells #[.int .i64 0, .int .u32 0, .string ⟨#[]⟩, .int .i64 0] 40)).alloc (.cells #[.int .i64 0, .int .u32 0, .string ⟨#[]⟩, .int .i64 0] 40)=W0 at bW sA sT ⊢
 obtain ⟨ad0,x0,i0,c0,_,_,g0⟩:=mem_at (h.below bW) hB 0 (by omega) (by simp only[List.length_cons];omega)
 simp only[Int.toNat_zero,List.getD_cons_zero] at g0
 subst g0
 have t00:=sT.cell 0 _ rfl
 have t01:=sT.cell 1 _ rfl
 have t02:=sT.cell 2 _ rfl
 have t03:=sT.cell 3 _ rfl
 have y00:=sT.free 0
 have y01:=sT.free 1
 have y02:=sT.free 2
 have y03:=sT.free 3
 go_upto_region 6 with fail
 have sA1:=sA.other 0 (.int .i64 a) (show ¬w.heap.size=w.heap.size+1 by omega)
 have sT1:Stands _ (w.heap.size+1) #[.int .i64 a, .int .u32 0, .string ⟨#[]⟩, .int .i64 0] 40:=sT.set 0 (.int .i64 a)
 have bW1:=below_set bW (w.heap.size+1) 0 (.int .i64 a) (by omega)
 clear t00 y00 t01 y01 t02 y02 t03 y03
 clear sA sT bW
 have sA:=sA1
 have sT:=sT1
 have bW:=bW1
 clear sA1 sT1 bW1
 generalize W0.setCell ⟨w.heap.size+1,0,none⟩ (.int .i64 a)=W1 at sA sT bW ⊢
 have t10:=sT.cell 0 _ rfl
 have t11:=sT.cell 1 _ rfl
 have t12:=sT.cell 2 _ rfl
 have t13:=sT.cell 3 _ rfl
 have y10:=sT.free 0
 have y11:=sT.free 1
 have y12:=sT.free 2
 have y13:=sT.free 3
 obtain ⟨ad0,x0,ii0,cw0,lo0,hi0,gg0⟩:=mem_at rr hBr 0 (by omega) (by omega)
 have cc0:=below_cell bW cw0
 obtain ⟨ad1,x1,ii1,cw1,lo1,hi1,gg1⟩:=mem_at rr hBr 1 (by omega) (by omega)
 have cc1:=below_cell bW cw1
 have gx:r.getD 0 0=x0:=gg0
 have gy:r.getD 1 0=x1:=gg1
 rw[gx,gy] at hx HK1
 clear gg0 gx gg1 gy
 have hM:∃M,x0*256+x1=M:=⟨_,rfl⟩
 obtain ⟨M,hM⟩:=hM
 rw[hM] at hx HK1
 have m0:0≤M:=by omega
 have m1:M < 65536:=by omega
 have HM:=hid hM
 clear hM
 go_upto_region 29 with (first|(go_at_call 17;refine (cB _).mono ?_;rintro e q ⟨rfl,hw⟩;obtain rfl:=hw.symm))
 have sA2:=sA.other 3 (.int .i64 x0) (show ¬w.heap.size=w.heap.size+1 by omega)
 have sT2:Stands _ (w.heap.size+1) #[.int .i64 a, .int .u32 0, .string ⟨#[]⟩, .int .i64 x0] 40:=sT.set 3 (.int .i64 x0)
 have bW2:=below_set bW (w.heap.size+1) 3 (.int .i64 x0) (by omega)
 clear t10 y10 t11 y11 t12 y12 t13 y13
 clear sA sT bW
 have sA:=sA2
 have sT:=sT2
 have bW:=bW2
 clear sA2 sT2 bW2
 generalize W1.setCell ⟨w.heap.size+1,3,none⟩ (.int .i64 x0)=W2 at sA sT bW ⊢
 have t20:=sT.cell 0 _ rfl
 have t21:=sT.cell 1 _ rfl
 have t22:=sT.cell 2 _ rfl
 have t23:=sT.cell 3 _ rfl
 have y20:=sT.free 0
 have y21:=sT.free 1
 have y22:=sT.free 2
 have y23:=sT.free 3
 have cd1:=below_cell bW cw1
 go_upto_region 31 with fail
 go_region
 rw[show x0*256+x1=M from HM.out]
 have bd:Below (W2.setCell ⟨w.heap.size+1,3,none⟩ (.int .i64 (M))).heap.size (W2.setCell ⟨w.heap.size+1,3,none⟩ (.int .i64 (M))) (W2.setCell ⟨w.heap.size+1,3,none⟩ (.int .i64 (M))).drew:=below_drewN (Below.refl _ _) 1
 have sA3:=(sA.other 3 (.int .i64 (M)) (show ¬w.heap.size=w.heap.size+1 by omega)).below bd
 have sT3:Stands _ (w.heap.size+1) #[.int .i64 a, .int .u32 0, .string ⟨#[]⟩, .int .i64 M] 40:=(sT.set 3 (.int .i64 (M))).below bd
 have bW3:=below_trans (below_set bW (w.heap.size+1) 3 (.int .i64 (M)) (by omega)) bd
 clear t20 y20 t21 y21 t22 y22 t23 y23
 clear sA sT bW bd
 have sA:=sA3
 have sT:=sT3
 have bW:=bW3
 clear sA3 sT3 bW3
 generalize (W2.setCell ⟨w.heap.size+1,3,none⟩ (.int .i64 (M))).drew=W3 at sA sT bW ⊢
 have t30:=sT.cell 0 _ rfl
 have t31:=sT.cell 1 _ rfl
 have t32:=sT.cell 2 _ rfl
 have t33:=sT.cell 3 _ rfl
 have y30:=sT.free 0
 have y31:=sT.free 1
 have y32:=sT.free 2
 have y33:=sT.free 3
 have hone:oneP _ true=some (⟨a,0,LB ⟨#[]⟩,M⟩,_):=HK1.out
 have HO:=hid hone
 have cY:=fun w=>w_rbytes (a) (0) (M) (⟨#[]⟩) true w (by omega) (by omega) (by omega) (by omega) (by decide)
 clear hone
 cases hq:okQ ⟨a,0,LB ⟨#[]⟩,M⟩ true with
 |true=>
  rw[hq] at cY
  have HQ:=hid hq
  clear hq
  go_wp2_with (first|(go_at_call 27;refine (cY _).mono ?_;rintro e w4 ⟨v4,rfl,o4,b4⟩;have sA4:=sA.below b4;have sT4:=sT.below b4;have bW4:=below_trans bW b4;have u40:=sA4.cell 0 _ rfl;have z40:=sA4.free 0;have t40:=sT4.cell 0 _ rfl;have u41:=sA4.cell 1 _ rfl;have z41:=sA4.free 1;have t41:=sT4.cell 1 _ rfl;have u42:=sA4.cell 2 _ rfl;have z42:=sA4.free 2;have t42:=sT4.cell 2 _ rfl;have u43:=sA4.cell 3 _ rfl;have z43:=sA4.free 3;have t43:=sT4.cell 3 _ rfl;have q4:OwB W3.heap.size w4 v4 (byQ ⟨a,0,LB ⟨#[]⟩,M⟩ true):=(by first|exact o4 rfl|exact o4 trivial|exact o4);have hl4:=rd_len (Rd_own q4).1 uB (P:=Tryz.prog))|(go_at_call 17;refine (cB _).mono ?_;rintro e q ⟨rfl,hw⟩;obtain rfl:=hw.symm))
  have g9:=set4 sA4 (.int .i64 (a)) (.int .u32 (0)) (.string (⟨#[]⟩)) (.int .i64 (M))
  refine bodyPost_ret (res_row2 rfl _ _ w.heap.size 40 _ (0,0) _ rfl g9 Tryz.underlying40 rfl (show _=some 4 by kernel_rfl)) rfl ?_
  have e9:(tqC ⟨a,0,LB ⟨#[]⟩,M⟩).toArray=#[.int .i64 (a), .int .u32 (0), .string (⟨#[]⟩), .int .i64 (M)]:=by simp[tqC,nums_LB]
  have f9:=one_good HO.out HQ.out (bset4 bW4 _ (.int .i64 (a)) (.int .u32 (0)) (.string (⟨#[]⟩)) (.int .i64 (M)) (Nat.le_refl _))
  rw[e9] at f9
  exact f9
 |false=>
  rw[hq] at cY
  have HQ:=hid hq
  clear hq
  go_wp2_with (first|(go_at_call 27;refine (cY _).mono ?_;rintro e w4 ⟨v4,rfl,o4,b4⟩;have sA4:=sA.below b4;have sT4:=sT.below b4;have bW4:=below_trans bW b4;have u40:=sA4.cell 0 _ rfl;have z40:=sA4.free 0;have t40:=sT4.cell 0 _ rfl;have u41:=sA4.cell 1 _ rfl;have z41:=sA4.free 1;have t41:=sT4.cell 1 _ rfl;have u42:=sA4.cell 2 _ rfl;have z42:=sA4.free 2;have t42:=sT4.cell 2 _ rfl;have u43:=sA4.cell 3 _ rfl;have z43:=sA4.free 3;have t43:=sT4.cell 3 _ rfl)|(go_at_call 17;refine (cB _).mono ?_;rintro e q ⟨rfl,hw⟩;obtain rfl:=hw.symm))
  have g9:=set4 sA4 (.int .i64 0) (.int .u32 0) (.string ⟨#[]⟩) (.int .i64 0)
  refine bodyPost_ret (res_row2 rfl _ _ w.heap.size 40 _ (0,0) _ rfl g9 Tryz.underlying40 rfl (show _=some 4 by kernel_rfl)) rfl ?_
  exact one_bad HO.out HQ.out (bset4 bW4 _ _ _ _ _ (Nat.le_refl _))
set_option maxHeartbeats 4000000 in
set_option maxRecDepth 100000 in
theorem w_one4wh (v:Value) (a:Int) (r:List Int) (wide:Bool) (w:World) (h:Rd .u8 w v (a::r)) (hB:bytesL (a::r)) (hl:(a::r).length≤8192) (h16:16≤a) (hk:bhF a=4) (hw:wide=true) (hge:¬(r.length:Int) < 2) (r2:List Int) (hn:bePn 4 a wide r=some (⟨a,0,[],(r.getD 0 0*256+r.getD 1 0 - 65536)⟩,r2)) (hx:32768≤r.getD 0 0*256+r.getD 1 0):
  Calls Tryz.prog 30 #[v, .bool wide] w (OneP w (a::r) wide):=by
 have hone1:=one_1 a r wide 4 (by omega) hk
 have hlen:=rd_len h uB (P:=Tryz.prog)
 have hLL:((a::r).length:Int)=r.length+1:=by simp
 rw[hLL] at hlen
 have hrl:(r.length:Int)≤8191:=by have:(a::r).length=r.length+1:=rfl;omega
 have hBr:bytesL r:=fun x hx=>hB x (by simp[hx])
 have hab:=hB a (by simp)
 obtain ⟨ha0,ha1⟩:=hab
 obtain ⟨vr,rr,_,_,cut⟩:=rd_cut h uB zB 1 (a::r).length (by simp) (Nat.le_refl _)
 rw[show (List.drop 1 (a::r))=r from rfl,List.take_of_length_le (by simp)] at rr
 have cut1:∀w',(Instr.slice 29 v (some (.int .i64 1)) none none).run Tryz.prog w'= .ok vr w':=cut rfl
 have hlr:=rd_len rr uB (P:=Tryz.prog)
 clear cut hLL
 have cB:=fun w=>w_rbehind a w
 rw[hk] at cB
 rw[hn] at hone1
 have HK1:=hid hone1
 clear hn
 clear hone1 hk
 have hlz:((r.length:Int)+1==0)=false:=by rw[beq_eq_false_iff_ne];omega
 subst hw
 have hl1:¬(r.length:Int) < 1:=by omega
 go_enter Tryz.func30,Tryz.ntmps30
 go_upto_region 4 with fail
 have bW:Below w.heap.size w ((w.alloc (.cells #[.int .i64 0, .int .u32 0, .string ⟨#[]⟩, .int .i64 0] 40)).alloc (.cells #[.int .i64 0, .int .u32 0, .string ⟨#[]⟩, .int .i64 0] 40)):=below_trans (box_below w _) (box_below _ _)
 have sA:Stands ((w.alloc (.cells #[.int .i64 0, .int .u32 0, .string ⟨#[]⟩, .int .i64 0] 40)).alloc (.cells #[.int .i64 0, .int .u32 0, .string ⟨#[]⟩, .int .i64 0] 40)) w.heap.size #[.int .i64 0, .int .u32 0, .string ⟨#[]⟩, .int .i64 0] 40:=(stands_new w _ _).below (box_below _ _)
 have sT:Stands ((w.alloc (.cells #[.int .i64 0, .int .u32 0, .string ⟨#[]⟩, .int .i64 0] 40)).alloc (.cells #[.int .i64 0, .int .u32 0, .string ⟨#[]⟩, .int .i64 0] 40)) (w.heap.size+1) #[.int .i64 0, .int .u32 0, .string ⟨#[]⟩, .int .i64 0] 40:=by have:=stands_new (w.alloc (.cells #[.int .i64 0, .int .u32 0, .string ⟨#[]⟩, .int .i64 0] 40)) #[.int .i64 0, .int .u32 0, .string ⟨#[]⟩, .int .i64 0] 40;rwa [size_al] at this
 generalize (w.alloc (.cells #[.int .i64 0, .int .u32 0, .string ⟨#[]⟩, .int .i64 0] 40)).alloc (.cells #[.int .i64 0, .int .u32 0, .string ⟨#[]⟩, .int .i64 0] 40)=W0 at bW sA sT ⊢
 obtain ⟨ad0,x0,i0,c0,_,_,g0⟩:=mem_at (h.below bW) hB 0 (by omega) (by simp only[List.length_cons];omega)
 simp only[Int.toNat_zero,List.getD_cons_zero] at g0
 subst g0
 have t00:=sT.cell 0 _ rfl
 have t01:=sT.cell 1 _ rfl
 have t02:=sT.cell 2 _ rfl
 have t03:=sT.cell 3 _ rfl
 have y00:=sT.free 0
 have y01:=sT.free 1
 have y02:=sT.free 2
 have y03:=sT.free 3
 go_upto_region 6 with fail
 have sA1:=sA.other 0 (.int .i64 a) (show ¬w.heap.size=w.heap.size+1 by omega)
 have sT1:Stands _ (w.heap.size+1) #[.int .i64 a, .int .u32 0, .string ⟨#[]⟩, .int .i64 0] 40:=sT.set 0 (.int .i64 a)
 have bW1:=below_set bW (w.heap.size+1) 0 (.int .i64 a) (by omega)
 clear t00 y00 t01 y01 t02 y02 t03 y03
 clear sA sT bW
 have sA:=sA1
 have sT:=sT1
 have bW:=bW1
 clear sA1 sT1 bW1
 generalize W0.setCell ⟨w.heap.size+1,0,none⟩ (.int .i64 a)=W1 at sA sT bW ⊢
 have t10:=sT.cell 0 _ rfl
 have t11:=sT.cell 1 _ rfl
 have t12:=sT.cell 2 _ rfl
 have t13:=sT.cell 3 _ rfl
 have y10:=sT.free 0
 have y11:=sT.free 1
 have y12:=sT.free 2
 have y13:=sT.free 3
 obtain ⟨ad0,x0,ii0,cw0,lo0,hi0,gg0⟩:=mem_at rr hBr 0 (by omega) (by omega)
 have cc0:=below_cell bW cw0
 obtain ⟨ad1,x1,ii1,cw1,lo1,hi1,gg1⟩:=mem_at rr hBr 1 (by omega) (by omega)
 have cc1:=below_cell bW cw1
 have gx:r.getD 0 0=x0:=gg0
 have gy:r.getD 1 0=x1:=gg1
 rw[gx,gy] at hx HK1
 clear gg0 gx gg1 gy
 have hM:∃M,x0*256+x1=M:=⟨_,rfl⟩
 obtain ⟨M,hM⟩:=hM
 rw[hM] at hx HK1
 have m0:0≤M:=by omega
 have m1:M < 65536:=by omega
 have HM:=hid hM
 clear hM
 go_upto_region 29 with (first|(go_at_call 17;refine (cB _).mono ?_;rintro e q ⟨rfl,hw⟩;obtain rfl:=hw.symm))
 have sA2:=sA.other 3 (.int .i64 x0) (show ¬w.heap.size=w.heap.size+1 by omega)
 have sT2:Stands _ (w.heap.size+1) #[.int .i64 a, .int .u32 0, .string ⟨#[]⟩, .int .i64 x0] 40:=sT.set 3 (.int .i64 x0)
 have bW2:=below_set bW (w.heap.size+1) 3 (.int .i64 x0) (by omega)
 clear t10 y10 t11 y11 t12 y12 t13 y13
 clear sA sT bW
 have sA:=sA2
 have sT:=sT2
 have bW:=bW2
 clear sA2 sT2 bW2
 generalize W1.setCell ⟨w.heap.size+1,3,none⟩ (.int .i64 x0)=W2 at sA sT bW ⊢
 have t20:=sT.cell 0 _ rfl
 have t21:=sT.cell 1 _ rfl
 have t22:=sT.cell 2 _ rfl
 have t23:=sT.cell 3 _ rfl
 have y20:=sT.free 0
 have y21:=sT.free 1
 have y22:=sT.free 2
 have y23:=sT.free 3
 have cd1:=below_cell bW cw1
 go_upto_region 31 with fail
 go_region
 rw[show x0*256+x1=M from HM.out]
 have bd:Below (W2.setCell ⟨w.heap.size+1,3,none⟩ (.int .i64 (M))).heap.size (W2.setCell ⟨w.heap.size+1,3,none⟩ (.int .i64 (M))) (W2.setCell ⟨w.heap.size+1,3,none⟩ (.int .i64 (M))).drew:=below_drewN (Below.refl _ _) 1
 have sA3:=(sA.other 3 (.int .i64 (M)) (show ¬w.heap.size=w.heap.size+1 by omega)).below bd
 have sT3:Stands _ (w.heap.size+1) #[.int .i64 a, .int .u32 0, .string ⟨#[]⟩, .int .i64 M] 40:=(sT.set 3 (.int .i64 (M))).below bd
 have bW3:=below_trans (below_set bW (w.heap.size+1) 3 (.int .i64 (M)) (by omega)) bd
 clear t20 y20 t21 y21 t22 y22 t23 y23
 clear sA sT bW bd
 have sA:=sA3
 have sT:=sT3
 have bW:=bW3
 clear sA3 sT3 bW3
 generalize (W2.setCell ⟨w.heap.size+1,3,none⟩ (.int .i64 (M))).drew=W3 at sA sT bW ⊢
 have t30:=sT.cell 0 _ rfl
 have t31:=sT.cell 1 _ rfl
 have t32:=sT.cell 2 _ rfl
 have t33:=sT.cell 3 _ rfl
 have y30:=sT.free 0
 have y31:=sT.free 1
 have y32:=sT.free 2
 have y33:=sT.free 3
 go_upto_region 35 with fail
 have sA4:=sA.other 3 (.int .i64 (M - 65536)) (show ¬w.heap.size=w.heap.size+1 by omega)
 have sT4:Stands _ (w.heap.size+1) #[.int .i64 a, .int .u32 0, .string ⟨#[]⟩, .int .i64 (M - 65536)] 40:=sT.set 3 (.int .i64 (M - 65536))
 have bW4:=below_set bW (w.heap.size+1) 3 (.int .i64 (M - 65536)) (by omega)
 clear t30 y30 t31 y31 t32 y32 t33 y33
 clear sA sT bW
 have sA:=sA4
 have sT:=sT4
 have bW:=bW4
 clear sA4 sT4 bW4
 generalize W3.setCell ⟨w.heap.size+1,3,none⟩ (.int .i64 (M - 65536))=W4 at sA sT bW ⊢
 have t40:=sT.cell 0 _ rfl
 have t41:=sT.cell 1 _ rfl
 have t42:=sT.cell 2 _ rfl
 have t43:=sT.cell 3 _ rfl
 have y40:=sT.free 0
 have y41:=sT.free 1
 have y42:=sT.free 2
 have y43:=sT.free 3
 have hone:oneP _ true=some (⟨a,0,LB ⟨#[]⟩,(M - 65536)⟩,_):=HK1.out
 have HO:=hid hone
 have cY:=fun w=>w_rbytes (a) (0) ((M - 65536)) (⟨#[]⟩) true w (by omega) (by omega) (by omega) (by omega) (by decide)
 clear hone
 cases hq:okQ ⟨a,0,LB ⟨#[]⟩,(M - 65536)⟩ true with
 |true=>
  rw[hq] at cY
  have HQ:=hid hq
  clear hq
  go_wp2_with (first|(go_at_call 27;refine (cY _).mono ?_;rintro e w4 ⟨v4,rfl,o4,b4⟩;have sA4:=sA.below b4;have sT4:=sT.below b4;have bW4:=below_trans bW b4;have u40:=sA4.cell 0 _ rfl;have z40:=sA4.free 0;have t40:=sT4.cell 0 _ rfl;have u41:=sA4.cell 1 _ rfl;have z41:=sA4.free 1;have t41:=sT4.cell 1 _ rfl;have u42:=sA4.cell 2 _ rfl;have z42:=sA4.free 2;have t42:=sT4.cell 2 _ rfl;have u43:=sA4.cell 3 _ rfl;have z43:=sA4.free 3;have t43:=sT4.cell 3 _ rfl;have q4:OwB W4.heap.size w4 v4 (byQ ⟨a,0,LB ⟨#[]⟩,(M - 65536)⟩ true):=(by first|exact o4 rfl|exact o4 trivial|exact o4);have hl4:=rd_len (Rd_own q4).1 uB (P:=Tryz.prog))|(go_at_call 17;refine (cB _).mono ?_;rintro e q ⟨rfl,hw⟩;obtain rfl:=hw.symm))
  have g9:=set4 sA4 (.int .i64 (a)) (.int .u32 (0)) (.string (⟨#[]⟩)) (.int .i64 ((M - 65536)))
  refine bodyPost_ret (res_row2 rfl _ _ w.heap.size 40 _ (0,0) _ rfl g9 Tryz.underlying40 rfl (show _=some 4 by kernel_rfl)) rfl ?_
  have e9:(tqC ⟨a,0,LB ⟨#[]⟩,(M - 65536)⟩).toArray=#[.int .i64 (a), .int .u32 (0), .string (⟨#[]⟩), .int .i64 ((M - 65536))]:=by simp[tqC,nums_LB]
  have f9:=one_good HO.out HQ.out (bset4 bW4 _ (.int .i64 (a)) (.int .u32 (0)) (.string (⟨#[]⟩)) (.int .i64 ((M - 65536))) (Nat.le_refl _))
  rw[e9] at f9
  exact f9
 |false=>
  rw[hq] at cY
  have HQ:=hid hq
  clear hq
  go_wp2_with (first|(go_at_call 27;refine (cY _).mono ?_;rintro e w4 ⟨v4,rfl,o4,b4⟩;have sA4:=sA.below b4;have sT4:=sT.below b4;have bW4:=below_trans bW b4;have u40:=sA4.cell 0 _ rfl;have z40:=sA4.free 0;have t40:=sT4.cell 0 _ rfl;have u41:=sA4.cell 1 _ rfl;have z41:=sA4.free 1;have t41:=sT4.cell 1 _ rfl;have u42:=sA4.cell 2 _ rfl;have z42:=sA4.free 2;have t42:=sT4.cell 2 _ rfl;have u43:=sA4.cell 3 _ rfl;have z43:=sA4.free 3;have t43:=sT4.cell 3 _ rfl)|(go_at_call 17;refine (cB _).mono ?_;rintro e q ⟨rfl,hw⟩;obtain rfl:=hw.symm))
  have g9:=set4 sA4 (.int .i64 0) (.int .u32 0) (.string ⟨#[]⟩) (.int .i64 0)
  refine bodyPost_ret (res_row2 rfl _ _ w.heap.size 40 _ (0,0) _ rfl g9 Tryz.underlying40 rfl (show _=some 4 by kernel_rfl)) rfl ?_
  exact one_bad HO.out HQ.out (bset4 bW4 _ _ _ _ _ (Nat.le_refl _))
end Go.Proofs.YtkkehbdahniiaaaGreatDoor
