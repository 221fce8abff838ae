import Derived.Test.YtkkehbdahniiaaaGreatDoorB17
set_option linter.unusedVariables false
set_option linter.unusedSimpArgs false
set_option maxRecDepth 100000
namespace Go.Proofs.YtkkehbdahniiaaaGreatDoor
open Go.ChangeShapes Go.WideShapes Go.ChangeAt Go.RowKit
set_option maxHeartbeats 4000000 in
set_option maxRecDepth 100000 in
theorem w_one1f (v:Value) (a:Int) (r:List Int) (wide:Bool) (w:World) (h:Rd .u8 w v (a::r)) (hB:bytesL (a::r)) (hl:(a::r).length≤8192) (h16:16≤a) (hk:bhF a=1) (hlt:(r.length:Int) < 4) (hn:bePn 1 a wide r=none):
  Calls Tryz.prog 30 #[v, .bool wide] w (OneP w (a::r) wide):=by
 have hone1:=one_1 a r wide 1 (by omega) hk
 have hlen:=rd_len h uB (P:=Tryz.prog)
 have hLL:((a::r).length:Int)=r.length+1:=by simp
 rw[hLL] at hlen
 have hrl:(r.length:Int)≤8191:=by have:(a::r).length=r.length+1:=rfl;omega
 have hBr:bytesL r:=fun x hx=>hB x (by simp[hx])
 have hab:=hB a (by simp)
 obtain ⟨ha0,ha1⟩:=hab
 obtain ⟨vr,rr,_,_,cut⟩:=rd_cut h uB zB 1 (a::r).length (by simp) (Nat.le_refl _)
 rw[show (List.drop 1 (a::r))=r from rfl,List.take_of_length_le (by simp)] at rr
 have cut1:∀w',(Instr.slice 29 v (some (.int .i64 1)) none none).run Tryz.prog w'= .ok vr w':=cut rfl
 have hlr:=rd_len rr uB (P:=Tryz.prog)
 clear cut hLL
 have cB:=fun w=>w_rbehind a w
 rw[hk] at cB
 rw[hn] at hone1
 have HK1:=hid hone1
 clear hn
 clear hone1 hk
 have hlz:((r.length:Int)+1==0)=false:=by rw[beq_eq_false_iff_ne];omega
 go_enter Tryz.func30,Tryz.ntmps30
 go_upto_region 4 with fail
 have bW:Below w.heap.size w ((w.alloc (.cells #[.int .i64 0, .int .u32 0, .string ⟨#[]⟩, .int .i64 0] 40)).alloc (.cells #[.int .i64 0, .int .u32 0, .string ⟨#[]⟩, .int .i64 0] 40)):=below_trans (box_below w _) (box_below _ _)
 have sA:Stands ((w.alloc (.cells #[.int .i64 0, .int .u32 0, .string ⟨#[]⟩, .int .i64 0] 40)).alloc (.cells #[.int .i64 0, .int .u32 0, .string ⟨#[]⟩, .int .i64 0] 40)) w.heap.size #[.int .i64 0, .int .u32 0, .string ⟨#[]⟩, .int .i64 0] 40:=(stands_new w _ _).below (box_below _ _)
 have sT:Stands ((w.alloc (.cells #[.int .i64 0, .int .u32 0, .string ⟨#[]⟩, .int .i64 0] 40)).alloc (.cells #[.int .i64 0, .int .u32 0, .string ⟨#[]⟩, .int .i64 0] 40)) (w.heap.size+1) #[.int .i64 0, .int .u32 0, .string ⟨#[]⟩, .int .i64 0] 40:=by have:=stands_new (w.alloc (.cells #[.int .i64 0, .int .u32 0, .string ⟨#[]⟩, .int .i64 0] 40)) #[.int .i64 0, .int .u32 0, .string ⟨#[]⟩, .int .i64 0] 40;rwa [size_al] at this
 generalize (w.alloc (.cells #[.int .i64 0, .int .u32 0, .string ⟨#[]⟩, .int .i64 0] 40)).alloc (.cells #[.int .i64 0, .int .u32 0, .string ⟨#[]⟩, .int .i64 0] 40)=W0 at bW sA sT ⊢
 obtain ⟨ad0,x0,i0,c0,_,_,g0⟩:=mem_at (h.below bW) hB 0 (by omega) (by simp only[List.length_cons];omega)
 simp only[Int.toNat_zero,List.getD_cons_zero] at g0
 subst g0
 have t00:=sT.cell 0 _ rfl
 have t01:=sT.cell 1 _ rfl
 have t02:=sT.cell 2 _ rfl
 have t03:=sT.cell 3 _ rfl
 have y00:=sT.free 0
 have y01:=sT.free 1
 have y02:=sT.free 2
 have y03:=sT.free 3
 go_upto_region 6 with fail
 have sA1:=sA.other 0 (.int .i64 a) (show ¬w.heap.size=w.heap.size+1 by omega)
 have sT1:Stands _ (w.heap.size+1) #[.int .i64 a, .int .u32 0, .string ⟨#[]⟩, .int .i64 0] 40:=sT.set 0 (.int .i64 a)
 have bW1:=below_set bW (w.heap.size+1) 0 (.int .i64 a) (by omega)
 clear t00 y00 t01 y01 t02 y02 t03 y03
 clear sA sT bW
 have sA:=sA1
 have sT:=sT1
 have bW:=bW1
 clear sA1 sT1 bW1
 generalize W0.setCell ⟨w.heap.size+1,0,none⟩ (.int .i64 a)=W1 at sA sT bW ⊢
 have t10:=sT.cell 0 _ rfl
 have t11:=sT.cell 1 _ rfl
 have t12:=sT.cell 2 _ rfl
 have t13:=sT.cell 3 _ rfl
 have y10:=sT.free 0
 have y11:=sT.free 1
 have y12:=sT.free 2
 have y13:=sT.free 3
 have u10:=sA.cell 0 _ rfl
 have z10:=sA.free 0
 have u11:=sA.cell 1 _ rfl
 have z11:=sA.free 1
 have u12:=sA.cell 2 _ rfl
 have z12:=sA.free 2
 have u13:=sA.cell 3 _ rfl
 have z13:=sA.free 3
 go_wp2_with (first|(go_at_call 17;refine (cB _).mono ?_;rintro e q ⟨rfl,hw⟩;obtain rfl:=hw.symm))
 have g9:=set4 sA (.int .i64 0) (.int .u32 0) (.string ⟨#[]⟩) (.int .i64 0)
 refine bodyPost_ret (res_row2 rfl _ _ w.heap.size 40 _ (0,0) _ rfl g9 Tryz.underlying40 rfl (show _=some 4 by kernel_rfl)) rfl ?_
 exact one_none HK1.out (bset4 bW _ _ _ _ _ (Nat.le_refl _))
set_option maxHeartbeats 4000000 in
set_option maxRecDepth 100000 in
theorem w_one1 (v:Value) (a:Int) (r:List Int) (wide:Bool) (w:World) (h:Rd .u8 w v (a::r)) (hB:bytesL (a::r)) (hl:(a::r).length≤8192) (h16:16≤a) (hk:bhF a=1) (hge:¬(r.length:Int) < 4) (N:Int) (r2:List Int) (hn:bePn 1 a wide r=some (⟨a,N,[],0⟩,r2)) (hN:N=r.getD 0 0*16777216+r.getD 1 0*65536+r.getD 2 0*256+r.getD 3 0) (N0:0≤N) (N1:N < 4294967296):
  Calls Tryz.prog 30 #[v, .bool wide] w (OneP w (a::r) wide):=by
 have hone1:=one_1 a r wide 1 (by omega) hk
 have hlen:=rd_len h uB (P:=Tryz.prog)
 have hLL:((a::r).length:Int)=r.length+1:=by simp
 rw[hLL] at hlen
 have hrl:(r.length:Int)≤8191:=by have:(a::r).length=r.length+1:=rfl;omega
 have hBr:bytesL r:=fun x hx=>hB x (by simp[hx])
 have hab:=hB a (by simp)
 obtain ⟨ha0,ha1⟩:=hab
 obtain ⟨vr,rr,_,_,cut⟩:=rd_cut h uB zB 1 (a::r).length (by simp) (Nat.le_refl _)
 rw[show (List.drop 1 (a::r))=r from rfl,List.take_of_length_le (by simp)] at rr
 have cut1:∀w',(Instr.slice 29 v (some (.int .i64 1)) none none).run Tryz.prog w'= .ok vr w':=cut rfl
 have hlr:=rd_len rr uB (P:=Tryz.prog)
 clear cut hLL
 have cB:=fun w=>w_rbehind a w
 rw[hk] at cB
 rw[hn] at hone1
 have HK1:=hid hone1
 clear hn
 clear hone1 hk
 have hlz:((r.length:Int)+1==0)=false:=by rw[beq_eq_false_iff_ne];omega
 go_enter Tryz.func30,Tryz.ntmps30
 go_upto_region 4 with fail
 have bW:Below w.heap.size w ((w.alloc (.cells #[.int .i64 0, .int .u32 0, .string ⟨#[]⟩, .int .i64 0] 40)).alloc (.cells #[.int .i64 0, .int .u32 0, .string ⟨#[]⟩, .int .i64 0] 40)):=below_trans (box_below w _) (box_below _ _)
 have sA:Stands ((w.alloc (.cells #[.int .i64 0, .int .u32 0, .string ⟨#[]⟩, .int .i64 0] 40)).alloc (.cells #[.int .i64 0, .int .u32 0, .string ⟨#[]⟩, .int .i64 0] 40)) w.heap.size #[.int .i64 0, .int .u32 0, .string ⟨#[]⟩, .int .i64 0] 40:=(stands_new w _ _).below (box_below _ _)
 have sT:Stands ((w.alloc (.cells #[.int .i64 0, .int .u32 0, .string ⟨#[]⟩, .int .i64 0] 40)).alloc (.cells #[.int .i64 0, .int .u32 0, .string ⟨#[]⟩, .int .i64 0] 40)) (w.heap.size+1) #[.int .i64 0, .int .u32 0, .string ⟨#[]⟩, .int .i64 0] 40:=by have:=stands_new (w.alloc (.cells #[.int .i64 0, .int .u32 0, .string ⟨#[]⟩, .int .i64 0] 40)) #[.int .i64 0, .int .u32 0, .string ⟨#[]⟩, .int .i64 0] 40;rwa [size_al] at this
 generalize (w.alloc (.cells #[.int .i64 0, .int .u32 0, .string ⟨#[]⟩, .int .i64 0] 40)).alloc (.cells #[.int .i64 0, .int .u32 0, .string ⟨#[]⟩, .int .i64 0] 40)=W0 at bW sA sT ⊢
 obtain ⟨ad0,x0,i0,c0,_,_,g0⟩:=mem_at (h.below bW) hB 0 (by omega) (by simp only[List.length_cons];omega)
 simp only[Int.toNat_zero,List.getD_cons_zero] at g0
 subst g0
 have t00:=sT.cell 0 _ rfl
 have t01:=sT.cell 1 _ rfl
 have t02:=sT.cell 2 _ rfl
 have t03:=sT.cell 3 _ rfl
 have y00:=sT.free 0
 have y01:=sT.free 1
 have y02:=sT.free 2
 have y03:=sT.free 3
 go_upto_region 6 with fail
 have sA1:=sA.other 0 (.int .i64 a) (show ¬w.heap.size=w.heap.size+1 by omega)
 have sT1:Stands _ (w.heap.size+1) #[.int .i64 a, .int .u32 0, .string ⟨#[]⟩, .int .i64 0] 40:=sT.set 0 (.int .i64 a)
 have bW1:=below_set bW (w.heap.size+1) 0 (.int .i64 a) (by omega)
 clear t00 y00 t01 y01 t02 y02 t03 y03
 clear sA sT bW
 have sA:=sA1
 have sT:=sT1
 have bW:=bW1
 clear sA1 sT1 bW1
 generalize W0.setCell ⟨w.heap.size+1,0,none⟩ (.int .i64 a)=W1 at sA sT bW ⊢
 have t10:=sT.cell 0 _ rfl
 have t11:=sT.cell 1 _ rfl
 have t12:=sT.cell 2 _ rfl
 have t13:=sT.cell 3 _ rfl
 have y10:=sT.free 0
 have y11:=sT.free 1
 have y12:=sT.free 2
 have y13:=sT.free 3
 obtain ⟨ad0,x0,ii0,cw0,lo0,hi0,gg0⟩:=mem_at rr hBr 0 (by omega) (by omega)
 have cc0:=below_cell bW cw0
 obtain ⟨ad1,x1,ii1,cw1,lo1,hi1,gg1⟩:=mem_at rr hBr 1 (by omega) (by omega)
 have cc1:=below_cell bW cw1
 obtain ⟨ad2,x2,ii2,cw2,lo2,hi2,gg2⟩:=mem_at rr hBr 2 (by omega) (by omega)
 have cc2:=below_cell bW cw2
 obtain ⟨ad3,x3,ii3,cw3,lo3,hi3,gg3⟩:=mem_at rr hBr 3 (by omega) (by omega)
 have cc3:=below_cell bW cw3
 have HN:Hid (N=x0*16777216+x1*65536+x2*256+x3):=by show _=_;rw[hN,←gg0,←gg1,←gg2,←gg3];rfl
 clear hN gg0 gg1 gg2 gg3
 go_upto_region 16 with (first|(go_at_call 17;refine (cB _).mono ?_;rintro e q ⟨rfl,hw⟩;obtain rfl:=hw.symm))
 have bd:Below W1.heap.size W1 W1.drew:=below_drewN (Below.refl _ _) 1
 have K1:W1.drew.cell? ad0=some (.int .u8 x0)∧W1.drew.cell? ad1=some (.int .u8 x1)∧W1.drew.cell? ad2=some (.int .u8 x2)∧W1.drew.cell? ad3=some (.int .u8 x3):=⟨below_cell (below_trans bW bd) cw0,below_cell (below_trans bW bd) cw1,below_cell (below_trans bW bd) cw2,below_cell (below_trans bW bd) cw3⟩
 have bS:∀u,Below w.heap.size w (W1.setCell ⟨w.heap.size+1,1,none⟩ u).drew:=fun u=>below_trans (below_set bW (w.heap.size+1) 1 u (by omega)) (below_drewN (Below.refl _ _) 1)
 have KS:∀u,(W1.setCell ⟨w.heap.size+1,1,none⟩ u).drew.cell? ad0=some (.int .u8 x0)∧(W1.setCell ⟨w.heap.size+1,1,none⟩ u).drew.cell? ad1=some (.int .u8 x1)∧(W1.setCell ⟨w.heap.size+1,1,none⟩ u).drew.cell? ad2=some (.int .u8 x2)∧(W1.setCell ⟨w.heap.size+1,1,none⟩ u).drew.cell? ad3=some (.int .u8 x3):=fun u=>⟨below_cell (bS u) cw0,below_cell (bS u) cw1,below_cell (bS u) cw2,below_cell (bS u) cw3⟩
 clear bS bd
 go_region_held2 (fun W=>W.cell? ad0=some (.int .u8 x0)∧W.cell? ad1=some (.int .u8 x1)∧W.cell? ad2=some (.int .u8 x2)∧W.cell? ad3=some (.int .u8 x3)) (first|with_reducible exact K1|with_reducible exact KS _) (fail)
 rw[show IntKind.u32.wrap (IntKind.u32.wrap (IntKind.u32.wrap (IntKind.u32.wrap (IntKind.u32.wrap x0*16777216)+IntKind.u32.wrap (IntKind.u32.wrap x1*65536))+IntKind.u32.wrap (IntKind.u32.wrap x2*256))+IntKind.u32.wrap x3)=N from (by rw[HN.out];simp only[IntKind.wrap_u32];omega)]
 have bd:Below (W1.setCell ⟨w.heap.size+1,1,none⟩ (.int .u32 (N))).heap.size (W1.setCell ⟨w.heap.size+1,1,none⟩ (.int .u32 (N))) (W1.setCell ⟨w.heap.size+1,1,none⟩ (.int .u32 (N))).drew:=below_drewN (Below.refl _ _) 1
 have sA2:=(sA.other 1 (.int .u32 (N)) (show ¬w.heap.size=w.heap.size+1 by omega)).below bd
 have sT2:Stands _ (w.heap.size+1) #[.int .i64 a, .int .u32 N, .string ⟨#[]⟩, .int .i64 0] 40:=(sT.set 1 (.int .u32 (N))).below bd
 have bW2:=below_trans (below_set bW (w.heap.size+1) 1 (.int .u32 (N)) (by omega)) bd
 clear t10 y10 t11 y11 t12 y12 t13 y13
 clear sA sT bW bd K1 KS
 have sA:=sA2
 have sT:=sT2
 have bW:=bW2
 clear sA2 sT2 bW2
 generalize (W1.setCell ⟨w.heap.size+1,1,none⟩ (.int .u32 (N))).drew=W2 at sA sT bW ⊢
 have t20:=sT.cell 0 _ rfl
 have t21:=sT.cell 1 _ rfl
 have t22:=sT.cell 2 _ rfl
 have t23:=sT.cell 3 _ rfl
 have y20:=sT.free 0
 have y21:=sT.free 1
 have y22:=sT.free 2
 have y23:=sT.free 3
 have hone:oneP _ wide=some (⟨a,N,LB ⟨#[]⟩,0⟩,_):=HK1.out
 have HO:=hid hone
 have cY:=fun w=>w_rbytes (a) (N) (0) (⟨#[]⟩) wide w N0 N1 (by omega) (by omega) (by decide)
 clear hone
 cases hq:okQ ⟨a,N,LB ⟨#[]⟩,0⟩ wide with
 |true=>
  rw[hq] at cY
  have HQ:=hid hq
  clear hq
  go_wp2_with (first|(go_at_call 27;refine (cY _).mono ?_;rintro e w4 ⟨v4,rfl,o4,b4⟩;have sA4:=sA.below b4;have sT4:=sT.below b4;have bW4:=below_trans bW b4;have u40:=sA4.cell 0 _ rfl;have z40:=sA4.free 0;have t40:=sT4.cell 0 _ rfl;have u41:=sA4.cell 1 _ rfl;have z41:=sA4.free 1;have t41:=sT4.cell 1 _ rfl;have u42:=sA4.cell 2 _ rfl;have z42:=sA4.free 2;have t42:=sT4.cell 2 _ rfl;have u43:=sA4.cell 3 _ rfl;have z43:=sA4.free 3;have t43:=sT4.cell 3 _ rfl;have q4:OwB W2.heap.size w4 v4 (byQ ⟨a,N,LB ⟨#[]⟩,0⟩ wide):=(by first|exact o4 rfl|exact o4 trivial|exact o4);have hl4:=rd_len (Rd_own q4).1 uB (P:=Tryz.prog))|(go_at_call 17;refine (cB _).mono ?_;rintro e q ⟨rfl,hw⟩;obtain rfl:=hw.symm))
  have g9:=set4 sA4 (.int .i64 (a)) (.int .u32 (N)) (.string (⟨#[]⟩)) (.int .i64 (0))
  refine bodyPost_ret (res_row2 rfl _ _ w.heap.size 40 _ (0,0) _ rfl g9 Tryz.underlying40 rfl (show _=some 4 by kernel_rfl)) rfl ?_
  have e9:(tqC ⟨a,N,LB ⟨#[]⟩,0⟩).toArray=#[.int .i64 (a), .int .u32 (N), .string (⟨#[]⟩), .int .i64 (0)]:=by simp[tqC,nums_LB]
  have f9:=one_good HO.out HQ.out (bset4 bW4 _ (.int .i64 (a)) (.int .u32 (N)) (.string (⟨#[]⟩)) (.int .i64 (0)) (Nat.le_refl _))
  rw[e9] at f9
  exact f9
 |false=>
  rw[hq] at cY
  have HQ:=hid hq
  clear hq
  go_wp2_with (first|(go_at_call 27;refine (cY _).mono ?_;rintro e w4 ⟨v4,rfl,o4,b4⟩;have sA4:=sA.below b4;have sT4:=sT.below b4;have bW4:=below_trans bW b4;have u40:=sA4.cell 0 _ rfl;have z40:=sA4.free 0;have t40:=sT4.cell 0 _ rfl;have u41:=sA4.cell 1 _ rfl;have z41:=sA4.free 1;have t41:=sT4.cell 1 _ rfl;have u42:=sA4.cell 2 _ rfl;have z42:=sA4.free 2;have t42:=sT4.cell 2 _ rfl;have u43:=sA4.cell 3 _ rfl;have z43:=sA4.free 3;have t43:=sT4.cell 3 _ rfl)|(go_at_call 17;refine (cB _).mono ?_;rintro e q ⟨rfl,hw⟩;obtain rfl:=hw.symm))
  have g9:=set4 sA4 (.int .i64 0) (.int .u32 0) (.string ⟨#[]⟩) (.int .i64 0)
  refine bodyPost_ret (res_row2 rfl _ _ w.heap.size 40 _ (0,0) _ rfl g9 Tryz.underlying40 rfl (show _=some 4 by kernel_rfl)) rfl ?_
  exact one_bad HO.out HQ.out (bset4 bW4 _ _ _ _ _ (Nat.le_refl _))
set_option maxHeartbeats 4000000 in
set_option maxRecDepth 100000 in
theorem w_one5f (v:Value) (a:Int) (r:List Int) (wide:Bool) (w:World) (h:Rd .u8 w v (a::r)) (hB:bytesL (a::r)) (hl:(a::r).length≤8192) (h16:16≤a) (hk:bhF a=5) (hlt:(r.length:Int) < 2) (hn:bePn 5 a wide r=none):
  Calls Tryz.prog 30 #[v, .bool wide] w (OneP w (a::r) wide):=by
 have hone1:=one_1 a r wide 5 (by omega) hk
 have hlen:=rd_len h uB (P:=Tryz.prog)
 have hLL:((a::r).length:Int)=r.length+1:=by simp
 rw[hLL] at hlen
 have hrl:(r.length:Int)≤8191:=by have:(a::r).length=r.length+1:=rfl;omega
 have hBr:bytesL r:=fun x hx=>hB x (by simp[hx])
 have hab:=hB a (by simp)
 obtain ⟨ha0,ha1⟩:=hab
 obtain ⟨vr,rr,_,_,cut⟩:=rd_cut h uB zB 1 (a::r).length (by simp) (Nat.le_refl _)
 rw[show (List.drop 1 (a::r))=r from rfl,List.take_of_length_le (by simp)] at rr
 have cut1:∀w',(Instr.slice 29 v (some (.int .i64 1)) none none).run Tryz.prog w'= .ok vr w':=cut rfl
 have hlr:=rd_len rr uB (P:=Tryz.prog)
 clear cut hLL
 have cB:=fun w=>w_rbehind a w
 rw[hk] at cB
 rw[hn] at hone1
 have HK1:=hid hone1
 clear hn
 clear hone1 hk
 have hlz:((r.length:Int)+1==0)=false:=by rw[beq_eq_false_iff_ne];omega
 go_enter Tryz.func30,Tryz.ntmps30
 go_upto_region 4 with fail
 have bW:Below w.heap.size w ((w.alloc (.cells #[.int .i64 0, .int .u32 0, .string ⟨#[]⟩, .int .i64 0] 40)).alloc (.cells #[.int .i64 0, .int .u32 0, .string ⟨#[]⟩, .int .i64 0] 40)):=below_trans (box_below w _) (box_below _ _)
 have sA:Stands ((w.alloc (.cells #[.int .i64 0, .int .u32 0, .string ⟨#[]⟩, .int .i64 0] 40)).alloc (.cells #[.int .i64 0, .int .u32 0, .string ⟨#[]⟩, .int .i64 0] 40)) w.heap.size #[.int .i64 0, .int .u32 0, .string ⟨#[]⟩, .int .i64 0] 40:=(stands_new w _ _).below (box_below _ _)
 have sT:Stands ((w.alloc (.cells #[.int .i64 0, .int .u32 0, .string ⟨#[]⟩, .int .i64 0] 40)).alloc (.cells #[.int .i64 0, .int .u32 0, .string ⟨#[]⟩, .int .i64 0] 40)) (w.heap.size+1) #[.int .i64 0, .int .u32 0, .string ⟨#[]⟩, .int .i64 0] 40:=by have:=stands_new (w.alloc (.cells #[.int .i64 0, .int .u32 0, .string ⟨#[]⟩, .int .i64 0] 40)) #[.int .i64 0, .int .u32 0, .string ⟨#[]⟩, .int .i64 0] 40;rwa [size_al] at this
 generalize (w.alloc (.cells #[.int .i64 0, .int .u32 0, .string ⟨#[]⟩, .int .i64 0] 40)).alloc (.cells #[.int .i64 0, .int .u32 0, .string ⟨#[]⟩, .int .i64 0] 40)=W0 at bW sA sT ⊢
 obtain ⟨ad0,x0,i0,c0,_,_,g0⟩:=mem_at (h.below bW) hB 0 (by omega) (by simp only[List.length_cons];omega)
 simp only[Int.toNat_zero,List.getD_cons_zero] at g0
 subst g0
 have t00:=sT.cell 0 _ rfl
 have t01:=sT.cell 1 _ rfl
 have t02:=sT.cell 2 _ rfl
 have t03:=sT.cell 3 _ rfl
 have y00:=sT.free 0
 have y01:=sT.free 1
 have y02:=sT.free 2
 have y03:=sT.free 3
 go_upto_region 6 with fail
 have sA1:=sA.other 0 (.int .i64 a) (show ¬w.heap.size=w.heap.size+1 by omega)
 have sT1:Stands _ (w.heap.size+1) #[.int .i64 a, .int .u32 0, .string ⟨#[]⟩, .int .i64 0] 40:=sT.set 0 (.int .i64 a)
 have bW1:=below_set bW (w.heap.size+1) 0 (.int .i64 a) (by omega)
 clear t00 y00 t01 y01 t02 y02 t03 y03
 clear sA sT bW
 have sA:=sA1
 have sT:=sT1
 have bW:=bW1
 clear sA1 sT1 bW1
 generalize W0.setCell ⟨w.heap.size+1,0,none⟩ (.int .i64 a)=W1 at sA sT bW ⊢
 have t10:=sT.cell 0 _ rfl
 have t11:=sT.cell 1 _ rfl
 have t12:=sT.cell 2 _ rfl
 have t13:=sT.cell 3 _ rfl
 have y10:=sT.free 0
 have y11:=sT.free 1
 have y12:=sT.free 2
 have y13:=sT.free 3
 have u10:=sA.cell 0 _ rfl
 have z10:=sA.free 0
 have u11:=sA.cell 1 _ rfl
 have z11:=sA.free 1
 have u12:=sA.cell 2 _ rfl
 have z12:=sA.free 2
 have u13:=sA.cell 3 _ rfl
 have z13:=sA.free 3
 go_wp2_with (first|(go_at_call 17;refine (cB _).mono ?_;rintro e q ⟨rfl,hw⟩;obtain rfl:=hw.symm))
 have g9:=set4 sA (.int .i64 0) (.int .u32 0) (.string ⟨#[]⟩) (.int .i64 0)
 refine bodyPost_ret (res_row2 rfl _ _ w.heap.size 40 _ (0,0) _ rfl g9 Tryz.underlying40 rfl (show _=some 4 by kernel_rfl)) rfl ?_
 exact one_none HK1.out (bset4 bW _ _ _ _ _ (Nat.le_refl _))
set_option maxHeartbeats 4000000 in
set_option maxRecDepth 100000 in
theorem w_one5 (v:Value) (a:Int) (r:List Int) (wide:Bool) (w:World) (h:Rd .u8 w v (a::r)) (hB:bytesL (a::r)) (hl:(a::r).length≤8192) (h16:16≤a) (hk:bhF a=5) (hge:¬(r.length:Int) < 2) (N:Int) (r2:List Int) (hn:bePn 5 a wide r=some (⟨a,N,[],0⟩,r2)) (hN:N=r.getD 0 0*256+r.getD 1 0) (N0:0≤N) (N1:N < 4294967296):
  Calls Tryz.prog 30 #[v, .bool wide] w (OneP w (a::r) wide):=by
 have hone1:=one_1 a r wide 5 (by omega) hk
 have hlen:=rd_len h uB (P:=Tryz.prog)
 have hLL:((a::r).length:Int)=r.length+1:=by simp
 rw[hLL] at hlen
 have hrl:(r.length:Int)≤8191:=by have:(a::r).length=r.length+1:=rfl;omega
 have hBr:bytesL r:=fun x hx=>hB x (by simp[hx])
 have hab:=hB a (by simp)
 obtain ⟨ha0,ha1⟩:=hab
 obtain ⟨vr,rr,_,_,cut⟩:=rd_cut h uB zB 1 (a::r).length (by simp) (Nat.le_refl _)
 rw[show (List.drop 1 (a::r))=r from rfl,List.take_of_length_le (by simp)] at rr
 have cut1:∀w',(Instr.slice 29 v (some (.int .i64 1)) none none).run Tryz.prog w'= .ok vr w':=cut rfl
 have hlr:=rd_len rr uB (P:=Tryz.prog)
 clear cut hLL
 have cB:=fun w=>w_rbehind a w
 rw[hk] at cB
 rw[hn] at hone1
 have HK1:=hid hone1
 clear hn
 clear hone1 hk
 have hlz:((r.length:Int)+1==0)=false:=by rw[beq_eq_false_iff_ne];omega
 go_enter Tryz.func30,Tryz.ntmps30
 go_upto_region 4 with fail
 have bW:Below w.heap.size w ((w.alloc (.cells #[.int .i64 0, .int .u32 0, .string ⟨#[]⟩, .int .i64 0] 40)).alloc (.cells #[.int .i64 0, .int .u32 0, .string ⟨#[]⟩, .int .i64 0] 40)):=below_trans (box_below w _) (box_below _ _)
 have sA:Stands ((w.alloc (.cells #[.int .i64 0, .int .u32 0, .string ⟨#[]⟩, .int .i64 0] 40)).alloc (.cells #[.int .i64 0, .int .u32 0, .string ⟨#[]⟩, .int .i64 0] 40)) w.heap.size #[.int .i64 0, .int .u32 0, .string ⟨#[]⟩, .int .i64 0] 40:=(stands_new w _ _).below (box_below _ _)
 have sT:Stands ((w.alloc (.cells #[.int .i64 0, .int .u32 0, .string ⟨#[]⟩, .int .i64 0] 40)).alloc (.cells #[.int .i64 0, .int .u32 0, .string ⟨#[]⟩, .int .i64 0] 40)) (w.heap.size+1) #[.int .i64 0, .int .u32 0, .string ⟨#[]⟩, .int .i64 0] 40:=by have:=stands_new (w.alloc (.cells #[.int .i64 0, .int .u32 0, .string ⟨#[]⟩, .int .i64 0] 40)) #[.int .i64 0, .int .u32 0, .string ⟨#[]⟩, .int .i64 0] 40;rwa [size_al] at this
 generalize (w.alloc (.cells #[.int .i64 0, .int .u32 0, .string ⟨#[]⟩, .int .i64 0] 40)).alloc (.cells #[.int .i64 0, .int .u32 0, .string ⟨#[]⟩, .int .i64 0] 40)=W0 at bW sA sT ⊢
 obtain ⟨ad0,x0,i0,c0,_,_,g0⟩:=mem_at (h.below bW) hB 0 (by omega) (by simp only[List.length_cons];omega)
 simp only[Int.toNat_zero,List.getD_cons_zero] at g0
 subst g0
 have t00:=sT.cell 0 _ rfl
 have t01:=sT.cell 1 _ rfl
 have t02:=sT.cell 2 _ rfl
 have t03:=sT.cell 3 _ rfl
 have y00:=sT.free 0
 have y01:=sT.free 1
 have y02:=sT.free 2
 have y03:=sT.free 3
 go_upto_region 6 with fail
 have sA1:=sA.other 0 (.int .i64 a) (show ¬w.heap.size=w.heap.size+1 by omega)
 have sT1:Stands _ (w.heap.size+1) #[.int .i64 a, .int .u32 0, .string ⟨#[]⟩, .int .i64 0] 40:=sT.set 0 (.int .i64 a)
 have bW1:=below_set bW (w.heap.size+1) 0 (.int .i64 a) (by omega)
 clear t00 y00 t01 y01 t02 y02 t03 y03
 clear sA sT bW
 have sA:=sA1
 have sT:=sT1
 have bW:=bW1
 clear sA1 sT1 bW1
 generalize W0.setCell ⟨w.heap.size+1,0,none⟩ (.int .i64 a)=W1 at sA sT bW ⊢
 have t10:=sT.cell 0 _ rfl
 have t11:=sT.cell 1 _ rfl
 have t12:=sT.cell 2 _ rfl
 have t13:=sT.cell 3 _ rfl
 have y10:=sT.free 0
 have y11:=sT.free 1
 have y12:=sT.free 2
 have y13:=sT.free 3
 obtain ⟨ad0,x0,ii0,cw0,lo0,hi0,gg0⟩:=mem_at rr hBr 0 (by omega) (by omega)
 have cc0:=below_cell bW cw0
 obtain ⟨ad1,x1,ii1,cw1,lo1,hi1,gg1⟩:=mem_at rr hBr 1 (by omega) (by omega)
 have cc1:=below_cell bW cw1
 have HN:Hid (N=x0*256+x1):=by show _=_;rw[hN,←gg0,←gg1];rfl
 clear hN gg0 gg1
 go_upto_region 38 with (first|(go_at_call 17;refine (cB _).mono ?_;rintro e q ⟨rfl,hw⟩;obtain rfl:=hw.symm))
 have bd:Below W1.heap.size W1 W1.drew:=below_drewN (Below.refl _ _) 1
 have K1:W1.drew.cell? ad0=some (.int .u8 x0)∧W1.drew.cell? ad1=some (.int .u8 x1):=⟨below_cell (below_trans bW bd) cw0,below_cell (below_trans bW bd) cw1⟩
 have bS:∀u,Below w.heap.size w (W1.setCell ⟨w.heap.size+1,1,none⟩ u).drew:=fun u=>below_trans (below_set bW (w.heap.size+1) 1 u (by omega)) (below_drewN (Below.refl _ _) 1)
 have KS:∀u,(W1.setCell ⟨w.heap.size+1,1,none⟩ u).drew.cell? ad0=some (.int .u8 x0)∧(W1.setCell ⟨w.heap.size+1,1,none⟩ u).drew.cell? ad1=some (.int .u8 x1):=fun u=>⟨below_cell (bS u) cw0,below_cell (bS u) cw1⟩
 clear bS bd
 go_region_held2 (fun W=>W.cell? ad0=some (.int .u8 x0)∧W.cell? ad1=some (.int .u8 x1)) (first|with_reducible exact K1|with_reducible exact KS _) (fail)
 rw[show IntKind.u32.wrap (IntKind.u32.wrap (IntKind.u32.wrap x0*256)+IntKind.u32.wrap x1)=N from (by rw[HN.out];simp only[IntKind.wrap_u32];omega)]
 have bd:Below (W1.setCell ⟨w.heap.size+1,1,none⟩ (.int .u32 (N))).heap.size (W1.setCell ⟨w.heap.size+1,1,none⟩ (.int .u32 (N))) (W1.setCell ⟨w.heap.size+1,1,none⟩ (.int .u32 (N))).drew:=below_drewN (Below.refl _ _) 1
 have sA2:=(sA.other 1 (.int .u32 (N)) (show ¬w.heap.size=w.heap.size+1 by omega)).below bd
 have sT2:Stands _ (w.heap.size+1) #[.int .i64 a, .int .u32 N, .string ⟨#[]⟩, .int .i64 0] 40:=(sT.set 1 (.int .u32 (N))).below bd
 have bW2:=below_trans (below_set bW (w.heap.size+1) 1 (.int .u32 (N)) (by omega)) bd
 clear t10 y10 t11 y11 t12 y12 t13 y13
 clear sA sT bW bd K1 KS
 have sA:=sA2
 have sT:=sT2
 have bW:=bW2
 clear sA2 sT2 bW2
 generalize (W1.setCell ⟨w.heap.size+1,1,none⟩ (.int .u32 (N))).drew=W2 at sA sT bW ⊢
 have t20:=sT.cell 0 _ rfl
 have t21:=sT.cell 1 _ rfl
 have t22:=sT.cell 2 _ rfl
 have t23:=sT.cell 3 _ rfl
 have y20:=sT.free 0
 have y21:=sT.free 1
 have y22:=sT.free 2
 have y23:=sT.free 3
 have hone:oneP _ wide=some (⟨a,N,LB ⟨#[]⟩,0⟩,_):=HK1.out
 have HO:=hid hone
 have cY:=fun w=>w_rbytes (a) (N) (0) (⟨#[]⟩) wide w N0 N1 (by omega) (by omega) (by decide)
 clear hone
 cases hq:okQ ⟨a,N,LB ⟨#[]⟩,0⟩ wide with
 |true=>
  rw[hq] at cY
  have HQ:=hid hq
  clear hq
  go_wp2_with (first|(go_at_call 27;refine (cY _).mono ?_;rintro e w4 ⟨v4,rfl,o4,b4⟩;have sA4:=sA.below b4;have sT4:=sT.below b4;have bW4:=below_trans bW b4;have u40:=sA4.cell 0 _ rfl;have z40:=sA4.free 0;have t40:=sT4.cell 0 _ rfl;have u41:=sA4.cell 1 _ rfl;have z41:=sA4.free 1;have t41:=sT4.cell 1 _ rfl;have u42:=sA4.cell 2 _ rfl;have z42:=sA4.free 2;have t42:=sT4.cell 2 _ rfl;have u43:=sA4.cell 3 _ rfl;have z43:=sA4.free 3;have t43:=sT4.cell 3 _ rfl;have q4:OwB W2.heap.size w4 v4 (byQ ⟨a,N,LB ⟨#[]⟩,0⟩ wide):=(by first|exact o4 rfl|exact o4 trivial|exact o4);have hl4:=rd_len (Rd_own q4).1 uB (P:=Tryz.prog))|(go_at_call 17;refine (cB _).mono ?_;rintro e q ⟨rfl,hw⟩;obtain rfl:=hw.symm))
  have g9:=set4 sA4 (.int .i64 (a)) (.int .u32 (N)) (.string (⟨#[]⟩)) (.int .i64 (0))
  refine bodyPost_ret (res_row2 rfl _ _ w.heap.size 40 _ (0,0) _ rfl g9 Tryz.underlying40 rfl (show _=some 4 by kernel_rfl)) rfl ?_
  have e9:(tqC ⟨a,N,LB ⟨#[]⟩,0⟩).toArray=#[.int .i64 (a), .int .u32 (N), .string (⟨#[]⟩), .int .i64 (0)]:=by simp[tqC,nums_LB]
  have f9:=one_good HO.out HQ.out (bset4 bW4 _ (.int .i64 (a)) (.int .u32 (N)) (.string (⟨#[]⟩)) (.int .i64 (0)) (Nat.le_refl _))
  rw[e9] at f9
  exact f9
 |false=>
  rw[hq] at cY
  have HQ:=hid hq
  clear hq
  go_wp2_with (first|(go_at_call 27;refine (cY _).mono ?_;rintro e w4 ⟨v4,rfl,o4,b4⟩;have sA4:=sA.below b4;have sT4:=sT.below b4;have bW4:=below_trans bW b4;have u40:=sA4.cell 0 _ rfl;have z40:=sA4.free 0;have t40:=sT4.cell 0 _ rfl;have u41:=sA4.cell 1 _ rfl;have z41:=sA4.free 1;have t41:=sT4.cell 1 _ rfl;have u42:=sA4.cell 2 _ rfl;have z42:=sA4.free 2;have t42:=sT4.cell 2 _ rfl;have u43:=sA4.cell 3 _ rfl;have z43:=sA4.free 3;have t43:=sT4.cell 3 _ rfl)|(go_at_call 17;refine (cB _).mono ?_;rintro e q ⟨rfl,hw⟩;obtain rfl:=hw.symm))
  have g9:=set4 sA4 (.int .i64 0) (.int .u32 0) (.string ⟨#[]⟩) (.int .i64 0)
  refine bodyPost_ret (res_row2 rfl _ _ w.heap.size 40 _ (0,0) _ rfl g9 Tryz.underlying40 rfl (show _=some 4 by kernel_rfl)) rfl ?_
  exact one_bad HO.out HQ.out (bset4 bW4 _ _ _ _ _ (Nat.le_refl _))
set_option maxHeartbeats 4000000 in
set_option maxRecDepth 100000 in
theorem w_one2e (v:Value) (a:Int) (r:List Int) (wide:Bool) (w:World) (h:Rd .u8 w v (a::r)) (hB:bytesL (a::r)) (hl:(a::r).length≤8192) (h16:16≤a) (hk:bhF a=2) (hlt:(r.length:Int) < 1) (hn:bePn 2 a wide r=none):
  Calls Tryz.prog 30 #[v, .bool wide] w (OneP w (a::r) wide):=by
 have hone1:=one_1 a r wide 2 (by omega) hk
 have hlen:=rd_len h uB (P:=Tryz.prog)
 have hLL:((a::r).length:Int)=r.length+1:=by simp
 rw[hLL] at hlen
 have hrl:(r.length:Int)≤8191:=by have:(a::r).length=r.length+1:=rfl;omega
 have hBr:bytesL r:=fun x hx=>hB x (by simp[hx])
 have hab:=hB a (by simp)
 obtain ⟨ha0,ha1⟩:=hab
 obtain ⟨vr,rr,_,_,cut⟩:=rd_cut h uB zB 1 (a::r).length (by simp) (Nat.le_refl _)
 rw[show (List.drop 1 (a::r))=r from rfl,List.take_of_length_le (by simp)] at rr
 have cut1:∀w',(Instr.slice 29 v (some (.int .i64 1)) none none).run Tryz.prog w'= .ok vr w':=cut rfl
 have hlr:=rd_len rr uB (P:=Tryz.prog)
 clear cut hLL
 have cB:=fun w=>w_rbehind a w
 rw[hk] at cB
 rw[hn] at hone1
 have HK1:=hid hone1
 clear hn
 clear hone1 hk
 have hlz:((r.length:Int)+1==0)=false:=by rw[beq_eq_false_iff_ne];omega
 go_enter Tryz.func30,Tryz.ntmps30
 go_upto_region 4 with fail
 have bW:Below w.heap.size w ((w.alloc (.cells #[.int .i64 0, .int .u32 0, .string ⟨#[]⟩, .int .i64 0] 40)).alloc (.cells #[.int .i64 0, .int .u32 0, .string ⟨#[]⟩, .int .i64 0] 40)):=below_trans (box_below w _) (box_below _ _)
 have sA:Stands ((w.alloc (.cells #[.int .i64 0, .int .u32 0, .string ⟨#[]⟩, .int .i64 0] 40)).alloc (.cells #[.int .i64 0, .int .u32 0, .string ⟨#[]⟩, .int .i64 0] 40)) w.heap.size #[.int .i64 0, .int .u32 0, .string ⟨#[]⟩, .int .i64 0] 40:=(stands_new w _ _).below (box_below _ _)
 have sT:Stands ((w.alloc (.cells #[.int .i64 0, .int .u32 0, .string ⟨#[]⟩, .int .i64 0] 40)).alloc (.cells #[.int .i64 0, .int .u32 0, .string ⟨#[]⟩, .int .i64 0] 40)) (w.heap.size+1) #[.int .i64 0, .int .u32 0, .string ⟨#[]⟩, .int .i64 0] 40:=by have:=stands_new (w.alloc (.cells #[.int .i64 0, .int .u32 0, .string ⟨#[]⟩, .int .i64 0] 40)) #[.int .i64 0, .int .u32 0, .string ⟨#[]⟩, .int .i64 0] 40;rwa [size_al] at this
 generalize (w.alloc (.cells #[.int .i64 0, .int .u32 0, .string ⟨#[]⟩, .int .i64 0] 40)).alloc (.cells #[.int .i64 0, .int .u32 0, .string ⟨#[]⟩, .int .i64 0] 40)=W0 at bW sA sT ⊢
 obtain ⟨ad0,x0,i0,c0,_,_,g0⟩:=mem_at (h.below bW) hB 0 (by omega) (by simp only[List.length_cons];omega)
 simp only[Int.toNat_zero,List.getD_cons_zero] at g0
 subst g0
 have t00:=sT.cell 0 _ rfl
 have t01:=sT.cell 1 _ rfl
 have t02:=sT.cell 2 _ rfl
 have t03:=sT.cell 3 _ rfl
 have y00:=sT.free 0
 have y01:=sT.free 1
 have y02:=sT.free 2
 have y03:=sT.free 3
 go_upto_region 6 with fail
 have sA1:=sA.other 0 (.int .i64 a) (show ¬w.heap.size=w.heap.size+1 by omega)
 have sT1:Stands _ (w.heap.size+1) #[.int .i64 a, .int .u32 0, .string ⟨#[]⟩, .int .i64 0] 40:=sT.set 0 (.int .i64 a)
 have bW1:=below_set bW (w.heap.size+1) 0 (.int .i64 a) (by omega)
 clear t00 y00 t01 y01 t02 y02 t03 y03
 clear sA sT bW
 have sA:=sA1
 have sT:=sT1
 have bW:=bW1
 clear sA1 sT1 bW1
 generalize W0.setCell ⟨w.heap.size+1,0,none⟩ (.int .i64 a)=W1 at sA sT bW ⊢
 have t10:=sT.cell 0 _ rfl
 have t11:=sT.cell 1 _ rfl
 have t12:=sT.cell 2 _ rfl
 have t13:=sT.cell 3 _ rfl
 have y10:=sT.free 0
 have y11:=sT.free 1
 have y12:=sT.free 2
 have y13:=sT.free 3
 have u10:=sA.cell 0 _ rfl
 have z10:=sA.free 0
 have u11:=sA.cell 1 _ rfl
 have z11:=sA.free 1
 have u12:=sA.cell 2 _ rfl
 have z12:=sA.free 2
 have u13:=sA.cell 3 _ rfl
 have z13:=sA.free 3
 go_wp2_with (first|(go_at_call 17;refine (cB _).mono ?_;rintro e q ⟨rfl,hw⟩;obtain rfl:=hw.symm))
 have g9:=set4 sA (.int .i64 0) (.int .u32 0) (.string ⟨#[]⟩) (.int .i64 0)
 refine bodyPost_ret (res_row2 rfl _ _ w.heap.size 40 _ (0,0) _ rfl g9 Tryz.underlying40 rfl (show _=some 4 by kernel_rfl)) rfl ?_
 exact one_none HK1.out (bset4 bW _ _ _ _ _ (Nat.le_refl _))
set_option maxHeartbeats 4000000 in
set_option maxRecDepth 100000 in
theorem w_one2z (v:Value) (a:Int) (r:List Int) (wide:Bool) (w:World) (h:Rd .u8 w v (a::r)) (hB:bytesL (a::r)) (hl:(a::r).length≤8192) (h16:16≤a) (hk:bhF a=2) (hge:¬(r.length:Int) < 1) (r2:List Int) (hn:bePn 2 a wide r=some (⟨a,r.getD 0 0,[],0⟩,r2)) (hx:r.getD 0 0=0):
  Calls Tryz.prog 30 #[v, .bool wide] w (OneP w (a::r) wide):=by
 have hone1:=one_1 a r wide 2 (by omega) hk
 have hlen:=rd_len h uB (P:=Tryz.prog)
 have hLL:((a::r).length:Int)=r.length+1:=by simp
 rw[hLL] at hlen
 have hrl:(r.length:Int)≤8191:=by have:(a::r).length=r.length+1:=rfl;omega
 have hBr:bytesL r:=fun x hx=>hB x (by simp[hx])
 have hab:=hB a (by simp)
 obtain ⟨ha0,ha1⟩:=hab
 obtain ⟨vr,rr,_,_,cut⟩:=rd_cut h uB zB 1 (a::r).length (by simp) (Nat.le_refl _)
 rw[show (List.drop 1 (a::r))=r from rfl,List.take_of_length_le (by simp)] at rr
 have cut1:∀w',(Instr.slice 29 v (some (.int .i64 1)) none none).run Tryz.prog w'= .ok vr w':=cut rfl
 have hlr:=rd_len rr uB (P:=Tryz.prog)
 clear cut hLL
 have cB:=fun w=>w_rbehind a w
 rw[hk] at cB
 rw[hn] at hone1
 have HK1:=hid hone1
 clear hn
 clear hone1 hk
 have hlz:((r.length:Int)+1==0)=false:=by rw[beq_eq_false_iff_ne];omega
 go_enter Tryz.func30,Tryz.ntmps30
 go_upto_region 4 with fail
 have bW:Below w.heap.size w ((w.alloc (.cells #[.int .i64 0, .int .u32 0, .string ⟨#[]⟩, .int .i64 0] 40)).alloc (.cells #[.int .i64 0, .int .u32 0, .string ⟨#[]⟩, .int .i64 0] 40)):=below_trans (box_below w _) (box_below _ _)
 have sA:Stands ((w.alloc (.cells #[.int .i64 0, .int .u32 0, .string ⟨#[]⟩, .int .i64 0] 40)).alloc (.cells #[.int .i64 0, .int .u32 0, .string ⟨#[]⟩, .int .i64 0] 40)) w.heap.size #[.int .i64 0, .int .u32 0, .string ⟨#[]⟩, .int .i64 0] 40:=(stands_new w _ _).below (box_below _ _)
 have sT:Stands ((w.alloc (.cells #[.int .i64 0, .int .u32 0, .string ⟨#[]⟩, .int .i64 0] 40)).alloc (.cells #[.int .i64 0, .int .u32 0, .string ⟨#[]⟩, .int .i64 0] 40)) (w.heap.size+1) #[.int .i64 0, .int .u32 0, .string ⟨#[]⟩, .int .i64 0] 40:=by have:=stands_new (w.alloc (.cells #[.int .i64 0, .int .u32 0, .string ⟨#[]⟩, .int .i64 0] 40)) #[.int .i64 0, .int .u32 0, .string ⟨#[]⟩, .int .i64 0] 40;rwa [size_al] at this
 generalize (w.alloc (.cells #[.int .i64 0, .int .u32 0, .string ⟨#[]⟩, .int .i64 0] 40)).alloc (.cells #[.int .i64 0, .int .u32 0, .string ⟨#[]⟩, .int .i64 0] 40)=W0 at bW sA sT ⊢
 obtain ⟨ad0,x0,i0,c0,_,_,g0⟩:=mem_at (h.below bW) hB 0 (by omega) (by simp only[List.length_cons];omega)
 simp only[Int.toNat_zero,List.getD_cons_zero] at g0
 subst g0
 have t00:=sT.cell 0 _ rfl
 have t01:=sT.cell 1 _ rfl
 have t02:=sT.cell 2 _ rfl
 have t03:=sT.cell 3 _ rfl
 have y00:=sT.free 0
 have y01:=sT.free 1
 have y02:=sT.free 2
 have y03:=sT.free 3
 go_upto_region 6 with fail
 have sA1:=sA.other 0 (.int .i64 a) (show ¬w.heap.size=w.heap.size+1 by omega)
 have sT1:Stands _ (w.heap.size+1) #[.int .i64 a, .int .u32 0, .string ⟨#[]⟩, .int .i64 0] 40:=sT.set 0 (.int .i64 a)
 have bW1:=below_set bW (w.heap.size+1) 0 (.int .i64 a) (by omega)
 clear t00 y00 t01 y01 t02 y02 t03 y03
 clear sA sT bW
 have sA:=sA1
 have sT:=sT1
 have bW:=bW1
 clear sA1 sT1 bW1
 generalize W0.setCell ⟨w.heap.size+1,0,none⟩ (.int .i64 a)=W1 at sA sT bW ⊢
 have t10:=sT.cell 0 _ rfl
 have t11:=sT.cell 1 _ rfl
 have t12:=sT.cell 2 _ rfl
 have t13:=sT.cell 3 _ rfl
 have y10:=sT.free 0
 have y11:=sT.free 1
 have y12:=sT.free 2
 have y13:=sT.free 3
 obtain ⟨ad0,x0,ii0,cw0,lo0,hi0,gg0⟩:=mem_at rr hBr 0 (by omega) (by omega)
 have cc0:=below_cell bW cw0
 have gx:r.getD 0 0=x0:=gg0
 rw[gx] at hx HK1
 clear gg0 gx
 subst hx
 go_upto_region 21 with (first|(go_at_call 17;refine (cB _).mono ?_;rintro e q ⟨rfl,hw⟩;obtain rfl:=hw.symm))
 have sA2:=sA.other 1 (.int .u32 0) (show ¬w.heap.size=w.heap.size+1 by omega)
 have sT2:Stands _ (w.heap.size+1) #[.int .i64 a, .int .u32 0, .string ⟨#[]⟩, .int .i64 0] 40:=sT.set 1 (.int .u32 0)
 have bW2:=below_set bW (w.heap.size+1) 1 (.int .u32 0) (by omega)
 clear t10 y10 t11 y11 t12 y12 t13 y13
 clear sA sT bW
 have sA:=sA2
 have sT:=sT2
 have bW:=bW2
 clear sA2 sT2 bW2
 generalize W1.setCell ⟨w.heap.size+1,1,none⟩ (.int .u32 0)=W2 at sA sT bW ⊢
 have t20:=sT.cell 0 _ rfl
 have t21:=sT.cell 1 _ rfl
 have t22:=sT.cell 2 _ rfl
 have t23:=sT.cell 3 _ rfl
 have y20:=sT.free 0
 have y21:=sT.free 1
 have y22:=sT.free 2
 have y23:=sT.free 3
 have hone:oneP _ wide=some (⟨a,0,LB ⟨#[]⟩,0⟩,_):=HK1.out
 have HO:=hid hone
 have cY:=fun w=>w_rbytes (a) (0) (0) (⟨#[]⟩) wide w (by omega) (by omega) (by omega) (by omega) (by decide)
 clear hone
 cases hq:okQ ⟨a,0,LB ⟨#[]⟩,0⟩ wide with
 |true=>
  rw[hq] at cY
  have HQ:=hid hq
  clear hq
  go_wp2_with (first|(go_at_call 27;refine (cY _).mono ?_;rintro e w4 ⟨v4,rfl,o4,b4⟩;have sA4:=sA.below b4;have sT4:=sT.below b4;have bW4:=below_trans bW b4;have u40:=sA4.cell 0 _ rfl;have z40:=sA4.free 0;have t40:=sT4.cell 0 _ rfl;have u41:=sA4.cell 1 _ rfl;have z41:=sA4.free 1;have t41:=sT4.cell 1 _ rfl;have u42:=sA4.cell 2 _ rfl;have z42:=sA4.free 2;have t42:=sT4.cell 2 _ rfl;have u43:=sA4.cell 3 _ rfl;have z43:=sA4.free 3;have t43:=sT4.cell 3 _ rfl;have q4:OwB W2.heap.size w4 v4 (byQ ⟨a,0,LB ⟨#[]⟩,0⟩ wide):=(by first|exact o4 rfl|exact o4 trivial|exact o4);have hl4:=rd_len (Rd_own q4).1 uB (P:=Tryz.prog))|(go_at_call 17;refine (cB _).mono ?_;rintro e q ⟨rfl,hw⟩;obtain rfl:=hw.symm))
  have g9:=set4 sA4 (.int .i64 (a)) (.int .u32 (0)) (.string (⟨#[]⟩)) (.int .i64 (0))
  refine bodyPost_ret (res_row2 rfl _ _ w.heap.size 40 _ (0,0) _ rfl g9 Tryz.underlying40 rfl (show _=some 4 by kernel_rfl)) rfl ?_
  have e9:(tqC ⟨a,0,LB ⟨#[]⟩,0⟩).toArray=#[.int .i64 (a), .int .u32 (0), .string (⟨#[]⟩), .int .i64 (0)]:=by simp[tqC,nums_LB]
  have f9:=one_good HO.out HQ.out (bset4 bW4 _ (.int .i64 (a)) (.int .u32 (0)) (.string (⟨#[]⟩)) (.int .i64 (0)) (Nat.le_refl _))
  rw[e9] at f9
  exact f9
 |false=>
  rw[hq] at cY
  have HQ:=hid hq
  clear hq
  go_wp2_with (first|(go_at_call 27;refine (cY _).mono ?_;rintro e w4 ⟨v4,rfl,o4,b4⟩;have sA4:=sA.below b4;have sT4:=sT.below b4;have bW4:=below_trans bW b4;have u40:=sA4.cell 0 _ rfl;have z40:=sA4.free 0;have t40:=sT4.cell 0 _ rfl;have u41:=sA4.cell 1 _ rfl;have z41:=sA4.free 1;have t41:=sT4.cell 1 _ rfl;have u42:=sA4.cell 2 _ rfl;have z42:=sA4.free 2;have t42:=sT4.cell 2 _ rfl;have u43:=sA4.cell 3 _ rfl;have z43:=sA4.free 3;have t43:=sT4.cell 3 _ rfl)|(go_at_call 17;refine (cB _).mono ?_;rintro e q ⟨rfl,hw⟩;obtain rfl:=hw.symm))
  have g9:=set4 sA4 (.int .i64 0) (.int .u32 0) (.string ⟨#[]⟩) (.int .i64 0)
  refine bodyPost_ret (res_row2 rfl _ _ w.heap.size 40 _ (0,0) _ rfl g9 Tryz.underlying40 rfl (show _=some 4 by kernel_rfl)) rfl ?_
  exact one_bad HO.out HQ.out (bset4 bW4 _ _ _ _ _ (Nat.le_refl _))
set_option maxHeartbeats 4000000 in
set_option maxRecDepth 100000 in
theorem w_one2g (v:Value) (a:Int) (r:List Int) (wide:Bool) (w:World) (h:Rd .u8 w v (a::r)) (hB:bytesL (a::r)) (hl:(a::r).length≤8192) (h16:16≤a) (hk:bhF a=2) (hge:¬(r.length:Int) < 1) (r2:List Int) (hn:bePn 2 a wide r=some (⟨a,r.getD 0 0,[],0⟩,r2)) (hx:16≤r.getD 0 0):
  Calls Tryz.prog 30 #[v, .bool wide] w (OneP w (a::r) wide):=by
 have hone1:=one_1 a r wide 2 (by omega) hk
 have hlen:=rd_len h uB (P:=Tryz.prog)
 have hLL:((a::r).length:Int)=r.length+1:=by simp
 rw[hLL] at hlen
 have hrl:(r.length:Int)≤8191:=by have:(a::r).length=r.length+1:=rfl;omega
 have hBr:bytesL r:=fun x hx=>hB x (by simp[hx])
 have hab:=hB a (by simp)
 obtain ⟨ha0,ha1⟩:=hab
 obtain ⟨vr,rr,_,_,cut⟩:=rd_cut h uB zB 1 (a::r).length (by simp) (Nat.le_refl _)
 rw[show (List.drop 1 (a::r))=r from rfl,List.take_of_length_le (by simp)] at rr
 have cut1:∀w',(Instr.slice 29 v (some (.int .i64 1)) none none).run Tryz.prog w'= .ok vr w':=cut rfl
 have hlr:=rd_len rr uB (P:=Tryz.prog)
 clear cut hLL
 have cB:=fun w=>w_rbehind a w
 rw[hk] at cB
 rw[hn] at hone1
 have HK1:=hid hone1
 clear hn
 clear hone1 hk
 have hlz:((r.length:Int)+1==0)=false:=by rw[beq_eq_false_iff_ne];omega
 go_enter Tryz.func30,Tryz.ntmps30
 go_upto_region 4 with fail
 have bW:Below w.heap.size w ((w.alloc (.cells #[.int .i64 0, .int .u32 0, .string ⟨#[]⟩, .int .i64 0] 40)).alloc (.cells #[.int .i64 0, .int .u32 0, .string ⟨#[]⟩, .int .i64 0] 40)):=below_trans (box_below w _) (box_below _ _)
 have sA:Stands ((w.alloc (.cells #[.int .i64 0, .int .u32 0, .string ⟨#[]⟩, .int .i64 0] 40)).alloc (.cells #[.int .i64 0, .int .u32 0, .string ⟨#[]⟩, .int .i64 0] 40)) w.heap.size #[.int .i64 0, .int .u32 0, .string ⟨#[]⟩, .int .i64 0] 40:=(stands_new w _ _).below (box_below _ _)
 have sT:Stands ((w.alloc (.cells #[.int .i64 0, .int .u32 0, .string ⟨#[]⟩, .int .i64 0] 40)).alloc (.cells #[.int .i64 0, .int .u32 0, .string ⟨#[]⟩, .int .i64 0] 40)) (w.heap.size+1) #[.int .i64 0, .int .u32 0, .string ⟨#[]⟩, .int .i64 0] 40:=by have:=stands_new (w.alloc (.cells #[.int .i64 0, .int .u32 0, .string ⟨#[]⟩, .int .i64 0] 40)) #[.int .i64 0, .int .u32 0, .string ⟨#[]⟩, .int .i64 0] 40;rwa [size_al] at this
 generalize (w.alloc (.cells #[.int .i64 0, .int .u32 0, .string ⟨#[]⟩, .int .i64 0] 40)).alloc (.cells #[.int .i64 0, .int .u32 0, .string ⟨#[]⟩, .int .i64 0] 40)=W0 at bW sA sT ⊢
 obtain ⟨ad0,x0,i0,c0,_,_,g0⟩:=mem_at (h.below bW) hB 0 (by omega) (by simp only[List.length_cons];omega)
 simp only[Int.toNat_zero,List.getD_cons_zero] at g0
 subst g0
 have t00:=sT.cell 0 _ rfl
 have t01:=sT.cell 1 _ rfl
 have t02:=sT.cell 2 _ rfl
 have t03:=sT.cell 3 _ rfl
 have y00:=sT.free 0
 have y01:=sT.free 1
 have y02:=sT.free 2
 have y03:=sT.free 3
 go_upto_region 6 with fail
 have sA1:=sA.other 0 (.int .i64 a) (show ¬w.heap.size=w.heap.size+1 by omega)
 have sT1:Stands _ (w.heap.size+1) #[.int .i64 a, .int .u32 0, .string ⟨#[]⟩, .int .i64 0] 40:=sT.set 0 (.int .i64 a)
 have bW1:=below_set bW (w.heap.size+1) 0 (.int .i64 a) (by omega)
 clear t00 y00 t01 y01 t02 y02 t03 y03
 clear sA sT bW
 have sA:=sA1
 have sT:=sT1
 have bW:=bW1
 clear sA1 sT1 bW1
 generalize W0.setCell ⟨w.heap.size+1,0,none⟩ (.int .i64 a)=W1 at sA sT bW ⊢
 have t10:=sT.cell 0 _ rfl
 have t11:=sT.cell 1 _ rfl
 have t12:=sT.cell 2 _ rfl
 have t13:=sT.cell 3 _ rfl
 have y10:=sT.free 0
 have y11:=sT.free 1
 have y12:=sT.free 2
 have y13:=sT.free 3
 obtain ⟨ad0,x0,ii0,cw0,lo0,hi0,gg0⟩:=mem_at rr hBr 0 (by omega) (by omega)
 have cc0:=below_cell bW cw0
 have gx:r.getD 0 0=x0:=gg0
 rw[gx] at hx HK1
 clear gg0 gx
 go_upto_region 21 with (first|(go_at_call 17;refine (cB _).mono ?_;rintro e q ⟨rfl,hw⟩;obtain rfl:=hw.symm))
 have sA2:=sA.other 1 (.int .u32 x0) (show ¬w.heap.size=w.heap.size+1 by omega)
 have sT2:Stands _ (w.heap.size+1) #[.int .i64 a, .int .u32 x0, .string ⟨#[]⟩, .int .i64 0] 40:=sT.set 1 (.int .u32 x0)
 have bW2:=below_set bW (w.heap.size+1) 1 (.int .u32 x0) (by omega)
 clear t10 y10 t11 y11 t12 y12 t13 y13
 clear sA sT bW
 have sA:=sA2
 have sT:=sT2
 have bW:=bW2
 clear sA2 sT2 bW2
 generalize W1.setCell ⟨w.heap.size+1,1,none⟩ (.int .u32 x0)=W2 at sA sT bW ⊢
 have t20:=sT.cell 0 _ rfl
 have t21:=sT.cell 1 _ rfl
 have t22:=sT.cell 2 _ rfl
 have t23:=sT.cell 3 _ rfl
 have y20:=sT.free 0
 have y21:=sT.free 1
 have y22:=sT.free 2
 have y23:=sT.free 3
 have hone:oneP _ wide=some (⟨a,x0,LB ⟨#[]⟩,0⟩,_):=HK1.out
 have HO:=hid hone
 have cY:=fun w=>w_rbytes (a) (x0) (0) (⟨#[]⟩) wide w (by omega) (by omega) (by omega) (by omega) (by decide)
 clear hone
 cases hq:okQ ⟨a,x0,LB ⟨#[]⟩,0⟩ wide with
 |true=>
  rw[hq] at cY
  have HQ:=hid hq
  clear hq
  go_wp2_with (first|(go_at_call 27;refine (cY _).mono ?_;rintro e w4 ⟨v4,rfl,o4,b4⟩;have sA4:=sA.below b4;have sT4:=sT.below b4;have bW4:=below_trans bW b4;have u40:=sA4.cell 0 _ rfl;have z40:=sA4.free 0;have t40:=sT4.cell 0 _ rfl;have u41:=sA4.cell 1 _ rfl;have z41:=sA4.free 1;have t41:=sT4.cell 1 _ rfl;have u42:=sA4.cell 2 _ rfl;have z42:=sA4.free 2;have t42:=sT4.cell 2 _ rfl;have u43:=sA4.cell 3 _ rfl;have z43:=sA4.free 3;have t43:=sT4.cell 3 _ rfl;have q4:OwB W2.heap.size w4 v4 (byQ ⟨a,x0,LB ⟨#[]⟩,0⟩ wide):=(by first|exact o4 rfl|exact o4 trivial|exact o4);have hl4:=rd_len (Rd_own q4).1 uB (P:=Tryz.prog))|(go_at_call 17;refine (cB _).mono ?_;rintro e q ⟨rfl,hw⟩;obtain rfl:=hw.symm))
  have g9:=set4 sA4 (.int .i64 (a)) (.int .u32 (x0)) (.string (⟨#[]⟩)) (.int .i64 (0))
  refine bodyPost_ret (res_row2 rfl _ _ w.heap.size 40 _ (0,0) _ rfl g9 Tryz.underlying40 rfl (show _=some 4 by kernel_rfl)) rfl ?_
  have e9:(tqC ⟨a,x0,LB ⟨#[]⟩,0⟩).toArray=#[.int .i64 (a), .int .u32 (x0), .string (⟨#[]⟩), .int .i64 (0)]:=by simp[tqC,nums_LB]
  have f9:=one_good HO.out HQ.out (bset4 bW4 _ (.int .i64 (a)) (.int .u32 (x0)) (.string (⟨#[]⟩)) (.int .i64 (0)) (Nat.le_refl _))
  rw[e9] at f9
  exact f9
 |false=>
  rw[hq] at cY
  have HQ:=hid hq
  clear hq
  go_wp2_with (first|(go_at_call 27;refine (cY _).mono ?_;rintro e w4 ⟨v4,rfl,o4,b4⟩;have sA4:=sA.below b4;have sT4:=sT.below b4;have bW4:=below_trans bW b4;have u40:=sA4.cell 0 _ rfl;have z40:=sA4.free 0;have t40:=sT4.cell 0 _ rfl;have u41:=sA4.cell 1 _ rfl;have z41:=sA4.free 1;have t41:=sT4.cell 1 _ rfl;have u42:=sA4.cell 2 _ rfl;have z42:=sA4.free 2;have t42:=sT4.cell 2 _ rfl;have u43:=sA4.cell 3 _ rfl;have z43:=sA4.free 3;have t43:=sT4.cell 3 _ rfl)|(go_at_call 17;refine (cB _).mono ?_;rintro e q ⟨rfl,hw⟩;obtain rfl:=hw.symm))
  have g9:=set4 sA4 (.int .i64 0) (.int .u32 0) (.string ⟨#[]⟩) (.int .i64 0)
  refine bodyPost_ret (res_row2 rfl _ _ w.heap.size 40 _ (0,0) _ rfl g9 Tryz.underlying40 rfl (show _=some 4 by kernel_rfl)) rfl ?_
  exact one_bad HO.out HQ.out (bset4 bW4 _ _ _ _ _ (Nat.le_refl _))
set_option maxHeartbeats 4000000 in
set_option maxRecDepth 100000 in
theorem w_one2s (v:Value) (a:Int) (r:List Int) (wide:Bool) (w:World) (h:Rd .u8 w v (a::r)) (hB:bytesL (a::r)) (hl:(a::r).length≤8192) (h16:16≤a) (hk:bhF a=2) (hge:¬(r.length:Int) < 1) (hlt:(r.length:Int) < 2) (hn:bePn 2 a wide r=none) (hx0:0 < r.getD 0 0) (hx1:r.getD 0 0 < 16):
  Calls Tryz.prog 30 #[v, .bool wide] w (OneP w (a::r) wide):=by
 have hone1:=one_1 a r wide 2 (by omega) hk
 have hlen:=rd_len h uB (P:=Tryz.prog)
 have hLL:((a::r).length:Int)=r.length+1:=by simp
 rw[hLL] at hlen
 have hrl:(r.length:Int)≤8191:=by have:(a::r).length=r.length+1:=rfl;omega
 have hBr:bytesL r:=fun x hx=>hB x (by simp[hx])
 have hab:=hB a (by simp)
 obtain ⟨ha0,ha1⟩:=hab
 obtain ⟨vr,rr,_,_,cut⟩:=rd_cut h uB zB 1 (a::r).length (by simp) (Nat.le_refl _)
 rw[show (List.drop 1 (a::r))=r from rfl,List.take_of_length_le (by simp)] at rr
 have cut1:∀w',(Instr.slice 29 v (some (.int .i64 1)) none none).run Tryz.prog w'= .ok vr w':=cut rfl
 have hlr:=rd_len rr uB (P:=Tryz.prog)
 clear cut hLL
 have cB:=fun w=>w_rbehind a w
 rw[hk] at cB
 rw[hn] at hone1
 have HK1:=hid hone1
 clear hn
 clear hone1 hk
 have hlz:((r.length:Int)+1==0)=false:=by rw[beq_eq_false_iff_ne];omega
 go_enter Tryz.func30,Tryz.ntmps30
 go_upto_region 4 with fail
 have bW:Below w.heap.size w ((w.alloc (.cells #[.int .i64 0, .int .u32 0, .string ⟨#[]⟩, .int .i64 0] 40)).alloc (.cells #[.int .i64 0, .int .u32 0, .string ⟨#[]⟩, .int .i64 0] 40)):=below_trans (box_below w _) (box_below _ _)
 have sA:Stands ((w.alloc (.cells #[.int .i64 0, .int .u32 0, .string ⟨#[]⟩, .int .i64 0] 40)).alloc (.cells #[.int .i64 0, .int .u32 0, .string ⟨#[]⟩, .int .i64 0] 40)) w.heap.size #[.int .i64 0, .int .u32 0, .string ⟨#[]⟩, .int .i64 0] 40:=(stands_new w _ _).below (box_below _ _)
 have sT:Stands ((w.alloc (.cells #[.int .i64 0, .int .u32 0, .string ⟨#[]⟩, .int .i64 0] 40)).alloc (.cells #[.int .i64 0, .int .u32 0, .string ⟨#[]⟩, .int .i64 0] 40)) (w.heap.size+1) #[.int .i64 0, .int .u32 0, .string ⟨#[]⟩, .int .i64 0] 40:=by have:=stands_new (w.alloc (.cells #[.int .i64 0, .int .u32 0, .string ⟨#[]⟩, .int .i64 0] 40)) #[.int .i64 0, .int .u32 0, .string ⟨#[]⟩, .int .i64 0] 40;rwa [size_al] at this
 generalize (w.alloc (.cells #[.int .i64 0, .int .u32 0, .string ⟨#[]⟩, .int .i64 0] 40)).alloc (.cells #[.int .i64 0, .int .u32 0, .string ⟨#[]⟩, .int .i64 0] 40)=W0 at bW sA sT ⊢
 obtain ⟨ad0,x0,i0,c0,_,_,g0⟩:=mem_at (h.below bW) hB 0 (by omega) (by simp only[List.length_cons];omega)
 simp only[Int.toNat_zero,List.getD_cons_zero] at g0
 subst g0
 have t00:=sT.cell 0 _ rfl
 have t01:=sT.cell 1 _ rfl
 have t02:=sT.cell 2 _ rfl
 have t03:=sT.cell 3 _ rfl
 have y00:=sT.free 0
 have y01:=sT.free 1
 have y02:=sT.free 2
 have y03:=sT.free 3
 go_upto_region 6 with fail
 have sA1:=sA.other 0 (.int .i64 a) (show ¬w.heap.size=w.heap.size+1 by omega)
 have sT1:Stands _ (w.heap.size+1) #[.int .i64 a, .int .u32 0, .string ⟨#[]⟩, .int .i64 0] 40:=sT.set 0 (.int .i64 a)
 have bW1:=below_set bW (w.heap.size+1) 0 (.int .i64 a) (by omega)
 clear t00 y00 t01 y01 t02 y02 t03 y03
 clear sA sT bW
 have sA:=sA1
 have sT:=sT1
 have bW:=bW1
 clear sA1 sT1 bW1
 generalize W0.setCell ⟨w.heap.size+1,0,none⟩ (.int .i64 a)=W1 at sA sT bW ⊢
 have t10:=sT.cell 0 _ rfl
 have t11:=sT.cell 1 _ rfl
 have t12:=sT.cell 2 _ rfl
 have t13:=sT.cell 3 _ rfl
 have y10:=sT.free 0
 have y11:=sT.free 1
 have y12:=sT.free 2
 have y13:=sT.free 3
 obtain ⟨ad0,x0,ii0,cw0,lo0,hi0,gg0⟩:=mem_at rr hBr 0 (by omega) (by omega)
 have cc0:=below_cell bW cw0
 have gx:r.getD 0 0=x0:=gg0
 rw[gx] at hx0 hx1
 clear gg0 gx
 go_upto_region 21 with (first|(go_at_call 17;refine (cB _).mono ?_;rintro e q ⟨rfl,hw⟩;obtain rfl:=hw.symm))
 have sA2:=sA.other 1 (.int .u32 x0) (show ¬w.heap.size=w.heap.size+1 by omega)
 have sT2:Stands _ (w.heap.size+1) #[.int .i64 a, .int .u32 x0, .string ⟨#[]⟩, .int .i64 0] 40:=sT.set 1 (.int .u32 x0)
 have bW2:=below_set bW (w.heap.size+1) 1 (.int .u32 x0) (by omega)
 clear t10 y10 t11 y11 t12 y12 t13 y13
 clear sA sT bW
 have sA:=sA2
 have sT:=sT2
 have bW:=bW2
 clear sA2 sT2 bW2
 generalize W1.setCell ⟨w.heap.size+1,1,none⟩ (.int .u32 x0)=W2 at sA sT bW ⊢
 have t20:=sT.cell 0 _ rfl
 have t21:=sT.cell 1 _ rfl
 have t22:=sT.cell 2 _ rfl
 have t23:=sT.cell 3 _ rfl
 have y20:=sT.free 0
 have y21:=sT.free 1
 have y22:=sT.free 2
 have y23:=sT.free 3
 have u20:=sA.cell 0 _ rfl
 have z20:=sA.free 0
 have u21:=sA.cell 1 _ rfl
 have z21:=sA.free 1
 have u22:=sA.cell 2 _ rfl
 have z22:=sA.free 2
 have u23:=sA.cell 3 _ rfl
 have z23:=sA.free 3
 go_wp2_with (first|(go_at_call 17;refine (cB _).mono ?_;rintro e q ⟨rfl,hw⟩;obtain rfl:=hw.symm))
 have g9:=set4 sA (.int .i64 0) (.int .u32 0) (.string ⟨#[]⟩) (.int .i64 0)
 refine bodyPost_ret (res_row2 rfl _ _ w.heap.size 40 _ (0,0) _ rfl g9 Tryz.underlying40 rfl (show _=some 4 by kernel_rfl)) rfl ?_
 exact one_none HK1.out (bset4 bW _ _ _ _ _ (Nat.le_refl _))
set_option maxHeartbeats 4000000 in
set_option maxRecDepth 100000 in
theorem w_one2 (v:Value) (a:Int) (r:List Int) (wide:Bool) (w:World) (h:Rd .u8 w v (a::r)) (hB:bytesL (a::r)) (hl:(a::r).length≤8192) (h16:16≤a) (hk:bhF a=2) (hge:¬(r.length:Int) < 2) (N:Int) (r2:List Int) (hn:bePn 2 a wide r=some (⟨a,N,[],0⟩,r2)) (hN:N=r.getD 0 0*256+r.getD 1 0) (hx0:0 < r.getD 0 0) (hx1:r.getD 0 0 < 16):
  Calls Tryz.prog 30 #[v, .bool wide] w (OneP w (a::r) wide):=by
 have hone1:=one_1 a r wide 2 (by omega) hk
 have hlen:=rd_len h uB (P:=Tryz.prog)
 have hLL:((a::r).length:Int)=r.length+1:=by simp
 rw[hLL] at hlen
 have hrl:(r.length:Int)≤8191:=by have:(a::r).length=r.length+1:=rfl;omega
 have hBr:bytesL r:=fun x hx=>hB x (by simp[hx])
 have hab:=hB a (by simp)
 obtain ⟨ha0,ha1⟩:=hab
 obtain ⟨vr,rr,_,_,cut⟩:=rd_cut h uB zB 1 (a::r).length (by simp) (Nat.le_refl _)
 rw[show (List.drop 1 (a::r))=r from rfl,List.take_of_length_le (by simp)] at rr
 have cut1:∀w',(Instr.slice 29 v (some (.int .i64 1)) none none).run Tryz.prog w'= .ok vr w':=cut rfl
 have hlr:=rd_len rr uB (P:=Tryz.prog)
 clear cut hLL
 have cB:=fun w=>w_rbehind a w
 rw[hk] at cB
 rw[hn] at hone1
 have HK1:=hid hone1
 clear hn
 clear hone1 hk
 have hlz:((r.length:Int)+1==0)=false:=by rw[beq_eq_false_iff_ne];omega
 go_enter Tryz.func30,Tryz.ntmps30
 go_upto_region 4 with fail
 have bW:Below w.heap.size w ((w.alloc (.cells #[.int .i64 0, .int .u32 0, .string ⟨#[]⟩, .int .i64 0] 40)).alloc (.cells #[.int .i64 0, .int .u32 0, .string ⟨#[]⟩, .int .i64 0] 40)):=below_trans (box_below w _) (box_below _ _)
 have sA:Stands ((w.alloc (.cells #[.int .i64 0, .int .u32 0, .string ⟨#[]⟩, .int .i64 0] 40)).alloc (.cells #[.int .i64 0, .int .u32 0, .string ⟨#[]⟩, .int .i64 0] 40)) w.heap.size #[.int .i64 0, .int .u32 0, .string ⟨#[]⟩, .int .i64 0] 40:=(stands_new w _ _).below (box_below _ _)
 have sT:Stands ((w.alloc (.cells #[.int .i64 0, .int .u32 0, .string ⟨#[]⟩, .int .i64 0] 40)).alloc (.cells #[.int .i64 0, .int .u32 0, .string ⟨#[]⟩, .int .i64 0] 40)) (w.heap.size+1) #[.int .i64 0, .int .u32 0, .string ⟨#[]⟩, .int .i64 0] 40:=by have:=stands_new (w.alloc (.cells #[.int .i64 0, .int .u32 0, .string ⟨#[]⟩, .int .i64 0] 40)) #[.int .i64 0, .int .u32 0, .string ⟨#[]⟩, .int .i64 0] 40;rwa [size_al] at this
 generalize (w.alloc (.cells #[.int .i64 0, .int .u32 0, .string ⟨#[]⟩, .int .i64 0] 40)).alloc (.cells #[.int .i64 0, .int .u32 0, .string ⟨#[]⟩, .int .i64 0] 40)=W0 at bW sA sT ⊢
 obtain ⟨ad0,x0,i0,c0,_,_,g0⟩:=mem_at (h.below bW) hB 0 (by omega) (by simp only[List.length_cons];omega)
 simp only[Int.toNat_zero,List.getD_cons_zero] at g0
 subst g0
 have t00:=sT.cell 0 _ rfl
 have t01:=sT.cell 1 _ rfl
 have t02:=sT.cell 2 _ rfl
 have t03:=sT.cell 3 _ rfl
 have y00:=sT.free 0
 have y01:=sT.free 1
 have y02:=sT.free 2
 have y03:=sT.free 3
 go_upto_region 6 with fail
 have sA1:=sA.other 0 (.int .i64 a) (show ¬w.heap.size=w.heap.size+1 by omega)
 have sT1:Stands _ (w.heap.size+1) #[.int .i64 a, .int .u32 0, .string ⟨#[]⟩, .int .i64 0] 40:=sT.set 0 (.int .i64 a)
 have bW1:=below_set bW (w.heap.size+1) 0 (.int .i64 a) (by omega)
 clear t00 y00 t01 y01 t02 y02 t03 y03
 clear sA sT bW
 have sA:=sA1
 have sT:=sT1
 have bW:=bW1
 clear sA1 sT1 bW1
 generalize W0.setCell ⟨w.heap.size+1,0,none⟩ (.int .i64 a)=W1 at sA sT bW ⊢
 have t10:=sT.cell 0 _ rfl
 have t11:=sT.cell 1 _ rfl
 have t12:=sT.cell 2 _ rfl
 have t13:=sT.cell 3 _ rfl
 have y10:=sT.free 0
 have y11:=sT.free 1
 have y12:=sT.free 2
 have y13:=sT.free 3
 obtain ⟨ad0,x0,ii0,cw0,lo0,hi0,gg0⟩:=mem_at rr hBr 0 (by omega) (by omega)
 have cc0:=below_cell bW cw0
 obtain ⟨ad1,x1,ii1,cw1,lo1,hi1,gg1⟩:=mem_at rr hBr 1 (by omega) (by omega)
 have cc1:=below_cell bW cw1
 have gx:r.getD 0 0=x0:=gg0
 have gy:r.getD 1 0=x1:=gg1
 rw[gx] at hx0 hx1 hN
 rw[gy] at hN
 clear gg0 gx gg1 gy
 have HN:=hid hN
 clear hN
 have hl1:¬(r.length:Int) < 1:=by omega
 go_upto_region 21 with (first|(go_at_call 17;refine (cB _).mono ?_;rintro e q ⟨rfl,hw⟩;obtain rfl:=hw.symm))
 have sA2:=sA.other 1 (.int .u32 x0) (show ¬w.heap.size=w.heap.size+1 by omega)
 have sT2:Stands _ (w.heap.size+1) #[.int .i64 a, .int .u32 x0, .string ⟨#[]⟩, .int .i64 0] 40:=sT.set 1 (.int .u32 x0)
 have bW2:=below_set bW (w.heap.size+1) 1 (.int .u32 x0) (by omega)
 clear t10 y10 t11 y11 t12 y12 t13 y13
 clear sA sT bW
 have sA:=sA2
 have sT:=sT2
 have bW:=bW2
 clear sA2 sT2 bW2
 generalize W1.setCell ⟨w.heap.size+1,1,none⟩ (.int .u32 x0)=W2 at sA sT bW ⊢
 have t20:=sT.cell 0 _ rfl
 have t21:=sT.cell 1 _ rfl
 have t22:=sT.cell 2 _ rfl
 have t23:=sT.cell 3 _ rfl
 have y20:=sT.free 0
 have y21:=sT.free 1
 have y22:=sT.free 2
 have y23:=sT.free 3
 have cd1:=below_cell bW cw1
 go_upto_region 24 with fail
 go_region
 rw[show x0*256+x1=N from HN.out.symm]
 have bd:Below (W2.setCell ⟨w.heap.size+1,1,none⟩ (.int .u32 (N))).heap.size (W2.setCell ⟨w.heap.size+1,1,none⟩ (.int .u32 (N))) (W2.setCell ⟨w.heap.size+1,1,none⟩ (.int .u32 (N))).drew:=below_drewN (Below.refl _ _) 1
 have sA3:=(sA.other 1 (.int .u32 (N)) (show ¬w.heap.size=w.heap.size+1 by omega)).below bd
 have sT3:Stands _ (w.heap.size+1) #[.int .i64 a, .int .u32 N, .string ⟨#[]⟩, .int .i64 0] 40:=(sT.set 1 (.int .u32 (N))).below bd
 have bW3:=below_trans (below_set bW (w.heap.size+1) 1 (.int .u32 (N)) (by omega)) bd
 clear t20 y20 t21 y21 t22 y22 t23 y23
 clear sA sT bW bd
 have sA:=sA3
 have sT:=sT3
 have bW:=bW3
 clear sA3 sT3 bW3
 generalize (W2.setCell ⟨w.heap.size+1,1,none⟩ (.int .u32 (N))).drew=W3 at sA sT bW ⊢
 have t30:=sT.cell 0 _ rfl
 have t31:=sT.cell 1 _ rfl
 have t32:=sT.cell 2 _ rfl
 have t33:=sT.cell 3 _ rfl
 have y30:=sT.free 0
 have y31:=sT.free 1
 have y32:=sT.free 2
 have y33:=sT.free 3
 have N0:0≤N:=by have:=HN.out;omega
 have N1:N < 4294967296:=by have:=HN.out;omega
 have hone:oneP _ wide=some (⟨a,N,LB ⟨#[]⟩,0⟩,_):=HK1.out
 have HO:=hid hone
 have cY:=fun w=>w_rbytes (a) (N) (0) (⟨#[]⟩) wide w N0 N1 (by omega) (by omega) (by decide)
 clear hone
 cases hq:okQ ⟨a,N,LB ⟨#[]⟩,0⟩ wide with
 |true=>
  rw[hq] at cY
  have HQ:=hid hq
  clear hq
  go_wp2_with (first|(go_at_call 27;refine (cY _).mono ?_;rintro e w4 ⟨v4,rfl,o4,b4⟩;have sA4:=sA.below b4;have sT4:=sT.below b4;have bW4:=below_trans bW b4;have u40:=sA4.cell 0 _ rfl;have z40:=sA4.free 0;have t40:=sT4.cell 0 _ rfl;have u41:=sA4.cell 1 _ rfl;have z41:=sA4.free 1;have t41:=sT4.cell 1 _ rfl;have u42:=sA4.cell 2 _ rfl;have z42:=sA4.free 2;have t42:=sT4.cell 2 _ rfl;have u43:=sA4.cell 3 _ rfl;have z43:=sA4.free 3;have t43:=sT4.cell 3 _ rfl;have q4:OwB W3.heap.size w4 v4 (byQ ⟨a,N,LB ⟨#[]⟩,0⟩ wide):=(by first|exact o4 rfl|exact o4 trivial|exact o4);have hl4:=rd_len (Rd_own q4).1 uB (P:=Tryz.prog))|(go_at_call 17;refine (cB _).mono ?_;rintro e q ⟨rfl,hw⟩;obtain rfl:=hw.symm))
  have g9:=set4 sA4 (.int .i64 (a)) (.int .u32 (N)) (.string (⟨#[]⟩)) (.int .i64 (0))
  refine bodyPost_ret (res_row2 rfl _ _ w.heap.size 40 _ (0,0) _ rfl g9 Tryz.underlying40 rfl (show _=some 4 by kernel_rfl)) rfl ?_
  have e9:(tqC ⟨a,N,LB ⟨#[]⟩,0⟩).toArray=#[.int .i64 (a), .int .u32 (N), .string (⟨#[]⟩), .int .i64 (0)]:=by simp[tqC,nums_LB]
  have f9:=one_good HO.out HQ.out (bset4 bW4 _ (.int .i64 (a)) (.int .u32 (N)) (.string (⟨#[]⟩)) (.int .i64 (0)) (Nat.le_refl _))
  rw[e9] at f9
  exact f9
 |false=>
  rw[hq] at cY
  have HQ:=hid hq
  clear hq
  go_wp2_with (first|(go_at_call 27;refine (cY _).mono ?_;rintro e w4 ⟨v4,rfl,o4,b4⟩;have sA4:=sA.below b4;have sT4:=sT.below b4;have bW4:=below_trans bW b4;have u40:=sA4.cell 0 _ rfl;have z40:=sA4.free 0;have t40:=sT4.cell 0 _ rfl;have u41:=sA4.cell 1 _ rfl;have z41:=sA4.free 1;have t41:=sT4.cell 1 _ rfl;have u42:=sA4.cell 2 _ rfl;have z42:=sA4.free 2;have t42:=sT4.cell 2 _ rfl;have u43:=sA4.cell 3 _ rfl;have z43:=sA4.free 3;have t43:=sT4.cell 3 _ rfl)|(go_at_call 17;refine (cB _).mono ?_;rintro e q ⟨rfl,hw⟩;obtain rfl:=hw.symm))
  have g9:=set4 sA4 (.int .i64 0) (.int .u32 0) (.string ⟨#[]⟩) (.int .i64 0)
  refine bodyPost_ret (res_row2 rfl _ _ w.heap.size 40 _ (0,0) _ rfl g9 Tryz.underlying40 rfl (show _=some 4 by kernel_rfl)) rfl ?_
  exact one_bad HO.out HQ.out (bset4 bW4 _ _ _ _ _ (Nat.le_refl _))
end Go.Proofs.YtkkehbdahniiaaaGreatDoor
