import Derived.Test.YtkkehbdahniiaaaGreatDoorB16
set_option linter.unusedVariables false
set_option linter.unusedSimpArgs false
set_option maxRecDepth 100000
namespace Go.Proofs.YtkkehbdahniiaaaGreatDoor
open Go.ChangeShapes Go.WideShapes Go.ChangeAt Go.RowKit
def OneA (b:List Int) (wide:Bool) (cs:Array Value) (n:Int):Prop:=(oneF b wide=none∧n=0∧cs=#[.int .i64 0, .int .u32 0, .string ⟨#[]⟩, .int .i64 0])∨∃t r,oneF b wide=some (t,r)∧cs=(tqC t).toArray∧n=(byQ t wide).length
def OneP (w:World) (b:List Int) (wide:Bool) (e:Ending) (w':World):Prop:=∃cs n,e= .returned (.tuple #[.agg cs, .int .i64 n])∧OneA b wide cs n∧Below w.heap.size w w'
theorem one_none {w w':World} {b:List Int} {wide:Bool} (h:oneP b wide=none) (bl:Below w.heap.size w w'):OneP w b wide (.returned (.tuple #[.agg #[.int .i64 0, .int .u32 0, .string ⟨#[]⟩, .int .i64 0], .int .i64 0])) w':=
 ⟨_,0,rfl,Or.inl ⟨by simp[oneF,h],rfl,rfl⟩,bl⟩
theorem one_bad {w w':World} {b r:List Int} {wide:Bool} {t:Tq} (h:oneP b wide=some (t,r)) (hq:okQ t wide=false) (bl:Below w.heap.size w w'):OneP w b wide (.returned (.tuple #[.agg #[.int .i64 0, .int .u32 0, .string ⟨#[]⟩, .int .i64 0], .int .i64 0])) w':=
 ⟨_,0,rfl,Or.inl ⟨by simp[oneF,h,hq],rfl,rfl⟩,bl⟩
theorem one_good {w w':World} {b r:List Int} {wide:Bool} {t:Tq} (h:oneP b wide=some (t,r)) (hq:okQ t wide=true) (bl:Below w.heap.size w w'):OneP w b wide (.returned (.tuple #[.agg (tqC t).toArray, .int .i64 ((byQ t wide).length:Int)])) w':=
 ⟨_,_,rfl,Or.inr ⟨t,r,by simp[oneF,h,hq],rfl,rfl⟩,bl⟩
theorem one_1 (a:Int) (r:List Int) (wide:Bool) (k:Nat) (h:a=0∨16≤a) (hk:bhF a=k):oneP (a::r) wide=bePn k a wide r:=by
 simp only[oneP,cdP]
 rw[if_pos h]
 simp[hk]
theorem bh_big (c:Int) (h:256≤c):bhF c=0:=by
 unfold bhF
 rw[if_neg (by omega),if_neg (by omega),if_neg (by omega),if_neg (by omega),if_neg (by omega),if_neg (by omega)]
theorem bset4 {w w':World} (h:Below w.heap.size w w') (g:Nat) (u0 u1 u2 u3:Value) (hg:w.heap.size≤g):Below w.heap.size w ((((w'.setCell ⟨g,0,none⟩ u0).setCell ⟨g,1,none⟩ u1).setCell ⟨g,2,none⟩ u2).setCell ⟨g,3,none⟩ u3):=
 below_set (below_set (below_set (below_set h g 0 u0 hg) g 1 u1 hg) g 2 u2 hg) g 3 u3 hg
set_option maxHeartbeats 4000000 in
set_option maxRecDepth 100000 in
theorem w_oneN (v:Value) (wide:Bool) (w:World) (h:Rd .u8 w v (([]:List Int))) (hB:bytesL (([]:List Int))) (hl:(([]:List Int)).length≤8192):
  Calls Tryz.prog 30 #[v, .bool wide] w (OneP w (([]:List Int)) wide):=by
 have hlen:∀ty w',(Builtin.len_ #[29] ty #[v]).run Tryz.prog w'= .ok (.int .i64 0) w':=rd_len h uB (P:=Tryz.prog)
 have bA:=box_below w (.cells #[.int .i64 0, .int .u32 0, .string ⟨#[]⟩, .int .i64 0] 40)
 have sA:=stands_new w #[.int .i64 0, .int .u32 0, .string ⟨#[]⟩, .int .i64 0] 40
 go_enter Tryz.func30,Tryz.ntmps30
 go_upto_region 1 with fail
 generalize w.alloc (.cells #[.int .i64 0, .int .u32 0, .string ⟨#[]⟩, .int .i64 0] 40)=W0 at bA sA ⊢
 have bW:=bA
 have u00:=sA.cell 0 _ rfl
 have z00:=sA.free 0
 have u01:=sA.cell 1 _ rfl
 have z01:=sA.free 1
 have u02:=sA.cell 2 _ rfl
 have z02:=sA.free 2
 have u03:=sA.cell 3 _ rfl
 have z03:=sA.free 3
 go_wp2_with fail
 have g9:=set4 sA (.int .i64 0) (.int .u32 0) (.string ⟨#[]⟩) (.int .i64 0)
 refine bodyPost_ret (res_row2 rfl _ _ w.heap.size 40 _ (0,0) _ rfl g9 Tryz.underlying40 rfl (show _=some 4 by kernel_rfl)) rfl ?_
 exact one_none rfl (bset4 bW _ _ _ _ _ (Nat.le_refl _))
set_option maxHeartbeats 4000000 in
set_option maxRecDepth 100000 in
theorem w_one0z (v:Value) (a:Int) (r:List Int) (wide:Bool) (w:World) (h:Rd .u8 w v (a::r)) (hB:bytesL (a::r)) (hl:(a::r).length≤8192) (hz:a=0):
  Calls Tryz.prog 30 #[v, .bool wide] w (OneP w (a::r) wide):=by
 have hk:bhF a=0:=by subst hz;rfl
 have hone1:=one_1 a r wide 0 (by omega) hk
 subst hz
 have hlen:=rd_len h uB (P:=Tryz.prog)
 have hLL:((0::r).length:Int)=r.length+1:=by simp
 rw[hLL] at hlen
 have hrl:(r.length:Int)≤8191:=by have:(0::r).length=r.length+1:=rfl;omega
 have hBr:bytesL r:=fun x hx=>hB x (by simp[hx])
 have hab:=hB 0 (by simp)
 obtain ⟨ha0,ha1⟩:=hab
 obtain ⟨vr,rr,_,_,cut⟩:=rd_cut h uB zB 1 (0::r).length (by simp) (Nat.le_refl _)
 rw[show (List.drop 1 (0::r))=r from rfl,List.take_of_length_le (by simp)] at rr
 have cut1:∀w',(Instr.slice 29 v (some (.int .i64 1)) none none).run Tryz.prog w'= .ok vr w':=cut rfl
 have hlr:=rd_len rr uB (P:=Tryz.prog)
 clear cut hLL
 have cB:=fun w=>w_rbehind 0 w
 rw[hk] at cB
 have HK1:=hid hone1
 clear hone1 hk
 have hlz:((r.length:Int)+1==0)=false:=by rw[beq_eq_false_iff_ne];omega
 go_enter Tryz.func30,Tryz.ntmps30
 go_upto_region 4 with fail
 have bW:Below w.heap.size w ((w.alloc (.cells #[.int .i64 0, .int .u32 0, .string ⟨#[]⟩, .int .i64 0] 40)).alloc (.cells #[.int .i64 0, .int .u32 0, .string ⟨#[]⟩, .int .i64 0] 40)):=below_trans (box_below w _) (box_below _ _)
 have sA:Stands ((w.alloc (.cells #[.int .i64 0, .int .u32 0, .string ⟨#[]⟩, .int .i64 0] 40)).alloc (.cells #[.int .i64 0, .int .u32 0, .string ⟨#[]⟩, .int .i64 0] 40)) w.heap.size #[.int .i64 0, .int .u32 0, .string ⟨#[]⟩, .int .i64 0] 40:=(stands_new w _ _).below (box_below _ _)
 have sT:Stands ((w.alloc (.cells #[.int .i64 0, .int .u32 0, .string ⟨#[]⟩, .int .i64 0] 40)).alloc (.cells #[.int .i64 0, .int .u32 0, .string ⟨#[]⟩, .int .i64 0] 40)) (w.heap.size+1) #[.int .i64 0, .int .u32 0, .string ⟨#[]⟩, .int .i64 0] 40:=by have:=stands_new (w.alloc (.cells #[.int .i64 0, .int .u32 0, .string ⟨#[]⟩, .int .i64 0] 40)) #[.int .i64 0, .int .u32 0, .string ⟨#[]⟩, .int .i64 0] 40;rwa [size_al] at this
 generalize (w.alloc (.cells #[.int .i64 0, .int .u32 0, .string ⟨#[]⟩, .int .i64 0] 40)).alloc (.cells #[.int .i64 0, .int .u32 0, .string ⟨#[]⟩, .int .i64 0] 40)=W0 at bW sA sT ⊢
 obtain ⟨ad0,x0,i0,c0,_,_,g0⟩:=mem_at (h.below bW) hB 0 (by omega) (by simp only[List.length_cons];omega)
 simp only[Int.toNat_zero,List.getD_cons_zero] at g0
 subst g0
 have t00:=sT.cell 0 _ rfl
 have t01:=sT.cell 1 _ rfl
 have t02:=sT.cell 2 _ rfl
 have t03:=sT.cell 3 _ rfl
 have y00:=sT.free 0
 have y01:=sT.free 1
 have y02:=sT.free 2
 have y03:=sT.free 3
 go_upto_region 6 with fail
 have sA1:=sA.other 0 (.int .i64 0) (show ¬w.heap.size=w.heap.size+1 by omega)
 have sT1:Stands _ (w.heap.size+1) #[.int .i64 0, .int .u32 0, .string ⟨#[]⟩, .int .i64 0] 40:=sT.set 0 (.int .i64 0)
 have bW1:=below_set bW (w.heap.size+1) 0 (.int .i64 0) (by omega)
 clear t00 y00 t01 y01 t02 y02 t03 y03
 clear sA sT bW
 have sA:=sA1
 have sT:=sT1
 have bW:=bW1
 clear sA1 sT1 bW1
 generalize W0.setCell ⟨w.heap.size+1,0,none⟩ (.int .i64 0)=W1 at sA sT bW ⊢
 have t10:=sT.cell 0 _ rfl
 have t11:=sT.cell 1 _ rfl
 have t12:=sT.cell 2 _ rfl
 have t13:=sT.cell 3 _ rfl
 have y10:=sT.free 0
 have y11:=sT.free 1
 have y12:=sT.free 2
 have y13:=sT.free 3
 have hone:oneP _ wide=some (⟨0,0,LB ⟨#[]⟩,0⟩,_):=HK1.out
 have HO:=hid hone
 have cY:=fun w=>w_rbytes (0) (0) (0) (⟨#[]⟩) wide w (by omega) (by omega) (by omega) (by omega) (by decide)
 clear hone
 cases hq:okQ ⟨0,0,LB ⟨#[]⟩,0⟩ wide with
 |true=>
  rw[hq] at cY
  have HQ:=hid hq
  clear hq
  go_wp2_with (first|(go_at_call 27;refine (cY _).mono ?_;rintro e w4 ⟨v4,rfl,o4,b4⟩;have sA4:=sA.below b4;have sT4:=sT.below b4;have bW4:=below_trans bW b4;have u40:=sA4.cell 0 _ rfl;have z40:=sA4.free 0;have t40:=sT4.cell 0 _ rfl;have u41:=sA4.cell 1 _ rfl;have z41:=sA4.free 1;have t41:=sT4.cell 1 _ rfl;have u42:=sA4.cell 2 _ rfl;have z42:=sA4.free 2;have t42:=sT4.cell 2 _ rfl;have u43:=sA4.cell 3 _ rfl;have z43:=sA4.free 3;have t43:=sT4.cell 3 _ rfl;have q4:OwB W1.heap.size w4 v4 (byQ ⟨0,0,LB ⟨#[]⟩,0⟩ wide):=(by first|exact o4 rfl|exact o4 trivial|exact o4);have hl4:=rd_len (Rd_own q4).1 uB (P:=Tryz.prog))|(go_at_call 17;refine (cB _).mono ?_;rintro e q ⟨rfl,hw⟩;obtain rfl:=hw.symm))
  have g9:=set4 sA4 (.int .i64 (0)) (.int .u32 (0)) (.string (⟨#[]⟩)) (.int .i64 (0))
  refine bodyPost_ret (res_row2 rfl _ _ w.heap.size 40 _ (0,0) _ rfl g9 Tryz.underlying40 rfl (show _=some 4 by kernel_rfl)) rfl ?_
  have e9:(tqC ⟨0,0,LB ⟨#[]⟩,0⟩).toArray=#[.int .i64 (0), .int .u32 (0), .string (⟨#[]⟩), .int .i64 (0)]:=by simp[tqC,nums_LB]
  have f9:=one_good HO.out HQ.out (bset4 bW4 _ (.int .i64 (0)) (.int .u32 (0)) (.string (⟨#[]⟩)) (.int .i64 (0)) (Nat.le_refl _))
  rw[e9] at f9
  exact f9
 |false=>
  rw[hq] at cY
  have HQ:=hid hq
  clear hq
  go_wp2_with (first|(go_at_call 27;refine (cY _).mono ?_;rintro e w4 ⟨v4,rfl,o4,b4⟩;have sA4:=sA.below b4;have sT4:=sT.below b4;have bW4:=below_trans bW b4;have u40:=sA4.cell 0 _ rfl;have z40:=sA4.free 0;have t40:=sT4.cell 0 _ rfl;have u41:=sA4.cell 1 _ rfl;have z41:=sA4.free 1;have t41:=sT4.cell 1 _ rfl;have u42:=sA4.cell 2 _ rfl;have z42:=sA4.free 2;have t42:=sT4.cell 2 _ rfl;have u43:=sA4.cell 3 _ rfl;have z43:=sA4.free 3;have t43:=sT4.cell 3 _ rfl)|(go_at_call 17;refine (cB _).mono ?_;rintro e q ⟨rfl,hw⟩;obtain rfl:=hw.symm))
  have g9:=set4 sA4 (.int .i64 0) (.int .u32 0) (.string ⟨#[]⟩) (.int .i64 0)
  refine bodyPost_ret (res_row2 rfl _ _ w.heap.size 40 _ (0,0) _ rfl g9 Tryz.underlying40 rfl (show _=some 4 by kernel_rfl)) rfl ?_
  exact one_bad HO.out HQ.out (bset4 bW4 _ _ _ _ _ (Nat.le_refl _))
set_option maxHeartbeats 4000000 in
set_option maxRecDepth 100000 in
theorem w_one0 (v:Value) (a:Int) (r:List Int) (wide:Bool) (w:World) (h:Rd .u8 w v (a::r)) (hB:bytesL (a::r)) (hl:(a::r).length≤8192) (h16:16≤a) (hk:bhF a=0):
  Calls Tryz.prog 30 #[v, .bool wide] w (OneP w (a::r) wide):=by
 have hone1:=one_1 a r wide 0 (by omega) hk
 have hlen:=rd_len h uB (P:=Tryz.prog)
 have hLL:((a::r).length:Int)=r.length+1:=by simp
 rw[hLL] at hlen
 have hrl:(r.length:Int)≤8191:=by have:(a::r).length=r.length+1:=rfl;omega
 have hBr:bytesL r:=fun x hx=>hB x (by simp[hx])
 have hab:=hB a (by simp)
 obtain ⟨ha0,ha1⟩:=hab
 obtain ⟨vr,rr,_,_,cut⟩:=rd_cut h uB zB 1 (a::r).length (by simp) (Nat.le_refl _)
 rw[show (List.drop 1 (a::r))=r from rfl,List.take_of_length_le (by simp)] at rr
 have cut1:∀w',(Instr.slice 29 v (some (.int .i64 1)) none none).run Tryz.prog w'= .ok vr w':=cut rfl
 have hlr:=rd_len rr uB (P:=Tryz.prog)
 clear cut hLL
 have cB:=fun w=>w_rbehind a w
 rw[hk] at cB
 have HK1:=hid hone1
 clear hone1 hk
 have hlz:((r.length:Int)+1==0)=false:=by rw[beq_eq_false_iff_ne];omega
 go_enter Tryz.func30,Tryz.ntmps30
 go_upto_region 4 with fail
 have bW:Below w.heap.size w ((w.alloc (.cells #[.int .i64 0, .int .u32 0, .string ⟨#[]⟩, .int .i64 0] 40)).alloc (.cells #[.int .i64 0, .int .u32 0, .string ⟨#[]⟩, .int .i64 0] 40)):=below_trans (box_below w _) (box_below _ _)
 have sA:Stands ((w.alloc (.cells #[.int .i64 0, .int .u32 0, .string ⟨#[]⟩, .int .i64 0] 40)).alloc (.cells #[.int .i64 0, .int .u32 0, .string ⟨#[]⟩, .int .i64 0] 40)) w.heap.size #[.int .i64 0, .int .u32 0, .string ⟨#[]⟩, .int .i64 0] 40:=(stands_new w _ _).below (box_below _ _)
 have sT:Stands ((w.alloc (.cells #[.int .i64 0, .int .u32 0, .string ⟨#[]⟩, .int .i64 0] 40)).alloc (.cells #[.int .i64 0, .int .u32 0, .string ⟨#[]⟩, .int .i64 0] 40)) (w.heap.size+1) #[.int .i64 0, .int .u32 0, .string ⟨#[]⟩, .int .i64 0] 40:=by have:=stands_new (w.alloc (.cells #[.int .i64 0, .int .u32 0, .string ⟨#[]⟩, .int .i64 0] 40)) #[.int .i64 0, .int .u32 0, .string ⟨#[]⟩, .int .i64 0] 40;rwa [size_al] at this
 generalize (w.alloc (.cells #[.int .i64 0, .int .u32 0, .string ⟨#[]⟩, .int .i64 0] 40)).alloc (.cells #[.int .i64 0, .int .u32 0, .string ⟨#[]⟩, .int .i64 0] 40)=W0 at bW sA sT ⊢
 obtain ⟨ad0,x0,i0,c0,_,_,g0⟩:=mem_at (h.below bW) hB 0 (by omega) (by simp only[List.length_cons];omega)
 simp only[Int.toNat_zero,List.getD_cons_zero] at g0
 subst g0
 have t00:=sT.cell 0 _ rfl
 have t01:=sT.cell 1 _ rfl
 have t02:=sT.cell 2 _ rfl
 have t03:=sT.cell 3 _ rfl
 have y00:=sT.free 0
 have y01:=sT.free 1
 have y02:=sT.free 2
 have y03:=sT.free 3
 go_upto_region 6 with fail
 have sA1:=sA.other 0 (.int .i64 a) (show ¬w.heap.size=w.heap.size+1 by omega)
 have sT1:Stands _ (w.heap.size+1) #[.int .i64 a, .int .u32 0, .string ⟨#[]⟩, .int .i64 0] 40:=sT.set 0 (.int .i64 a)
 have bW1:=below_set bW (w.heap.size+1) 0 (.int .i64 a) (by omega)
 clear t00 y00 t01 y01 t02 y02 t03 y03
 clear sA sT bW
 have sA:=sA1
 have sT:=sT1
 have bW:=bW1
 clear sA1 sT1 bW1
 generalize W0.setCell ⟨w.heap.size+1,0,none⟩ (.int .i64 a)=W1 at sA sT bW ⊢
 have t10:=sT.cell 0 _ rfl
 have t11:=sT.cell 1 _ rfl
 have t12:=sT.cell 2 _ rfl
 have t13:=sT.cell 3 _ rfl
 have y10:=sT.free 0
 have y11:=sT.free 1
 have y12:=sT.free 2
 have y13:=sT.free 3
 have hone:oneP _ wide=some (⟨a,0,LB ⟨#[]⟩,0⟩,_):=HK1.out
 have HO:=hid hone
 have cY:=fun w=>w_rbytes (a) (0) (0) (⟨#[]⟩) wide w (by omega) (by omega) (by omega) (by omega) (by decide)
 clear hone
 cases hq:okQ ⟨a,0,LB ⟨#[]⟩,0⟩ wide with
 |true=>
  rw[hq] at cY
  have HQ:=hid hq
  clear hq
  go_wp2_with (first|(go_at_call 27;refine (cY _).mono ?_;rintro e w4 ⟨v4,rfl,o4,b4⟩;have sA4:=sA.below b4;have sT4:=sT.below b4;have bW4:=below_trans bW b4;have u40:=sA4.cell 0 _ rfl;have z40:=sA4.free 0;have t40:=sT4.cell 0 _ rfl;have u41:=sA4.cell 1 _ rfl;have z41:=sA4.free 1;have t41:=sT4.cell 1 _ rfl;have u42:=sA4.cell 2 _ rfl;have z42:=sA4.free 2;have t42:=sT4.cell 2 _ rfl;have u43:=sA4.cell 3 _ rfl;have z43:=sA4.free 3;have t43:=sT4.cell 3 _ rfl;have q4:OwB W1.heap.size w4 v4 (byQ ⟨a,0,LB ⟨#[]⟩,0⟩ wide):=(by first|exact o4 rfl|exact o4 trivial|exact o4);have hl4:=rd_len (Rd_own q4).1 uB (P:=Tryz.prog))|(go_at_call 17;refine (cB _).mono ?_;rintro e q ⟨rfl,hw⟩;obtain rfl:=hw.symm))
  have g9:=set4 sA4 (.int .i64 (a)) (.int .u32 (0)) (.string (⟨#[]⟩)) (.int .i64 (0))
  refine bodyPost_ret (res_row2 rfl _ _ w.heap.size 40 _ (0,0) _ rfl g9 Tryz.underlying40 rfl (show _=some 4 by kernel_rfl)) rfl ?_
  have e9:(tqC ⟨a,0,LB ⟨#[]⟩,0⟩).toArray=#[.int .i64 (a), .int .u32 (0), .string (⟨#[]⟩), .int .i64 (0)]:=by simp[tqC,nums_LB]
  have f9:=one_good HO.out HQ.out (bset4 bW4 _ (.int .i64 (a)) (.int .u32 (0)) (.string (⟨#[]⟩)) (.int .i64 (0)) (Nat.le_refl _))
  rw[e9] at f9
  exact f9
 |false=>
  rw[hq] at cY
  have HQ:=hid hq
  clear hq
  go_wp2_with (first|(go_at_call 27;refine (cY _).mono ?_;rintro e w4 ⟨v4,rfl,o4,b4⟩;have sA4:=sA.below b4;have sT4:=sT.below b4;have bW4:=below_trans bW b4;have u40:=sA4.cell 0 _ rfl;have z40:=sA4.free 0;have t40:=sT4.cell 0 _ rfl;have u41:=sA4.cell 1 _ rfl;have z41:=sA4.free 1;have t41:=sT4.cell 1 _ rfl;have u42:=sA4.cell 2 _ rfl;have z42:=sA4.free 2;have t42:=sT4.cell 2 _ rfl;have u43:=sA4.cell 3 _ rfl;have z43:=sA4.free 3;have t43:=sT4.cell 3 _ rfl)|(go_at_call 17;refine (cB _).mono ?_;rintro e q ⟨rfl,hw⟩;obtain rfl:=hw.symm))
  have g9:=set4 sA4 (.int .i64 0) (.int .u32 0) (.string ⟨#[]⟩) (.int .i64 0)
  refine bodyPost_ret (res_row2 rfl _ _ w.heap.size 40 _ (0,0) _ rfl g9 Tryz.underlying40 rfl (show _=some 4 by kernel_rfl)) rfl ?_
  exact one_bad HO.out HQ.out (bset4 bW4 _ _ _ _ _ (Nat.le_refl _))
end Go.Proofs.YtkkehbdahniiaaaGreatDoor
