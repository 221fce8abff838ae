import Derived.Deep.OwnRows
import Derived.Lib.LaidTab
import Derived.Test.YtkkehbdahniiaaaGreatDoorRows
import Derived.Stop.LaidErr
import Derived.Test.YtkkehbdahniiaaaGreatDoorB20
set_option linter.unusedVariables false
set_option linter.unusedSimpArgs false
set_option maxRecDepth 100000
namespace Go.Proofs.YtkkehbdahniiaaaGreatDoor
open Go.ChangeShapes Go.WideShapes Go.ChangeAt Go.RowKit
theorem one_pair {b r:List Int} {wide:Bool} {cs:Array Value} {n:Int} {C N O:Int} {T:List Int} {nb:Nat} (h:OneA b wide cs n) (hq:oneF b wide=some (⟨C,N,T,O⟩,r)) (hn:(byQ ⟨C,N,T,O⟩ wide).length=nb):
  n=(nb:Int)∧cs=#[.int .i64 C, .int .u32 N, .string (strOfNums T), .int .i64 O]:=by
 rcases h with ⟨h1,_⟩|⟨t,r',h1,h2,h3⟩
 ·rw[hq] at h1;cases h1
 ·rw[hq] at h1
  injection h1 with h1
  injection h1 with h4 h5
  subst h4
  exact ⟨by rw[h3,hn],h2⟩
theorem one_zero {b:List Int} {wide:Bool} {cs:Array Value} {n:Int} (h:OneA b wide cs n) (hq:oneF b wide=none):n=0∧cs=#[.int .i64 0, .int .u32 0, .string ⟨#[]⟩, .int .i64 0]:=by
 rcases h with ⟨_,h1,h2⟩|⟨t,r,h1,_⟩
 ·exact ⟨h1,h2⟩
 ·rw[hq] at h1;cases h1
set_option maxHeartbeats 4000000 in
set_option maxRecDepth 100000 in
theorem w_rdec (v:Value) (l:List Int) (wide:Bool) (w:World) (h:Rd .u8 w v l) (hB:bytesL l):
  Calls Tryz.prog 15 #[v, .bool wide] w fun e w'=>∃v1,e= .returned (.tuple #[v1, .int .i64 (decF l wide).2])∧SlR 4 tqR w' v1 (decF l wide).1∧Below w.heap.size w w':=by
 have hlen:=rd_len h uB (P:=Tryz.prog)
 by_cases hl:8192 < l.length
 ·have e:decF l wide=([],3):=by unfold decF;rw[if_pos hl]
  rw[e]
  have hI:(8192:Int) < l.length:=by omega
  clear e hl
  go_enter Tryz.func15,Tryz.ntmps15
  go_wp2_with fail
  go_ret2
  exact ⟨_,rfl,(OwQs.read (base:=0) (out:=[]) (World.ownsRow_nil _ _ _ _)),Below.refl _ _⟩
 ·have e:=dec_is l wide hl
  rw[e]
  have hI:¬(8192:Int) < l.length:=by omega
  obtain ⟨i4,hi4,hz4,hs4,hb4⟩:=info_parts infoTq
  obtain ⟨X,hX⟩:∃X,decG l.length l wide=X:=⟨_,rfl⟩
  rw[hX]
  have HX:=hid hX
  obtain ⟨A,E,hAE⟩:∃A E,decE X=(A,E):=⟨_,_,rfl⟩
  have HA:=hid hAE
  rw[hAE]
  show Calls _ _ _ _ fun e w'=>∃v,e= .returned (.tuple #[v, .int .i64 E])∧SlR 4 tqR w' v A∧_
  have hL:(l.length:Int)≤8192:=by omega
  clear hAE hX e hl
  go_enter Tryz.func15,Tryz.ntmps15
  go_wp2_with fail
  go_loopw [1,6,7] (fun Wd U I wx=>∃(W:Bool) (out:List Tq) (k:Nat),Wd= .bool W∧I= .int .i64 k∧OwQs w.heap.size wx U out∧(k:Int)≤l.length∧(out.length:Int)≤k∧Hid ((decG (l.drop k).length (l.drop k) W).map (out++·)=X)∧Below w.heap.size w wx) (fun _ _ I _=>(l.length - intOf I).toNat)
  case atStart=>exact ⟨wide,[],0,rfl,rfl,World.ownsRow_nil _ _ _ _,by omega,by simp,hid (by rw[←HX.out,List.drop_zero];cases decG l.length l wide <;> simp),Below.refl _ _⟩
  case round=>
   obtain ⟨W,out,k,rfl,rfl,ho,hk,hn,hF,hb⟩:=hrel
   by_cases hlt:(k:Int) < l.length
   ·obtain ⟨vr,rr,_,_,cut⟩:=rd_cut h uB zB k l.length (by omega) (Nat.le_refl _)
    rw[List.take_of_length_le (by simp)] at rr
    have cut1:=cut rfl
    have hbr:bytesL (l.drop k):=fun x hx=>hB x (List.mem_of_mem_drop hx)
    have hdl:(l.drop k).length=l.length - k:=by simp
    have hd:=hF.out
    rw[dec_one (l.drop k) hbr (by omega) W] at hd
    have cO:=fun w h=>w_rone vr (l.drop k) W w h hbr (by omega)
    have hod:∀t r,oneF (l.drop k) W=some (t,r)→okQ t W=true∧gQ t∧r=l.drop (k+(byQ t W).length)∧(byQ t W).length≤l.length - k∧0 < (byQ t W).length∧t.t.length≤8192:=by
     intro t r hq
     obtain ⟨p1,p2,p3,p4⟩:=by_one _ hbr W t r hq
     have hlen2:=congrArg List.length p2
     rw[List.length_append,hdl] at hlen2
     refine ⟨p1,p3, ?_,by omega,by_pos t W, ?_⟩
     ·rw[←List.drop_drop,p2,List.drop_left']
      rfl
     ·have h3:oneP (l.drop k) W=some (t,r):=by
       simp only[oneF,Option.bind_eq_some_iff] at hq
       obtain ⟨x,h4,h5⟩:=hq
       split at h5
       ·injection h5 with h5;rw[h4,h5]
       ·cases h5
      have:=(oneP_g _ hbr W t r h3).2.2.1
      omega
    obtain ⟨R,hR⟩:∃R,l.drop k=R:=⟨_,rfl⟩
    simp only[hR] at hd cO hod rr
    cases hq:oneF R W with
    |none=>
     rw[hq] at hd
     simp only[Option.bind_none,Option.map_none] at hd
     have HD:=hid hd
     have bx:=fun w=>box_below w (.cells #[.int .i64 0, .int .u32 0, .string ⟨#[]⟩, .int .i64 0] 40)
     have HQ:=hid hq
     clear hd hod hq hF hdl hR
     go_wp2_with (go_at_call 30;refine (cO _ (rr.below hb)).mono ?_;rintro e w1 ⟨cs,n,rfl,ha,b1⟩;obtain ⟨rfl,rfl⟩:n=0∧cs=#[.int .i64 0, .int .u32 0, .string ⟨#[]⟩, .int .i64 0]:=(one_zero ha HQ.out))
     go_ret2
     have hh:=HA.out
     rw[←HD.out] at hh
     simp only[decE] at hh
     injection hh with h1 h2
     subst h1 h2
     exact ⟨_,rfl,(OwQs.read (base:=0) (out:=[]) (World.ownsRow_nil _ _ _ _)),below_trans hb (below_trans b1 (bx w1))⟩
    |some x=>
     obtain ⟨t,r⟩:=x
     obtain ⟨p1,p2,p3,p4,p5,p6⟩:=hod t r hq
     rw[hq] at hd
     simp only[Option.bind_some,Option.map_map] at hd
     rw[p3] at hd
     obtain ⟨nb,hnb⟩:∃nb,(byQ t W).length=nb:=⟨_,rfl⟩
     rw[hnb] at hd p4 p5
     obtain ⟨C,N,T,O⟩:=t
     have HD:Hid ((decG (l.drop (k+nb)).length (l.drop (k+nb)) (wdF W C)).map ((out++[⟨C,N,T,O⟩])++·)=X):=by
      show _=_
      rw[←hd]
      cases decG (l.drop (k+nb)).length (l.drop (k+nb)) (wdF W C) <;> simp
     have HQ:=hid hq
     have HN:=hid hnb
     have bx:=fun w=>box_below w (.cells #[.int .i64 C, .int .u32 N, .string (strOfNums T), .int .i64 O] 40)
     have sx:=fun w=>stands_new w #[.int .i64 C, .int .u32 N, .string (strOfNums T), .int .i64 O] 40
     have hone:=tq_one ⟨C,N,T,O⟩
     have hnz:((nb:Int)==0)=false:=by rw[beq_eq_false_iff_ne];omega
     have hkn:(k:Int)+nb≤l.length:=by omega
     have hp5:(0:Int) < nb:=by omega
     clear hd hod hq hF hdl hR p1 p2 p3 p4 p5 p6 hnb
     cases W with
     |true=>
      go_wp2_with (first
       |(go_at_call 30;refine (cO _ (rr.below hb)).mono ?_;rintro e w1 ⟨cs,n,rfl,ha,b1⟩;obtain ⟨rfl,rfl⟩:n=(nb:Int)∧cs=#[.int .i64 C, .int .u32 N, .string (strOfNums T), .int .i64 O]:=(one_pair ha HQ.out HN.out);have o1:=own_belowQ ho (below_trans b1 (bx w1));have hb1:=below_trans hb (below_trans b1 (bx w1));have s1:=sx w1;have f10:=s1.cell 0 _ rfl;have f11:=s1.cell 1 _ rfl;have f12:=s1.cell 2 _ rfl;have f13:=s1.cell 3 _ rfl)
       |(at_builtin;refine wpList_append_row rfl _ _ 23 rfl w.heap.size 40 i4 _ 4 40 Tryz.underlying23 hi4 hz4 hs4 hb4 rfl (by decide) _ out.length _ rfl (own_belowQ o1 (bx _)) (w1.heap.size+1) (tqC ⟨C,N,T,O⟩) rfl rfl (alloc_row2 w1 _ (tqC ⟨C,N,T,O⟩) 40) hone (by unfold maxLen;omega) (by omega) (by rw[size_al];have:=hb1.size;omega) ?_;intro v5 w5 o5 g5;have hb5:=below_grown (below_trans hb1 (bx _)) g5 (fun k hk=>((own_belowQ o1 (bx _)).lt k hk).1)))
      go_roundw
      case rel=>exact ⟨true,out++[⟨C,N,T,O⟩],k+nb,rfl,by go_num,by simpa [OwQs] using o5,by omega,by simp;omega,HD,hb5⟩
      case measure=>simp[intOf];omega
     |false=>
      go_wp2_with (first
       |(go_at_call 30;refine (cO _ (rr.below hb)).mono ?_;rintro e w1 ⟨cs,n,rfl,ha,b1⟩;obtain ⟨rfl,rfl⟩:n=(nb:Int)∧cs=#[.int .i64 C, .int .u32 N, .string (strOfNums T), .int .i64 O]:=(one_pair ha HQ.out HN.out);have o1:=own_belowQ ho (below_trans b1 (bx w1));have hb1:=below_trans hb (below_trans b1 (bx w1));have s1:=sx w1;have f10:=s1.cell 0 _ rfl;have f11:=s1.cell 1 _ rfl;have f12:=s1.cell 2 _ rfl;have f13:=s1.cell 3 _ rfl)
       |(at_builtin;refine wpList_append_row rfl _ _ 23 rfl w.heap.size 40 i4 _ 4 40 Tryz.underlying23 hi4 hz4 hs4 hb4 rfl (by decide) _ out.length _ rfl (own_belowQ o1 (bx _)) (w1.heap.size+1) (tqC ⟨C,N,T,O⟩) rfl rfl (alloc_row2 w1 _ (tqC ⟨C,N,T,O⟩) 40) hone (by unfold maxLen;omega) (by omega) (by rw[size_al];have:=hb1.size;omega) ?_;intro v5 w5 o5 g5;have hb5:=below_grown (below_trans hb1 (bx _)) g5 (fun k hk=>((own_belowQ o1 (bx _)).lt k hk).1);have st5:=(s1.below (bx _)).grown g5 (fun hk=>by have h9:=(ho.lt _ hk.symm).2;have h8:=b1.size;omega);have f50:=st5.cell 0 _ rfl))
      go_roundw
      case rel=>exact ⟨wdF false C,out++[⟨C,N,T,O⟩],k+nb,rfl,by go_num,by simpa [OwQs] using o5,by omega,by simp;omega,HD,hb5⟩
      case measure=>simp[intOf];omega
   ·have hd:=hF.out
    rw[show l.drop k=[] from List.drop_eq_nil_of_le (by omega),dec_nil] at hd
    have HD:=hid hd
    clear hd hF
    go_wp2_with fail
    go_ret2
    have hh:=HA.out
    rw[←HD.out] at hh
    simp only[Option.map_some,decE,List.append_nil] at hh
    injection hh with h1 h2
    subst h1 h2
    exact ⟨_,rfl,ho.read,hb⟩
set_option maxHeartbeats 1000000 in
theorem w_rsum14 (v:Value) (xs:List Int) (w:World) (h:Rd .u8 w v xs) (hb:bytesL xs) (hz:xs.length≤140737488355328):
  Calls Tryz.prog 53 #[v] w fun e w'=>e= .returned (.int .i64 (sumF xs))∧w'=w:=by
 have hlen:=rd_len h uB (P:=Tryz.prog)
 go_enter Tryz.func53,Tryz.ntmps53
 go_wp2_with fail
 go_loopw [3,4] (fun U I wx=>∃k:Nat,(k:Int)≤xs.length∧I= .int .i64 k∧U= .int .i64 (sumF (xs.take k))∧wx=w) (fun _ I _=>(xs.length - intOf I).toNat)
 case atStart=>exact ⟨0,by omega,rfl,rfl,rfl⟩
 case round=>
  obtain ⟨k,hk,rfl,rfl,rfl⟩:=hrel
  by_cases hlt:(k:Int) < xs.length
  ·obtain ⟨ad,b,q1,q2,q3,q4,q5⟩:=mem_at h hb k (by omega) (by omega)
   have hkk:k < xs.length:=by omega
   have hsm:=sum_bd (xs.take k)
   have hnx:Hid (sumF (xs.take (k+1))=(sumF (xs.take k)+b)%65536):=by
    show _=_
    rw[List.take_succ_eq_append_getElem hkk,sum_snoc]
    congr 2
    rw[←q5,List.getD_eq_getElem?_getD]
    simp[hkk]
   obtain ⟨a,ha⟩:∃a,sumF (xs.take k)=a:=⟨_,rfl⟩
   rw[ha] at hsm hnx ⊢
   obtain ⟨m0,m1⟩:=hsm
   have hm:(a+b).tmod 65536=(a+b)%65536:=Int.tmod_eq_emod_of_nonneg (by omega)
   clear ha q5
   go_wp2_with fail
   go_roundw
   case rel=>exact ⟨k+1,by omega,by go_num,by rw[hnx.out],trivial⟩
   case measure=>simp[intOf];omega
  ·have e:Hid (xs.take k=xs):=List.take_of_length_le (by omega)
   have hsm:=sum_bd (xs.take k)
   obtain ⟨m0,m1⟩:=hsm
   go_wp2_with fail
   go_ret
   rw[e.out]
   exact ⟨rfl,rfl⟩
set_option maxHeartbeats 2000000 in
theorem w_rmake14 (v:Value) (xs:List Int) (wide:Bool) (w:World) (h:Rd .u8 w v xs) (hb:bytesL xs) (hz:xs.length≤140737488355328):
  Calls Tryz.prog 28 #[v, .bool wide] w fun e w'=>∃v',e= .returned (.tuple #[v', .int .i64 (makF xs wide).2])∧Own8p w.heap.size w' v' (makF xs wide).1∧Below w.heap.size w w':=by
 have hlen:=rd_len h uB (P:=Tryz.prog)
 by_cases hl:(8184:Int) < xs.length
 ·have e:makF xs wide=([],3):=by unfold makF;rw[if_pos (by omega)]
  rw[e]
  clear e
  go_enter Tryz.func28,Tryz.ntmps28
  go_wp2_with fail
  go_ret2
  exact ⟨_,rfl,World.ownsRow_nil _ _ _ _,Below.refl _ _⟩
 ·have e:makF xs wide=(hdF xs wide++xs,0):=by unfold makF;rw[if_neg (by omega)]
  rw[e]
  clear e
  obtain ⟨i0,hi,hz0,hz1,hz2⟩:=info_parts infoU8
  have cS:=w_rsum14 v xs w h hb hz
  obtain ⟨m0,m1⟩:=sum_bd xs
  have cE:=fun w=>w_rencint (8+(xs.length:Int)) w (by omega) (by omega)
  have hH:Hid (hdF xs wide=[mkFh wide,8,sumF xs / 256,sumF xs%256]++beB 4 (8+(xs.length:Int))):=rfl
  have hE4:=beB_len 4 (8+(xs.length:Int))
  obtain ⟨H,hHe⟩:∃H,hdF xs wide=H:=⟨_,rfl⟩
  obtain ⟨E,hEe⟩:∃E,beB 4 (8+(xs.length:Int))=E:=⟨_,rfl⟩
  obtain ⟨s,hs⟩:∃s,sumF xs=s:=⟨_,rfl⟩
  rw[hs] at cS hH m0 m1
  rw[hEe] at cE hH hE4
  rw[hHe] at hH ⊢
  clear hs hHe hEe
  have w1:IntKind.u8.wrap (s / 256)=s / 256:=by rw[IntKind.wrap_u8];omega
  have w2:IntKind.u8.wrap (s%256)=s%256:=by rw[IntKind.wrap_u8];omega
  have t1:s.tdiv 256=s / 256:=Int.tdiv_eq_ediv_of_nonneg m0
  have t2:s.tmod 256=s%256:=Int.tmod_eq_emod_of_nonneg m0
  have w3:IntKind.u32.wrap (8+(xs.length:Int))=8+xs.length:=by rw[IntKind.wrap_u32];omega
  have o0:∀M:Int,Own8p w.heap.size (w.alloc (.cells #[.int .u8 M, .int .u8 8, .int .u8 (s / 256), .int .u8 (s%256)] 5)) (.slice (some ⟨w.heap.size,0,none⟩) 4 4) [M,8,s / 256,s%256]:=fun M=>⟨by simp, .inr ⟨w.heap.size,4,_,rfl,Nat.le_refl _,heap_alloc_new w _,by simp,by decide,rfl,rfl⟩⟩
  have fr:∀M:Int,∀a,(w.alloc (.cells #[.int .u8 M, .int .u8 8, .int .u8 (s / 256), .int .u8 (s%256)] 5)).frozen? ⟨w.heap.size,a,none⟩=false:=fun M a=>(o0 M).frozenAt a
  cases wide
  ·go_enter Tryz.func28,Tryz.ntmps28
   go_wp2_with (first
    |(go_at_call 53;refine cS.mono ?_;rintro e q0 ⟨rfl,hw⟩;obtain rfl:=hw.symm)
    |(go_at_call 54;refine (cE _).mono ?_;rintro e q1 ⟨v1,rfl,o1,b1⟩;have o0':Own8p w.heap.size q1 _ [253,8,s / 256,s%256]:=own_below (o0 253) b1;have b01:=below_trans (box_below w _) b1)
    |(at_builtin;refine wpList_append_rd (k:= .u8) rfl _ _ 29 rfl w.heap.size 5 i0 1 Tryz.underlying29 hi hz0 hz1 hz2 v2 ([253,8,s / 256,s%256]++E) rfl o2 v xs rfl (h.below b2) (by unfold maxLen;simp only[List.length_append,List.length_cons,List.length_nil];omega) (by simp only[List.length_append,List.length_cons,List.length_nil];omega) b2.size ?_;intro v3 w3 o3 g3;have b3:=below_grown b2 g3 (fun k hk=>(o2.lt k hk).1))
    |(at_builtin;refine wpList_append_rd (k:= .u8) rfl _ _ 29 rfl w.heap.size 5 i0 1 Tryz.underlying29 hi hz0 hz1 hz2 _ [253,8,s / 256,s%256] rfl o0' v1 E rfl (Rd_own o1).1 (by unfold maxLen;simp only[List.length_append,List.length_cons,List.length_nil];omega) (by simp only[List.length_append,List.length_cons,List.length_nil];omega) b01.size ?_;intro v2 w2 o2 g2;have b2:=below_grown b01 g2 (fun k hk=>(o0'.lt k hk).1)))
   go_ret2
   refine ⟨v3,rfl, ?_,b3⟩
   rw[hH.out]
   exact o3
  ·go_enter Tryz.func28,Tryz.ntmps28
   go_wp2_with (first
    |(go_at_call 53;refine cS.mono ?_;rintro e q0 ⟨rfl,hw⟩;obtain rfl:=hw.symm)
    |(go_at_call 54;refine (cE _).mono ?_;rintro e q1 ⟨v1,rfl,o1,b1⟩;have o0':Own8p w.heap.size q1 _ [241,8,s / 256,s%256]:=own_below (o0 241) b1;have b01:=below_trans (box_below w _) b1)
    |(at_builtin;refine wpList_append_rd (k:= .u8) rfl _ _ 29 rfl w.heap.size 5 i0 1 Tryz.underlying29 hi hz0 hz1 hz2 v2 ([241,8,s / 256,s%256]++E) rfl o2 v xs rfl (h.below b2) (by unfold maxLen;simp only[List.length_append,List.length_cons,List.length_nil];omega) (by simp only[List.length_append,List.length_cons,List.length_nil];omega) b2.size ?_;intro v3 w3 o3 g3;have b3:=below_grown b2 g3 (fun k hk=>(o2.lt k hk).1))
    |(at_builtin;refine wpList_append_rd (k:= .u8) rfl _ _ 29 rfl w.heap.size 5 i0 1 Tryz.underlying29 hi hz0 hz1 hz2 _ [241,8,s / 256,s%256] rfl o0' v1 E rfl (Rd_own o1).1 (by unfold maxLen;simp only[List.length_append,List.length_cons,List.length_nil];omega) (by simp only[List.length_append,List.length_cons,List.length_nil];omega) b01.size ?_;intro v2 w2 o2 g2;have b2:=below_grown b01 g2 (fun k hk=>(o0'.lt k hk).1)))
   go_ret2
   refine ⟨v3,rfl, ?_,b3⟩
   rw[hH.out]
   exact o3
set_option maxHeartbeats 2000000 in
theorem w_rcheck14 (v:Value) (xs:List Int) (w:World) (h:Rd .u8 w v xs) (hb:bytesL xs) (hz:xs.length≤140737488355328):
  Calls Tryz.prog 14 #[v] w fun e w'=>∃v',e= .returned (.tuple #[v', .bool (chkF xs).2.1, .int .i64 (chkF xs).2.2])∧Rd .u8 w' v' (chkF xs).1∧Below w.heap.size w w':=by
 have hlen:=rd_len h uB (P:=Tryz.prog)
 by_cases h8:(xs.length:Int) < 8
 ·have e:chkF xs=([],false,17):=by unfold chkF chkB;rw[decide_eq_false (show ¬(8≤xs.length∧xs.length≤8192) by omega)];rfl
  rw[e]
  clear e
  go_enter Tryz.func14,Tryz.ntmps14
  go_wp2_with fail
  go_ret3
  exact ⟨_,rfl,Rd_nil,Below.refl _ _⟩
 by_cases h9:(8192:Int) < xs.length
 ·have e:chkF xs=([],false,17):=by unfold chkF chkB;rw[decide_eq_false (show ¬(8≤xs.length∧xs.length≤8192) by omega)];rfl
  rw[e]
  clear e
  go_enter Tryz.func14,Tryz.ntmps14
  go_wp2_with fail
  go_ret3
  exact ⟨_,rfl,Rd_nil,Below.refl _ _⟩
 obtain ⟨va,ra,_,_,ca⟩:=rd_cutI h uB zB 4 xs.length (by omega) (by omega) (by omega)
 have ca':=ca rfl
 rw[show (4:Int).toNat=4 from rfl,List.take_of_length_le (by simp;omega)] at ra
 have cD:=w_rdecint va (xs.drop 4) w w ra (Below.refl _ _) (bytes_drop hb _) (by simp;omega)
 have eD:deIF (xs.drop 4)=(szF xs,(xs.drop 4).drop 4,0):=by unfold deIF;rw[if_neg (by simp;omega)];rfl
 rw[eD] at cD
 simp only at cD
 have hsz:=sz_bd xs hb
 obtain ⟨z0,z1⟩:=hsz
 clear eD ca
 by_cases hs8:szF xs < 8
 ·have e:chkF xs=([],false,17):=by
   have:chkB xs=false:=by unfold chkB;rw[decide_eq_false (show ¬(8≤szF xs∧szF xs≤xs.length) by omega)];simp
   unfold chkF;rw[this];rfl
  rw[e]
  obtain ⟨S,hS⟩:∃S,szF xs=S:=⟨_,rfl⟩
  rw[hS] at cD hs8 z0 z1
  clear e hS
  go_enter Tryz.func14,Tryz.ntmps14
  go_wp2_with (go_at_call 29;refine cD.mono ?_;rintro e w1 ⟨v1,rfl,r1,b1⟩)
  go_ret3
  exact ⟨_,rfl,Rd_nil,b1⟩
 by_cases hsl:(xs.length:Int) < szF xs
 ·have e:chkF xs=([],false,17):=by
   have:chkB xs=false:=by unfold chkB;rw[decide_eq_false (show ¬(8≤szF xs∧szF xs≤xs.length) by omega)];simp
   unfold chkF;rw[this];rfl
  rw[e]
  obtain ⟨S,hS⟩:∃S,szF xs=S:=⟨_,rfl⟩
  rw[hS] at cD hs8 hsl z0 z1
  clear e hS
  go_enter Tryz.func14,Tryz.ntmps14
  go_wp2_with (go_at_call 29;refine cD.mono ?_;rintro e w1 ⟨v1,rfl,r1,b1⟩)
  go_ret3
  exact ⟨_,rfl,Rd_nil,b1⟩
 have hmd:=chk_made xs hb (by omega) (by omega) (by omega) (by omega)
 obtain ⟨vc,rc,cc,_⟩:=rd_cutI h uB zB 8 (szF xs) (by omega) (by omega) (by omega)
 have rc':Rd .u8 w vc (bdF xs):=rc
 obtain ⟨vt,rt,_,ct,_⟩:=rd_cutI h uB zB 0 (szF xs) (by omega) (by omega) (by omega)
 have ct':=ct rfl
 rw[show (0:Int).toNat=0 from rfl,List.drop_zero,show (szF xs - 0).toNat=(szF xs).toNat by omega] at rt
 have hbl:(bdF xs).length≤8184:=by simp only[bdF,List.length_take,List.length_drop];omega
 obtain ⟨ad,b0,q1,q2,q3,q4,q5⟩:=mem_at h hb 0 (by omega) (by omega)
 rw[show (0:Int).toNat=0 from rfl] at q5
 have dq:decide (b0=241)=(b0==241):=by by_cases h:b0=241 <;> simp[h]
 have cM:=fun w (r:Rd .u8 w vc (bdF xs))=>w_rmake14 vc _ (b0==241) w r (bd_bytes xs hb) (by omega)
 have eM:makF (bdF xs) (b0==241)=(hdF (bdF xs) (b0==241)++bdF xs,0):=by unfold makF;rw[if_neg (by omega)]
 rw[eM] at cM
 simp only at cM
 have hck:chkF xs=if chkB xs=true then (bdF xs,(b0==241),0) else ([],false,17):=by unfold chkF;rw[q5,dq]
 rw[hck]
 rw[q5,dq] at hmd
 have hdr:(hdF (bdF xs) (b0==241)++bdF xs).drop 8=bdF xs:=List.drop_left' (hd_len _ _)
 have hOl:(hdF (bdF xs) (b0==241)++bdF xs).length=8+(bdF xs).length:=by rw[List.length_append,hd_len]
 have hOb:bytesL (hdF (bdF xs) (b0==241)++bdF xs):=bytes_app (hd_bytes _ _) (bd_bytes xs hb)
 have hTb:bytesL (xs.take (szF xs).toNat):=bytes_take hb _
 obtain ⟨S,hS⟩:∃S,szF xs=S:=⟨_,rfl⟩
 obtain ⟨B,hB⟩:∃B,bdF xs=B:=⟨_,rfl⟩
 rw[hB] at cM rc' hbl hmd hdr hOl hOb ⊢
 rw[hS] at cD hs8 hsl z0 z1 cc ct' rt hmd hTb
 obtain ⟨O,hO⟩:∃O,hdF B (b0==241)++B=O:=⟨_,rfl⟩
 obtain ⟨T,hT⟩:∃T,xs.take S.toNat=T:=⟨_,rfl⟩
 rw[hO] at cM hmd hdr hOl hOb
 rw[hT] at rt hmd hTb
 have hst:=nums_eq O T hOb hTb
 have HO:=hid hOl
 have HD:=hid hdr
 have HM:=hid hmd
 clear hS hB hO hT hck eM q5 dq rc hmd hdr hOl ct
 by_cases hOT:O=T
 ·have hk:chkB xs=true:=HM.out.1 hOT
  rw[if_pos hk]
  subst hOT
  clear hk HM
  go_enter Tryz.func14,Tryz.ntmps14
  go_wp2_with (first
   |(go_at_call 29;refine cD.mono ?_;rintro e w1 ⟨v1,rfl,r1,b1⟩;have q2':=below_cell b1 q2)
   |(go_at_call 28;refine (cM _ (rc'.below b1)).mono ?_;rintro e w2 ⟨v2,rfl,o2,b2⟩;have r2:=(Rd_own o2).1;have b12:=below_trans b1 b2;have b2d:Below w2.heap.size w2 w2.drew:=below_drewN (Below.refl _ _) 1;have s2:=rd_strT (r2.below b2d);have t2:=rd_strT (rt.below (below_trans b12 b2d));obtain ⟨v5,r5,_,_,c5⟩:=rd_cutI r2 uB zB 8 O.length (by omega) (by have:=HO.out;omega) (by omega);have c5':=c5 rfl;rw[show (8:Int).toNat=8 from rfl,HD.out,List.take_of_length_le (by have:=HO.out;omega)] at r5;clear c5))
  go_region
  go_wp2_with fail
  go_ret3
  exact ⟨v5,rfl,r5.below b2d,below_trans b12 b2d⟩
 ·have hk:¬chkB xs=true:=fun hk=>hOT (HM.out.2 hk)
  rw[if_neg hk]
  have hne:((strOfNums O).toList==(strOfNums T).toList)=false:=by rw[str_beq,decide_eq_false_iff_not,hst];exact hOT
  have hne2:((strOfNums O).toList !=(strOfNums T).toList)=true:=by simp[bne,hne]
  clear hk HM hst hOT
  go_enter Tryz.func14,Tryz.ntmps14
  go_wp2_with (first
   |(go_at_call 29;refine cD.mono ?_;rintro e w1 ⟨v1,rfl,r1,b1⟩;have q2':=below_cell b1 q2)
   |(go_at_call 28;refine (cM _ (rc'.below b1)).mono ?_;rintro e w2 ⟨v2,rfl,o2,b2⟩;have r2:=(Rd_own o2).1;have b12:=below_trans b1 b2;have b2d:Below w2.heap.size w2 w2.drew:=below_drewN (Below.refl _ _) 1;have s2:=rd_strT (r2.below b2d);have t2:=rd_strT (rt.below (below_trans b12 b2d));obtain ⟨v5,r5,_,_,c5⟩:=rd_cutI r2 uB zB 8 O.length (by omega) (by have:=HO.out;omega) (by omega);have c5':=c5 rfl;rw[show (8:Int).toNat=8 from rfl,HD.out,List.take_of_length_le (by have:=HO.out;omega)] at r5;clear c5))
  go_region
  go_wp2_with fail
  go_ret3
  exact ⟨_,rfl,Rd_nil,below_trans b12 b2d⟩
open Go.ChangeShapes Go.WideShapes Go.ChangeAt Go.RowKit Go.Maps
theorem cpg_err (s:ByteArray) (h:¬(cpgF s).2=0):(cpgF s).1=[]∧((cpgF s).2=(tksF s).2∨(tksF s).2=0∧(cpgF s).2=3):=by
 have hrg:=tks_rg s
 unfold cpgF at h ⊢
 generalize tksF s=T at*
 by_cases h2:T.2=0
 ·have ho:=enc_ok T.1 (fun t ht=>((hrg h2).ok t ht).1)
  unfold cplF at h ⊢
  rw[if_neg (fun z=>z h2),ho] at h ⊢
  by_cases hl:8192 < (T.1.flatMap (byQ · true)).length
  ·rw[if_pos hl,if_pos (by decide)]
   exact ⟨rfl,Or.inr ⟨h2,rfl⟩⟩
  ·rw[if_neg hl,if_neg (fun z=>z rfl)] at h ⊢
   unfold makF at h ⊢
   split
   ·exact ⟨rfl,Or.inr ⟨h2,rfl⟩⟩
   ·rename_i hm
    rw[if_neg hm] at h
    exact absurd rfl h
 ·have e:cplF T=([],T.2):=by unfold cplF;rw[if_pos h2]
  rw[e]
  exact ⟨rfl,Or.inl rfl⟩
theorem cpg_ok (s:ByteArray) (h:(cpgF s).2=0):(tksF s).2=0∧RgQ (tksF s).1∧∃B,((B.length:Int)=szL (tksF s).1∧bytesL B∧B.length≤8184)∧(chkF (cpgF s).1=(B,true,0)∧decF B true=((tksF s).1,0))∧bytesL (cpgF s).1∧(cpgF s).1.length≤8192:=by
 have hrg:=tks_rg s
 unfold cpgF at h ⊢
 generalize tksF s=T at*
 by_cases h2:T.2=0
 ·have rg:=hrg h2
  have ho:=enc_ok T.1 (fun t ht=>(rg.ok t ht).1)
  have hb:=flat_byt T.1 (fun t ht=>⟨(rg.ok t ht).1,(rg.ok t ht).2.1⟩)
  have hbk:=back_law T.1 true (fun t ht=>(rg.ok t ht).2.1)
  unfold cplF at h ⊢
  rw[ho] at hbk
  rw[if_neg (fun z=>z h2),ho] at h ⊢
  by_cases hl:8192 < (T.1.flatMap (byQ · true)).length
  ·rw[if_pos hl,if_pos (by decide)] at h
   exact absurd h (by decide)
  ·rw[if_neg hl] at hbk
   rw[if_neg hl,if_neg (fun z=>z rfl)] at h ⊢
   have hf:=flat_sz T.1
   generalize T.1.flatMap (byQ · true)=B at*
   by_cases hm:8184 < B.length
   ·unfold makF at h
    rw[if_pos hm] at h
    exact absurd h (by decide)
   ·have em:makF B true=(hdF B true++B,0):=by unfold makF;rw[if_neg hm]
    refine ⟨h2,rg,B,⟨hf,hb,by omega⟩,⟨?_,hbk rfl⟩,mak_bytes B true hb, ?_⟩
    ·rw[em]
     have:=hback_law B [] true hb (by omega) (by simp;omega)
     rw[List.append_nil] at this
     exact this
    ·rw[em]
     show (hdF B true++B).length≤8192
     rw[List.length_append,hd_len];omega
 ·unfold cplF at h
  rw[if_pos h2] at h
  exact absurd h h2
theorem knF_take (l:List Tq) (k:Nat) (h:k < l.length):knF (l.take (k+1)) 2048=knS (knF (l.take k) 2048) (l.getD k ⟨0,0,[],0⟩):=by
 rw[List.take_add_one,List.getElem?_eq_getElem h,Option.toList_some,knF_snoc,getD_get _ _ h]
theorem ord_at:∀(l:List Tq) (a:Int) (k:Nat),ordF l a→k < l.length→ord1 (knF (l.take k) a) (l.getD k ⟨0,0,[],0⟩)
 |[],_,_,_,h=>by simp at h
 |t::l,a,0,h,_=>h.1
 |t::l,a,k+1,h,hk=>by
  have:=ord_at l (knS a t) k h.2 (by simpa using hk)
  simpa [knF,List.getD_cons_succ] using this
theorem knF_bd:∀(l:List Tq) (a:Int),a≤knF l a∧knF l a≤a+l.length
 |[],a=>by simp[knF]
 |t::l,a=>by
  have:=knF_bd l (knS a t)
  have e:knF (t::l) a=knF l (knS a t):=rfl
  rw[e]
  have h2:a≤knS a t∧knS a t≤a+1:=by unfold knS;split <;> omega
  simp only[List.length_cons]
  omega
theorem uBl:Tryz.prog.underlying 36=some (.slice 4):=by kernel_rfl
theorem eBl:Tryz.prog.elem 36=4:=by kernel_rfl
theorem infoBl:(Tryz.prog.info? 4).map (fun i=>(i.zero,i.size,i.bytes))=some (some (.bool false),1,1):=by kernel_rfl
theorem idx_bl (b n:Nat) (i:Nat) (h:i < n) (w':World):(Instr.indexAt 36 (.slice (some ⟨b,0,none⟩) n n) (.int .i64 (i:Int))).run Tryz.prog w'= .ok (.pointer (some ⟨b,i,none⟩)) w':=by
 have ht:Tryz.prog.underlying 36=some (.slice (Tryz.prog.elem 36)):=by kernel_rfl
 rw[run_indexAt_slice (h:=ht),if_pos ⟨by omega,by omega⟩,eBl,Tryz.sizeOf4]
 simp only[Result.andThen,Int.toNat_natCast,Nat.mul_one]
 congr 3
 unfold Addr.add
 split
 ·rename_i hz;rw[hz]
 ·simp
theorem len_szL:∀l:List Tq,(l.length:Int)≤szL l
 |[]=>by simp[szL]
 |t::l=>by
  have:=len_szL l
  have h:1≤szT t:=by unfold szT byQ cbF;rw[List.length_append];split <;> simp only[List.length_cons,List.length_nil] <;> omega
  simp only[szL,List.map_cons,List.sum_cons,List.length_cons] at this ⊢
  omega
def StR (K n:Nat) (l:List Tq) (k:Nat) (w:World):Prop:=∃f,w.rowIs K 4 n f∧(∀j < k,f (preS l j).toNat= .bool true)∧∀j,∃b,f j= .bool b
theorem StR.below {K n:Nat} {l:List Tq} {k:Nat} {w w':World} (h:StR K n l k w) (g:Below w.heap.size w w'):StR K n l k w':=by
 obtain ⟨f,h1,h2,h3⟩:=h
 exact ⟨f,h1.of_block (g.block _ h1.lt),h2,h3⟩
theorem StR.put {K n:Nat} {l:List Tq} {k p:Nat} {w:World} (h:StR K n l k w) (hp:preS l k=p):StR K n l (k+1) (w.setCell ⟨K,p,none⟩ (.bool true)):=by
 obtain ⟨f,f1,f2,f3⟩:=h
 refine ⟨_,f1.set p (.bool true),fun j hj=> ?_,fun j=> ?_⟩
 ·by_cases e:(preS l j).toNat=p
  ·simp only[e,if_true]
  ·simp only[e,if_false]
   exact f2 j (by
    have:¬j=k:=fun z=>e (by rw[z,hp];rfl)
    omega)
 ·by_cases e:j=p
  ·simp only[e,if_true];exact ⟨true,rfl⟩
  ·simp only[e,if_false];exact f3 j
theorem StR.frz {K n:Nat} {l:List Tq} {k:Nat} {w:World} (h:StR K n l k w) (p:Nat):w.frozen? ⟨K,p,none⟩=false:=by
 obtain ⟨f,f1,f2,f3⟩:=h
 exact f1.frozen p
theorem StR.at_ {K n:Nat} {l:List Tq} {k:Nat} {w:World} (h:StR K n l k w) {p:Nat} (hn:p < n):∃b,w.cell? ⟨K,p,none⟩=some (.bool b):=by
 obtain ⟨f,f1,f2,f3⟩:=h
 obtain ⟨b,hb⟩:=f3 p
 exact ⟨b,by rw[f1.cell hn,hb]⟩
theorem StR.get {K n:Nat} {l:List Tq} {k:Nat} {w:World} (h:StR K n l k w) {j p:Nat} (hj:j < k) (hp:preS l j=p) (hn:p < n):w.cell? ⟨K,p,none⟩=some (.bool true):=by
 obtain ⟨f,f1,f2,f3⟩:=h
 rw[f1.cell hn]
 have:=f2 j hj
 rw[hp,Int.toNat_natCast] at this
 rw[this]
theorem below_setK {B:Nat} {w w':World} (h:Below B w w') (K p:Nat) (v:Value) (hb:B≤K):Below B w (w'.setCell ⟨K,p,none⟩ v):=
 ⟨h.os,h.tape,h.output,by simpa using h.size,fun k hk=>(Below.heap_setCell _ _ _ k (fun e=>by simp only at e;omega)).trans (h.block k hk)⟩
theorem tok_k {l:List Tq} (rg:RgQ l) {w:World} {v:Value} (h:SlR 4 tqR w v l) (k:Nat) (hk:k < l.length):
  ∃(b o:Nat) (C N O:Int) (T:ByteArray),(∀w',(Instr.indexAt 23 v (.int .i64 (k:Int))).run Tryz.prog w'= .ok (.pointer (some ⟨b,o,none⟩)) w')∧w.cell? ⟨b,o,none⟩=some (.int .i64 C)∧w.cell? ⟨b,o+1,none⟩=some (.int .u32 N)∧w.cell? ⟨b,o+2,none⟩=some (.string T)∧w.cell? ⟨b,o+3,none⟩=some (.int .i64 O)∧
   ((l.getD k ⟨0,0,[],0⟩).c=C∧(l.getD k ⟨0,0,[],0⟩).n=N∧(l.getD k ⟨0,0,[],0⟩).o=O)∧(0≤N∧N < 4294967296)∧(-20000≤O∧O≤20000)∧
   ∀w,Calls Tryz.prog 16 #[.agg #[.int .i64 C, .int .u32 N, .string T, .int .i64 O], .bool true] w fun e w'=>e= .returned (.int .i64 (szT (l.getD k ⟨0,0,[],0⟩)))∧Below w.heap.size w w':=by
 obtain ⟨bb,oo,C,N,O,T,ri,e0,e1,e2,e3,hC,hN,hTT,hO⟩:=tq_at h k hk
 have rgk:=rg.ok _ (List.getElem_mem hk)
 have tlk:=rg.tl _ (List.getElem_mem hk)
 have hgd:=getD_get l ⟨0,0,[],0⟩ hk
 obtain ⟨t,ht⟩:∃t,l[k]=t:=⟨_,rfl⟩
 rw[ht] at hC hN hTT hO rgk tlk hgd
 obtain ⟨c,n,tt,o⟩:=t
 simp only at hC hN hTT hO tlk
 subst hC hN hTT hO
 obtain ⟨k1,⟨k2,k3,k4⟩,k5,k6⟩:=rgk
 simp only at k2 k3 k4 k5 k6
 have hL:LB (strOfNums tt)=tt:=LB_nums tt k4
 have hS:(strOfNums tt).size≤maxLen:=by
  have:(LB (strOfNums tt)).length=(strOfNums tt).size:=LB_len _
  rw[hL] at this
  unfold maxLen;omega
 refine ⟨bb,oo,c,n,o,_,ri,e0,e1,e2,e3, ?_,⟨k2,k3⟩,⟨k5,k6⟩,fun w=> ?_⟩
 ·rw[hgd];exact ⟨rfl,rfl,rfl⟩
 ·refine (w_rsize c n o _ true w k2 k3 (by omega) (by omega) hS).mono ?_
  rintro e w' ⟨rfl,b⟩
  refine ⟨?_,b⟩
  rw[hgd,hL]
  unfold sizF szT
  rw[if_pos k1]
set_option maxHeartbeats 4000000 in
set_option maxRecDepth 100000 in
theorem fw_right (s:ByteArray) (w:World) (hs:s.size≤maxLen) (hT:Tab w):Calls Tryz.prog 5 #[.string s] w fun e w'=>e= .returned (.bool true)∧Below w.heap.size w w':=by
 have ca:=fw_alive15 w hT
 have cc:=fun w hT=>fw_compile s w hs hT
 have ct:=fun w hT=>fw_tokensD s w hs hT
 have her:=cpg_err s
 have hok:=cpg_ok s
 unfold CpgQ at cc
 unfold TokD at ct
 obtain ⟨⟨b,e⟩,hC⟩:∃x,cpgF s=x:=⟨_,rfl⟩
 obtain ⟨⟨l,f⟩,hF⟩:∃x,tksF s=x:=⟨_,rfl⟩
 rw[hC] at her hok
 rw[hF] at her hok
 simp only[hC] at cc
 simp only[hF] at ct
 simp only at her hok
 clear hC hF
 by_cases he:e=0
 ·subst he
  obtain ⟨rfl,rg,B,⟨hBs,hBb,hBl⟩,⟨hck,hdc⟩,hbb,hbl⟩:=hok rfl
  clear her hok
  have HBs:=hid hBs
  clear hBs
  have ck:=fun v w h=>w_rcheck14 v b w h hbb (by omega)
  rw[hck] at ck
  have cd:=fun v w h=>w_rdec v B true w h hBb
  rw[hdc] at cd
  simp only at ck cd
  have hg:=fun t ht=>(rg.ok t ht).2.1.2.2
  have cs:=fun va vb w ha hb=>w_r13same va vb l l w ha hb hg hg
  rw[decide_eq_true rfl] at cs
  clear hck hdc
  go_enter Tryz.func5,Tryz.ntmps5
  go_upto_region 9 with (first
   |(go_at_call 7;refine ca.mono ?_;rintro e q1 ⟨rfl,b1⟩)
   |(go_at_call 11;refine (cc _ (hT.below b1)).mono ?_;rintro e q2 ⟨v2,rfl,r2,b2⟩)
   |(go_at_call 8;refine (ct _ ((hT.below b1).below b2)).mono ?_;rintro e q3 ⟨v3,rfl,r3,b3⟩;replace r3:=OwQs.read r3;obtain ⟨va,vc,rfl⟩:=slr_slice r3)
   |(go_at_call 14;refine (ck _ _ (r2.below b3)).mono ?_;rintro e q4 ⟨v4,rfl,r4,b4⟩)
   |(go_at_call 15;refine (cd _ _ r4).mono ?_;rintro e q5 ⟨v5,rfl,r5,b5⟩)
   |fail)
  have hln:=slr_len r3 uQ (P:=Tryz.prog)
  have hl4:=rd_len r4 uB (P:=Tryz.prog)
  have hmx:(l.length:Int)≤12401:=by have:=len_szL l;have:=rg.tot;omega
  have r35:=SlR.below (SlR.below r3 b4 tqR_below) b5 tqR_below
  obtain ⟨vb,vd,rfl⟩:=slr_slice r5
  have hmk:∀w:World,(Instr.makeSlice 36 (.int .i64 ((B.length:Int)+1)) (.int .i64 ((B.length:Int)+1))).run Tryz.prog w= .ok (.slice (some ⟨w.heap.size,0,none⟩) (B.length+1) (B.length+1)) (w.alloc (.cells (madeCells #[.bool false] (B.length+1)) 4)):=
   fun w=>run_make_row' 36 4 (.bool false) 1 uBl infoBl rfl .i64 .i64 (B.length+1) (by omega) (by omega) w
  go_upto_region 11 with (first
   |(go_at_call 10;refine (cs _ _ _ r35 r5).mono ?_;rintro e q6 ⟨rfl,b6⟩)
   |fail)
  have r36:=SlR.below r35 b6 tqR_below
  go_upto_region 14 with fail
  have st0:StR q6.heap.size (B.length+1) l 0 (q6.alloc (.cells (madeCells #[.bool false] (B.length+1)) 4)):=⟨_,World.rowIs_made q6 (.bool false) (B.length+1) 4,fun j hj=>absurd hj (by omega),fun j=>⟨false,rfl⟩⟩
  have bK:Below q6.heap.size q6 (q6.alloc (.cells (madeCells #[.bool false] (B.length+1)) 4)):=box_below q6 _
  obtain ⟨K,hK⟩:∃K,q6.heap.size=K:=⟨_,rfl⟩
  generalize (q6.alloc (.cells (madeCells #[.bool false] (B.length+1)) 4))=W7 at st0 bK ⊢
  rw[hK] at st0 bK ⊢
  have hpb:∀k,preS l k≤B.length:=fun k=>by rw[HBs.out];exact preS_le l k
  go_loopw [13,14] (fun A I wx=>∃k:Nat,k≤l.length∧A= .int .i64 (preS l k)∧I= .int .i64 k∧StR K (B.length+1) l k wx∧Below K q6 wx) (fun _ I _=>(l.length - intOf I).toNat)
  case atStart=>exact ⟨0,by omega,by simp[preS],rfl,st0,bK⟩
  case round=>
   obtain ⟨k,hk,rfl,rfl,st,bw⟩:=hrel
   by_cases hlt:(k:Int) < l.length
   ·have hkl:k < l.length:=by omega
    have hp0:=preS_nn l k
    have hp1:=hpb k
    have hp2:=preS_step l k hkl
    have hp3:=hpb (k+1)
    have hp4:=szT_nn (l.getD k ⟨0,0,[],0⟩)
    obtain ⟨p,hp⟩:∃p:Nat,preS l k=p:=⟨(preS l k).toNat,by omega⟩
    have ix:=idx_bl K (B.length+1) p (by omega)
    have fz:=st.frz p
    obtain ⟨bo,hbo⟩:=st.at_ (p:=p) (by omega)
    have s1:=st.put hp
    have b8:=below_setK bw K p (.bool true) (Nat.le_refl _)
    obtain ⟨bb,oo,C,N,O,T,ri,e0,e1,e2,e3,hx,hN,hO,cz⟩:=tok_k rg (SlR.below r36 (by rw[hK];exact b8) tqR_below) k hkl
    rw[hp] at hp1 hp2 ⊢
    obtain ⟨z,hz⟩:∃z,szT (l.getD k ⟨0,0,[],0⟩)=z:=⟨_,rfl⟩
    simp only[hz] at cz hp4 hp2
    rw[hp2] at hp3
    have HP:=hid hp2
    clear hp2 hp hz hx hp0
    go_upto_region 17 with fail
    generalize (wr.setCell ⟨K,p,none⟩ (.bool true))=W8 at s1 b8 e0 e1 e2 e3 ⊢
    clear hbo fz
    go_wp2_with (go_at_call 16;refine (cz _).mono ?_;rintro e w9 ⟨rfl,b9⟩)
    go_roundw
    case rel=>exact ⟨k+1,by omega,by rw[HP.out],by go_num,s1.below b9,Below.trans b8 (b9.mono (by have:=b8.size;omega))⟩
    case measure=>simp[intOf];omega
   ·have hke:k=l.length:=by omega
    subst hke
    have hp:=preS_all l
    rw[←HBs.out] at hp
    have fz:=st.frz B.length
    obtain ⟨bo,hbo⟩:=st.at_ (p:=B.length) (by omega)
    have s1:=st.put hp
    have b8:=below_setK bw K B.length (.bool true) (Nat.le_refl _)
    have ix:=idx_bl K (B.length+1) B.length (by omega)
    rw[hp]
    clear hp
    go_upto_region 22 with fail
    generalize (wr.setCell ⟨K,B.length,none⟩ (.bool true))=W8 at s1 b8 ⊢
    clear hbo fz ix hlt
    go_loopw [13,15,16] (fun A Q I wx=>∃k:Nat,k≤l.length∧A= .int .i64 (preS l k)∧Q= .int .i64 (knF (l.take k) 2048)∧I= .int .i64 k∧StR K (B.length+1) l (l.length+1) wx∧Below K q6 wx) (fun _ _ I _=>(l.length - intOf I).toNat)
    case atStart=>exact ⟨0,by omega,by simp[preS],by simp[knF],rfl,s1,b8⟩
    case round=>
     clear s1 b8 st bw
     obtain ⟨k,hk,rfl,rfl,rfl,st,bw⟩:=hrel
     by_cases hlt:(k:Int) < l.length
     ·have hkl:k < l.length:=by omega
      have hp0:=preS_nn l k
      have hp1:=hpb k
      have hp2:=preS_step l k hkl
      have hp3:=hpb (k+1)
      have hp5:=preS_nn l (k+1)
      have hp4:=szT_nn (l.getD k ⟨0,0,[],0⟩)
      have hkt:=knF_take l k hkl
      have hkb:=knF_bd (l.take k) 2048
      have hor:=ord_at l 2048 k rg.ord hkl
      have hof:=rg.off k hkl
      have htl:(l.take k).length≤l.length:=by rw[List.length_take];omega
      obtain ⟨bb,oo,C,N,O,T,ri,e0,e1,e2,e3,⟨hx1,hx2,hx3⟩,hN,hO,cz⟩:=tok_k rg (SlR.below r36 (by rw[hK];exact bw) tqR_below) k hkl
      have hef:efC (l.getD k ⟨0,0,[],0⟩)=if C=17∨C=195 then N else C:=by unfold efC;rw[hx1,hx2]
      unfold ord1 at hor
      unfold knS at hkt hor
      rw[hx3] at hof
      rw[hx2] at hor
      rw[hef] at hkt hor hof
      obtain ⟨z,hz⟩:∃z,szT (l.getD k ⟨0,0,[],0⟩)=z:=⟨_,rfl⟩
      simp only[hz] at cz hp4 hp2
      obtain ⟨p,hp⟩:∃p:Nat,preS l k=p:=⟨(preS l k).toNat,by omega⟩
      obtain ⟨P,hP⟩:∃P:Int,preS l (k+1)=P:=⟨_,rfl⟩
      obtain ⟨A,hA⟩:∃A:Int,knF (l.take k) 2048=A:=⟨_,rfl⟩
      rw[hp] at hp1 hp2 ⊢
      rw[hP] at hp2 hp3 hp5 hof
      rw[hA] at hkt hkb hor ⊢
      have hof2:bhF (if C=17∨C=195 then N else C)=4→∃t:Nat,(t:Int)≤B.length∧(p:Int)+z - 2+O=t∧StR K (B.length+1) l (l.length+1) wr∧∀w',StR K (B.length+1) l (l.length+1) w'→w'.cell? ⟨K,t,none⟩=some (.bool true):=fun h4=>by
       obtain ⟨j,hj,hj2⟩:=hof h4
       have q0:=preS_nn l (j+1)
       have q1:=hpb (j+1)
       refine ⟨(preS l (j+1)).toNat,by omega,by omega,st,fun w' h'=>h'.get (j:=j+1) (by omega) (by omega) (by omega)⟩
      have hpz:(p:Int)+z≤B.length:=by omega
      have HP:=hid hP
      have HP2:=hid hp2
      have HKT:=hid hkt
      have hA0:2048≤A:=hkb.1
      have hA1:A≤20000:=by omega
      clear hp2 hp hz hx1 hx2 hx3 hp0 hef hof hkt hP hA hkb htl hp5
      have hsz:K≤wr.heap.size:=by have:=bw.size;omega
      rcases (show C=17∨C=195∨(¬C=17∧¬C=195) by omega) with rfl|rfl|⟨hc1,hc2⟩
      ·simp only[true_or,if_true] at hor HKT hof2
       by_cases h182:N=182
       ·have hn:=hor.1 h182
        exfalso
        omega
       ·have hcE:Hid (¬N=182):=h182
        have hd3:(N==182)=false:=by simpa using h182
        rw[if_neg h182] at hor
        have hor2:=hor.2
        clear hor
        by_cases hb4:bhF N=4
        ·have hsm:N < 2048:=by unfold bhF at hb4;(repeat' split at hb4) <;> omega
         clear hor2 h182
         have cb:=fun w=>w_rbehind N w
         obtain ⟨t,ht0,ht1, -,hg4⟩:=hof2 hb4
         rw[hb4] at cb
         have it:=idx_bl K (B.length+1) t (by omega)
         clear hb4
         go_wp2_with (first|(go_at_call 16;refine (cz _).mono ?_;rintro e w9 ⟨rfl,b9⟩;have f0:=below_cell b9 e0;have f1:=below_cell b9 e1;have f3:=below_cell b9 e3;have s9:=st.below b9;have gt:=hg4 w9 s9)|(go_at_call 17;refine (cb _).mono ?_;rintro e w8 ⟨rfl,hw⟩;obtain rfl:=hw.symm))
         go_roundw
         case rel=>exact ⟨k+1,by omega,by rw[HP.out,HP2.out],by rw[HKT.out,if_neg hcE.out],by go_num,s9,Below.trans bw (b9.mono hsz)⟩
         case measure=>simp[intOf];omega
        ·by_cases hbg:2048≤N
         ·have hlt2:=hor2 hbg
          clear hor2 hof2 h182
          have cb:=fun w=>w_rbehind N w
          obtain ⟨Q,hQ⟩:∃Q:Int,((bhF N:Nat):Int)=Q:=⟨_,rfl⟩
          have hQ4:(Q==4)=false:=by rw[←hQ];simpa using (show ¬((bhF N:Nat):Int)=4 by omega)
          simp only[hQ] at cb
          clear hQ hb4
          go_wp2_with (first|(go_at_call 16;refine (cz _).mono ?_;rintro e w9 ⟨rfl,b9⟩;have f0:=below_cell b9 e0;have f1:=below_cell b9 e1;have f3:=below_cell b9 e3;have s9:=st.below b9)|(go_at_call 17;refine (cb _).mono ?_;rintro e w8 ⟨rfl,hw⟩;obtain rfl:=hw.symm))
          go_roundw
          case rel=>exact ⟨k+1,by omega,by rw[HP.out,HP2.out],by rw[HKT.out,if_neg hcE.out],by go_num,s9,Below.trans bw (b9.mono hsz)⟩
          case measure=>simp[intOf];omega
         ·clear hor2 hof2 h182
          have cb:=fun w=>w_rbehind N w
          obtain ⟨Q,hQ⟩:∃Q:Int,((bhF N:Nat):Int)=Q:=⟨_,rfl⟩
          have hQ4:(Q==4)=false:=by rw[←hQ];simpa using (show ¬((bhF N:Nat):Int)=4 by omega)
          simp only[hQ] at cb
          clear hQ hb4
          go_wp2_with (first|(go_at_call 16;refine (cz _).mono ?_;rintro e w9 ⟨rfl,b9⟩;have f0:=below_cell b9 e0;have f1:=below_cell b9 e1;have f3:=below_cell b9 e3;have s9:=st.below b9)|(go_at_call 17;refine (cb _).mono ?_;rintro e w8 ⟨rfl,hw⟩;obtain rfl:=hw.symm))
          go_roundw
          case rel=>exact ⟨k+1,by omega,by rw[HP.out,HP2.out],by rw[HKT.out,if_neg hcE.out],by go_num,s9,Below.trans bw (b9.mono hsz)⟩
          case measure=>simp[intOf];omega
      ·simp only[or_true,if_true] at hor HKT hof2
       by_cases h182:N=182
       ·have hn:=hor.1 h182
        exfalso
        omega
       ·have hcE:Hid (¬N=182):=h182
        have hd3:(N==182)=false:=by simpa using h182
        rw[if_neg h182] at hor
        have hor2:=hor.2
        clear hor
        by_cases hb4:bhF N=4
        ·have hsm:N < 2048:=by unfold bhF at hb4;(repeat' split at hb4) <;> omega
         clear hor2 h182
         have cb:=fun w=>w_rbehind N w
         obtain ⟨t,ht0,ht1, -,hg4⟩:=hof2 hb4
         rw[hb4] at cb
         have it:=idx_bl K (B.length+1) t (by omega)
         clear hb4
         go_wp2_with (first|(go_at_call 16;refine (cz _).mono ?_;rintro e w9 ⟨rfl,b9⟩;have f0:=below_cell b9 e0;have f1:=below_cell b9 e1;have f3:=below_cell b9 e3;have s9:=st.below b9;have gt:=hg4 w9 s9)|(go_at_call 17;refine (cb _).mono ?_;rintro e w8 ⟨rfl,hw⟩;obtain rfl:=hw.symm))
         go_roundw
         case rel=>exact ⟨k+1,by omega,by rw[HP.out,HP2.out],by rw[HKT.out,if_neg hcE.out],by go_num,s9,Below.trans bw (b9.mono hsz)⟩
         case measure=>simp[intOf];omega
        ·by_cases hbg:2048≤N
         ·have hlt2:=hor2 hbg
          clear hor2 hof2 h182
          have cb:=fun w=>w_rbehind N w
          obtain ⟨Q,hQ⟩:∃Q:Int,((bhF N:Nat):Int)=Q:=⟨_,rfl⟩
          have hQ4:(Q==4)=false:=by rw[←hQ];simpa using (show ¬((bhF N:Nat):Int)=4 by omega)
          simp only[hQ] at cb
          clear hQ hb4
          go_wp2_with (first|(go_at_call 16;refine (cz _).mono ?_;rintro e w9 ⟨rfl,b9⟩;have f0:=below_cell b9 e0;have f1:=below_cell b9 e1;have f3:=below_cell b9 e3;have s9:=st.below b9)|(go_at_call 17;refine (cb _).mono ?_;rintro e w8 ⟨rfl,hw⟩;obtain rfl:=hw.symm))
          go_roundw
          case rel=>exact ⟨k+1,by omega,by rw[HP.out,HP2.out],by rw[HKT.out,if_neg hcE.out],by go_num,s9,Below.trans bw (b9.mono hsz)⟩
          case measure=>simp[intOf];omega
         ·clear hor2 hof2 h182
          have cb:=fun w=>w_rbehind N w
          obtain ⟨Q,hQ⟩:∃Q:Int,((bhF N:Nat):Int)=Q:=⟨_,rfl⟩
          have hQ4:(Q==4)=false:=by rw[←hQ];simpa using (show ¬((bhF N:Nat):Int)=4 by omega)
          simp only[hQ] at cb
          clear hQ hb4
          go_wp2_with (first|(go_at_call 16;refine (cz _).mono ?_;rintro e w9 ⟨rfl,b9⟩;have f0:=below_cell b9 e0;have f1:=below_cell b9 e1;have f3:=below_cell b9 e3;have s9:=st.below b9)|(go_at_call 17;refine (cb _).mono ?_;rintro e w8 ⟨rfl,hw⟩;obtain rfl:=hw.symm))
          go_roundw
          case rel=>exact ⟨k+1,by omega,by rw[HP.out,HP2.out],by rw[HKT.out,if_neg hcE.out],by go_num,s9,Below.trans bw (b9.mono hsz)⟩
          case measure=>simp[intOf];omega
      ·rw[if_neg (show ¬(C=17∨C=195) by omega)] at hor HKT hof2
       have hd1:(C==17)=false:=by simpa using hc1
       have hd2:(C==195)=false:=by simpa using hc2
       clear hc1 hc2
       by_cases h182:C=182
       ·have hn:=hor.1 h182
        subst h182
        have hcE:Hid ((182:Int)=182):=rfl
        have hN2:(N !=A)=false:=by rw[hn];simp
        clear hor hof2 hn
        have cb:=fun w=>w_rbehind 182 w
        rw[show bhF 182=6 from rfl] at cb
        go_wp2_with (first|(go_at_call 16;refine (cz _).mono ?_;rintro e w9 ⟨rfl,b9⟩;have f0:=below_cell b9 e0;have f1:=below_cell b9 e1;have f3:=below_cell b9 e3;have s9:=st.below b9)|(go_at_call 17;refine (cb _).mono ?_;rintro e w8 ⟨rfl,hw⟩;obtain rfl:=hw.symm))
        go_roundw
        case rel=>exact ⟨k+1,by omega,by rw[HP.out,HP2.out],by rw[HKT.out,if_pos hcE.out],by go_num,s9,Below.trans bw (b9.mono hsz)⟩
        case measure=>simp[intOf];omega
       ·have hcE:Hid (¬C=182):=h182
        have hd3:(C==182)=false:=by simpa using h182
        rw[if_neg h182] at hor
        have hor2:=hor.2
        clear hor
        by_cases hb4:bhF C=4
        ·have hsm:C < 2048:=by unfold bhF at hb4;(repeat' split at hb4) <;> omega
         clear hor2 h182
         have cb:=fun w=>w_rbehind C w
         obtain ⟨t,ht0,ht1, -,hg4⟩:=hof2 hb4
         rw[hb4] at cb
         have it:=idx_bl K (B.length+1) t (by omega)
         clear hb4
         go_wp2_with (first|(go_at_call 16;refine (cz _).mono ?_;rintro e w9 ⟨rfl,b9⟩;have f0:=below_cell b9 e0;have f1:=below_cell b9 e1;have f3:=below_cell b9 e3;have s9:=st.below b9;have gt:=hg4 w9 s9)|(go_at_call 17;refine (cb _).mono ?_;rintro e w8 ⟨rfl,hw⟩;obtain rfl:=hw.symm))
         go_roundw
         case rel=>exact ⟨k+1,by omega,by rw[HP.out,HP2.out],by rw[HKT.out,if_neg hcE.out],by go_num,s9,Below.trans bw (b9.mono hsz)⟩
         case measure=>simp[intOf];omega
        ·by_cases hbg:2048≤C
         ·have hlt2:=hor2 hbg
          clear hor2 hof2 h182
          have cb:=fun w=>w_rbehind C w
          obtain ⟨Q,hQ⟩:∃Q:Int,((bhF C:Nat):Int)=Q:=⟨_,rfl⟩
          have hQ4:(Q==4)=false:=by rw[←hQ];simpa using (show ¬((bhF C:Nat):Int)=4 by omega)
          simp only[hQ] at cb
          clear hQ hb4
          go_wp2_with (first|(go_at_call 16;refine (cz _).mono ?_;rintro e w9 ⟨rfl,b9⟩;have f0:=below_cell b9 e0;have f1:=below_cell b9 e1;have f3:=below_cell b9 e3;have s9:=st.below b9)|(go_at_call 17;refine (cb _).mono ?_;rintro e w8 ⟨rfl,hw⟩;obtain rfl:=hw.symm))
          go_roundw
          case rel=>exact ⟨k+1,by omega,by rw[HP.out,HP2.out],by rw[HKT.out,if_neg hcE.out],by go_num,s9,Below.trans bw (b9.mono hsz)⟩
          case measure=>simp[intOf];omega
         ·clear hor2 hof2 h182
          have cb:=fun w=>w_rbehind C w
          obtain ⟨Q,hQ⟩:∃Q:Int,((bhF C:Nat):Int)=Q:=⟨_,rfl⟩
          have hQ4:(Q==4)=false:=by rw[←hQ];simpa using (show ¬((bhF C:Nat):Int)=4 by omega)
          simp only[hQ] at cb
          clear hQ hb4
          go_wp2_with (first|(go_at_call 16;refine (cz _).mono ?_;rintro e w9 ⟨rfl,b9⟩;have f0:=below_cell b9 e0;have f1:=below_cell b9 e1;have f3:=below_cell b9 e3;have s9:=st.below b9)|(go_at_call 17;refine (cb _).mono ?_;rintro e w8 ⟨rfl,hw⟩;obtain rfl:=hw.symm))
          go_roundw
          case rel=>exact ⟨k+1,by omega,by rw[HP.out,HP2.out],by rw[HKT.out,if_neg hcE.out],by go_num,s9,Below.trans bw (b9.mono hsz)⟩
          case measure=>simp[intOf];omega
     ·have hke:k=l.length:=by omega
      subst hke
      obtain ⟨bb,oo,C,N,O,T,ri,e0,e1,e2,e3,⟨hx1,hx2,hx3⟩,hN,hO,cz⟩:=tok_k rg (SlR.below r36 (by rw[hK];exact bw) tqR_below) (l.length - 1) (by have:=rg.len;omega)
      have hl0:(0:Int) < l.length:=by have:=rg.len;omega
      rw[rg.last] at hx1
      subst hx1
      rw[show ((l.length - 1:Nat):Int)=(l.length:Int) - 1 by omega] at ri
      clear hx2 hx3 cz hlt
      go_wp2_with fail
      go_ret
      exact ⟨rfl,below_trans b1 (below_trans b2 (below_trans b3 (below_trans b4 (below_trans b5 (below_trans b6 (by rw[hK];exact bw))))))⟩
 ·obtain ⟨rfl,h2⟩:=her he
  clear hok her
  have hE1:(e !=0)=true:=by simpa using he
  by_cases hef:e=f
  ·subst hef
   clear h2 he
   go_enter Tryz.func5,Tryz.ntmps5
   go_wp2_with (first
    |(go_at_call 7;refine ca.mono ?_;rintro e q1 ⟨rfl,b1⟩)
    |(go_at_call 11;refine (cc _ (hT.below b1)).mono ?_;rintro e q2 ⟨v2,rfl,r2,b2⟩;have hl2:∀ty w',(Builtin.len_ #[29] ty #[v2]).run Tryz.prog w'= .ok (.int .i64 0) w':=rd_len r2 uB (P:=Tryz.prog))
    |(go_at_call 8;refine (ct _ ((hT.below b1).below b2)).mono ?_;rintro e q3 ⟨v3,rfl,r3,b3⟩)
    |fail)
   go_ret
   exact ⟨ret_b (by simp),below_trans b1 (below_trans b2 b3)⟩
  ·obtain ⟨rfl,rfl⟩:=h2.resolve_left hef
   clear hef he h2
   go_enter Tryz.func5,Tryz.ntmps5
   go_wp2_with (first
    |(go_at_call 7;refine ca.mono ?_;rintro e q1 ⟨rfl,b1⟩)
    |(go_at_call 11;refine (cc _ (hT.below b1)).mono ?_;rintro e q2 ⟨v2,rfl,r2,b2⟩;have hl2:∀ty w',(Builtin.len_ #[29] ty #[v2]).run Tryz.prog w'= .ok (.int .i64 0) w':=rd_len r2 uB (P:=Tryz.prog))
    |(go_at_call 8;refine (ct _ ((hT.below b1).below b2)).mono ?_;rintro e q3 ⟨v3,rfl,r3,b3⟩)
    |fail)
   go_ret
   exact ⟨rfl,below_trans b1 (below_trans b2 b3)⟩
open Go
def flatCells:DataW Unit→List Value
 | .lit (.int k n)=>[.int k n]
 | .lit (.bool b)=>[.bool b]
 | .lit (.string l)=>[.string ⟨l.toArray⟩]
 | .agg ds=>ds.attach.flatMap fun ⟨d,_⟩=>flatCells d
 |_=>[]
theorem flat_agg (ds:List (DataW Unit)):flatCells (.agg ds)=ds.flatMap flatCells:=by
 rw[flatCells]
 conv=>rhs;rw[←List.attach_map_subtype_val ds]
 rw[List.flatMap_map]
def contB (P:Program):List Field→Nat→Nat→Bool
 |[],o,e=>o==e
 |f::fs,o,e=>f.offset==o&&contB P fs (o+P.cellsOf f.type) e
theorem contB_le (P:Program):∀(fs:List Field) (o e:Nat),contB P fs o e=true→o≤e
 |[],o,e,h=>by simp[contB] at h;omega
 |f::fs,o,e,h=>by
  simp[contB] at h
  have:=contB_le P fs _ e h.2
  omega
def flatB (P:Program):Nat→TypeId→Bool
 |0,_=>false
 |m+1,t=>match P.underlying t with
  |some .bool=>true
  |some (.int _)=>true
  |some .string=>true
  |some (.struct fs)=>contB P fs.toList 0 (P.cellsOf t)&&fs.toList.all fun f=>flatB P m f.type
  |some (.array n e)=>P.cellsOf t==n*P.cellsOf e&&flatB P m e
  |_=>false
theorem flat_fields {P:Program} (cs:List Value) (g:TypeId→List Value→Option (DataW Unit×List MemPlace)):
  ∀(fs:List Field) (o e:Nat) (xs:List (DataW Unit×List MemPlace)),contB P fs o e=true→e≤cs.length→
   (∀f∈fs,∀l d p,g f.type l=some (d,p)→l=flatCells d)→
   fs.mapM (fun f=>g f.type ((cs.drop f.offset).take (P.cellsOf f.type)))=some xs→(cs.drop o).take (e - o)=(xs.map (·.1)).flatMap flatCells
 |[],o,e,xs,hc,he,hf,hm=>by
  simp[contB] at hc
  subst hc
  simp at hm
  subst hm
  simp
 |f::fs,o,e,xs,hc,he,hf,hm=>by
  simp only[List.mapM_cons,Option.bind_eq_bind,Option.bind_eq_some_iff,Option.pure_def,Option.some.injEq] at hm
  obtain ⟨⟨d,p⟩,hd,r,hr,rfl⟩:=hm
  simp[contB] at hc
  obtain ⟨ho,hc⟩:=hc
  have hle:=contB_le P fs _ e hc
  have ih:=flat_fields cs g fs _ e r hc he (fun f' h'=>hf f' (List.mem_cons_of_mem _ h')) hr
  have h1:=hf f (List.mem_cons_self ..) _ _ _ hd
  rw[ho] at h1
  simp only[List.map_cons,List.flatMap_cons]
  rw[←h1,←ih,show e - o=P.cellsOf f.type+(e - (o+P.cellsOf f.type)) by omega,List.take_add,List.drop_drop]
theorem flat_rows {P:Program} (cs:List Value) (c:Nat) (g:List Value→Option (DataW Unit×List MemPlace)) (hg:∀l d p,g l=some (d,p)→l=flatCells d):
  ∀(m s:Nat) (xs:List (DataW Unit×List MemPlace)),(List.range' s m).mapM (fun i=>g ((cs.drop (i*c)).take c))=some xs→(cs.drop (s*c)).take (m*c)=(xs.map (·.1)).flatMap flatCells
 |0,s,xs,hm=>by
  simp at hm
  subst hm
  simp
 |m+1,s,xs,hm=>by
  rw[List.range'_succ] at hm
  simp only[List.mapM_cons,Option.bind_eq_bind,Option.bind_eq_some_iff,Option.pure_def,Option.some.injEq] at hm
  obtain ⟨⟨d,p⟩,hd,r,hr,rfl⟩:=hm
  have ih:=flat_rows (P:=P) cs c g hg m (s+1) r hr
  have h1:=hg _ _ _ hd
  simp only[List.map_cons,List.flatMap_cons]
  rw[←h1,←ih,Nat.succ_mul,Nat.add_comm (m*c) c,List.take_add,List.drop_drop,Nat.succ_mul]
theorem flat_of_trod {enc:TypeId×Value→Unit} {P:Program} {w:World} {base:Nat} {sp:Nat→Bool} {held:Bool}:∀(m fuel:Nat) (t:TypeId) (cs:List Value) (d:DataW Unit) (p:List MemPlace),flatB P m t=true→
  DataW.trod enc P w base sp held fuel t cs=some (d,p)→cs=flatCells d
 |0,_,_,_,_,_,hf,_=>by simp[flatB] at hf
 |m+1,0,_,_,_,_,_,h=>by simp[DataW.trod] at h
 |m+1,fuel+1,t,cs,d,p,hf,h=>by
  unfold flatB at hf
  cases hu:P.underlying t with
  |none=>rw[hu] at hf;simp at hf
  |some u=>
   rw[hu] at hf
   cases u <;> simp only[] at hf
   case bool=>
    obtain ⟨z,hc,hx⟩:=DataW.trod_bool hu h
    obtain ⟨rfl,_⟩:=Prod.mk.inj hx
    simp[hc,flatCells]
   case int k=>
    obtain ⟨z,hc,hx,_⟩:=DataW.trod_int hu h
    obtain ⟨rfl,_⟩:=Prod.mk.inj hx
    simp[hc,flatCells]
   case string=>
    obtain ⟨z,hc,hx,_⟩:=DataW.trod_string hu h
    obtain ⟨rfl,_⟩:=Prod.mk.inj hx
    simp[hc,flatCells]
   case struct fs=>
    simp only[DataW.trod,hu] at h
    split at h
    ·rename_i hl
     obtain ⟨xs,hm,hx⟩:=Option.map_eq_some_iff.1 h
     rw[Bool.and_eq_true] at hf
     obtain ⟨rfl,_⟩: .agg (xs.map (·.1))=d∧_:=by simpa using hx
     rw[flat_agg]
     have:=flat_fields (P:=P) cs (fun t l=>DataW.trod enc P w base sp held fuel t l) fs.toList 0 (P.cellsOf t) xs hf.1 (by omega) (fun f hf' l d p hd=>flat_of_trod m fuel f.type l d p (List.all_eq_true.1 hf.2 f hf') hd) hm
     rw[←this,List.drop_zero,Nat.sub_zero,List.take_of_length_le (by omega)]
    ·cases h
   case array n e=>
    simp only[DataW.trod,hu] at h
    split at h
    ·rename_i hl
     obtain ⟨xs,hm,hx⟩:=Option.map_eq_some_iff.1 h
     rw[Bool.and_eq_true,beq_iff_eq] at hf
     obtain ⟨rfl,_⟩: .agg (xs.map (·.1))=d∧_:=by simpa using hx
     rw[flat_agg]
     rw[List.range_eq_range'] at hm
     have:=flat_rows (P:=P) cs (P.cellsOf e) (fun l=>DataW.trod enc P w base sp held fuel e l) (fun l d p hd=>flat_of_trod m fuel e l d p hf.2 hd) n 0 xs hm
     rw[←this,Nat.zero_mul,List.drop_zero,List.take_of_length_le (by omega)]
    ·cases h
   all_goals exact absurd hf (by decide)
theorem flat_laid {P:Program} {W:World} {name:String} {d:DataW Unit} {rest:List (String×DataW Unit)} {g:Nat} {t:TypeId} (m:Nat) (hg:P.globalNamed name=some g) (hty:(P.globals[g]?).map (·.type)=some t) (hf:flatB P m t=true)
  (h:laidMet P ((name,d)::rest) W):∀j v,(flatCells d)[j]? =some v→W.cell? ⟨g,j,none⟩=some v:=by
 obtain ⟨ps,⟨g',t',cs,fuel,p,q,hg',ht',hvar,hd,_,_⟩,_⟩:=h
 obtain rfl:=Option.some.inj (hg.symm.trans hg')
 obtain rfl:=Option.some.inj (hty.symm.trans ht')
 have e:=flat_of_trod m fuel t cs.toList d p hf hd
 intro j v hv
 rw[World.var?_cell hg hvar j,←Array.getElem?_toList,e,hv]
theorem g64 : Tryz.prog.globalNamed "math/bits.deBruijn64tab" = some 5 := by kernel_rfl
theorem g64T:(Tryz.prog.globals[5]?).map (·.type)=some 206:=by kernel_rfl
theorem g64F:flatB Tryz.prog 4 206=true:=by kernel_rfl
theorem gES : Tryz.prog.globalNamed "strconv.ErrSyntax" = some 1 := by kernel_rfl
theorem gEST:(Tryz.prog.globals[1]?).map (·.type)=some 154:=by kernel_rfl
theorem cellsE:Tryz.prog.cellsOf 193=1:=by kernel_rfl
theorem cellsS:Tryz.prog.cellsOf 9=1:=by kernel_rfl
theorem star : "*" ++ "errors.errorString" = "*errors.errorString" := by decide
theorem rowE (u : TypeId) (h : Tryz.prog.typeName? 3 u = some "*errors.errorString") : u = 191 :=
 typeName_ptr_named (nm := "errors.errorString") (by rw [star]; kernel_rfl) (by kernel_rfl) (by decide) u (by rw [star]; exact h)
theorem tab_of_laid {W : World} (h : laidMetH Tryz.prog [("math/bits.deBruijn32tab", Rows.laid_math_bits_deBruijn32tab), ("math/bits.deBruijn64tab", Rows.laid_math_bits_deBruijn64tab), ("internal/strconv.uint64pow10", Rows.laid_internal_strconv_uint64pow10), ("strconv.ErrRange", Rows.laid_strconv_ErrRange), ("strconv.ErrSyntax", Rows.laid_strconv_ErrSyntax)] W) : Tab W := by
 have h : laidMet Tryz.prog [("math/bits.deBruijn32tab", Rows.laid_math_bits_deBruijn32tab), ("math/bits.deBruijn64tab", Rows.laid_math_bits_deBruijn64tab), ("internal/strconv.uint64pow10", Rows.laid_internal_strconv_uint64pow10), ("strconv.ErrRange", Rows.laid_strconv_ErrRange), ("strconv.ErrSyntax", Rows.laid_strconv_ErrSyntax)] W := h
 have h1:=flat_laid 4 g64 g64T g64F h.tail 15 (.int .u8 4) (by simp[Rows.laid_math_bits_deBruijn64tab,flat_agg,flatCells])
 obtain ⟨a0,s0,hv0, -, -, -⟩:=laid_sentinel h.tail.tail.tail.tail gES gEST Tryz.underlying154 rowE Tryz.underlying191 Tryz.underlying193 rfl rfl Tryz.underlying9 cellsE cellsS
 exact ⟨⟨_,_,by have h0:=World.var?_cell gES hv0 0;simpa using h0⟩,h1⟩
def laidObjs:Array Obj:=#[.cells #[.string ⟨#[118,97,108,117,101,32,111,117,116,32,111,102,32,114,97,110,103,101]⟩] 193, .cells #[.string ⟨#[105,110,118,97,108,105,100,32,115,121,110,116,97,120]⟩] 193]
noncomputable def low:Nat:=(World.holding Tryz.prog default ⟨#[],#[],[]⟩).heap.size
noncomputable def laidBlocks:List (Nat×Array Value):=
 [(4,(([0,1,28,2,29,14,24,3,30,22,20,15,25,17,4,8,31,27,13,23,21,19,16,7,26,12,18,6,11,5,10,9]:List Int).map (Value.int .u8)).toArray),(5,(([0,1,56,2,57,49,28,3,61,58,42,50,38,29,17,4,62,47,59,36,45,43,51,22,53,39,33,30,24,18,12,5,63,55,48,27,60,41,37,16,46,35,44,21,52,32,23,11,54,26,40,15,34,20,31,10,25,14,19,9,13,8,7,6]:List Int).map (Value.int .u8)).toArray),(3,(([1,10,100,1000,10000,100000,1000000,10000000,100000000,1000000000,10000000000,100000000000,1000000000000,10000000000000,100000000000000,1000000000000000,10000000000000000,100000000000000000,1000000000000000000,10000000000000000000]:List Int).map (Value.int .u64)).toArray),
  (2,#[.iface 191 (.pointer (some ⟨low,0,none⟩))]),(1,#[.iface 191 (.pointer (some ⟨low+1,0,none⟩))])]
end Go.Proofs.YtkkehbdahniiaaaGreatDoor
