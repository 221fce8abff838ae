import Derived.Deep.RegionHeld
import Derived.Deep.Cut
import Derived.Deep.CutRange
import Derived.Deep.DeepCutAuto
import Derived.Test.YtlokhciaaepenaaGreatDoorB12
set_option linter.unusedVariables false
set_option linter.unusedSimpArgs false
set_option maxRecDepth 100000
namespace Go.Proofs.YtlokhciaaepenaaGreatDoor
open Go.ChangeShapes Go.WideShapes Go.ChangeAt Go.RowKit
theorem infoNode:(Tryz.prog.info? 51).map (fun i=>(i.zero,i.size,i.bytes))=some (some (.agg #[.string ⟨#[]⟩, .slice none 0 0, .int .i64 0, .slice none 0 0, .slice none 0 0]),5,96):=by kernel_rfl
theorem infoProp:(Tryz.prog.info? 92).map (fun i=>(i.zero,i.size,i.bytes))=some (some (.agg #[.string ⟨#[]⟩, .slice none 0 0]),2,40):=by kernel_rfl
def SepR (rows:List (List Value)):Prop:=∀i j g,i < j→j < rows.length→((rows.getD i []).getD 3 (.slice none 0 0)).ownBlock=some g→((rows.getD j []).getD 3 (.slice none 0 0)).ownBlock≠some g
def OwnTS (base:Nat) (w:World) (v:Value) (t:List Nd):Prop:=∃rows:List (List Value),rows.length=t.length∧(∀r∈rows,r.length=5)∧w.ownsRow base 51 5 v t.length rows.flatten∧(∀i (h:i < t.length),nodO base w (rows.getD i []) t[i])∧SepR rows
theorem OwnTS.own {base:Nat} {w:World} {v:Value} {t:List Nd} (h:OwnTS base w v t):OwnT8 base w v t:=by
 obtain ⟨rows,h1,h2,h3,h4,_⟩:=h
 exact ⟨rows,h1,h2,h3,h4⟩
theorem OwnTS.nil (base:Nat) (w:World):OwnTS base w (.slice none 0 0) []:=⟨[],rfl,by simp,World.ownsRow_nil _ _ _ _,fun i hi=>by simp at hi,fun i j g h1 h2=>by simp at h2⟩
theorem OwnTS.below {base:Nat} {w w':World} {v:Value} {t:List Nd} (h:OwnTS base w v t) (g:Below w.heap.size w w'):OwnTS base w' v t:=by
 obtain ⟨rows,h1,h2,h3,h4,h5⟩:=h
 exact ⟨rows,h1,h2,own_kept (T:=5) (Kept.below g) (by decide) h3,fun i hi=>nodO_below g _ _ (h4 i hi),h5⟩
theorem OwnTS.le {b b':Nat} {w:World} {v:Value} {t:List Nd} (hb:b≤b') (h:OwnTS b' w v t):OwnTS b w v t:=by
 obtain ⟨rows,h1,h2,h3,h4,h5⟩:=h
 exact ⟨rows,h1,h2,own_le hb h3,fun i hi=>nodO_le hb _ _ (h4 i hi),h5⟩
theorem sep_snoc {rows:List (List Value)} {row:List Value} (h:SepR rows) (hn:∀i g,i < rows.length→((rows.getD i []).getD 3 (.slice none 0 0)).ownBlock=some g→(row.getD 3 (.slice none 0 0)).ownBlock≠some g):SepR (rows++[row]):=by
 intro i j g hij hj hi
 have hlen:(rows++[row]).length=rows.length+1:=by simp
 have ei:(rows++[row]).getD i []=rows.getD i []:=by
  rw[List.getD_eq_getElem?_getD,List.getD_eq_getElem?_getD,List.getElem?_append_left (by omega)]
 rw[ei] at hi
 by_cases hlt:j < rows.length
 ·have ej:(rows++[row]).getD j []=rows.getD j []:=by
   rw[List.getD_eq_getElem?_getD,List.getD_eq_getElem?_getD,List.getElem?_append_left hlt]
  rw[ej]
  exact h i j g hij hlt hi
 ·have hj2:j=rows.length:=by omega
  subst hj2
  have ej:(rows++[row]).getD rows.length []=row:=by
   rw[List.getD_eq_getElem?_getD,List.getElem?_append_right (Nat.le_refl _)]
   simp
  rw[ej]
  exact hn i g hij hi
theorem OwnTS.snoc {base:Nat} {w w':World} {U v':Value} {xs:List Nd} {x:Nd} {row:List Value} {rows:List (List Value)} (h1:rows.length=xs.length) (h2:∀r∈rows,r.length=5) (h3:w.ownsRow base 51 5 U xs.length rows.flatten) (h4:∀i (h:i < xs.length),nodO base w (rows.getD i []) xs[i])
  (h5:SepR (rows++[row])) (hr:row.length=5) (hx:nodO base w row x) (o:w'.ownsRow base 51 5 v' (xs.length+1) (rows.flatten++row)) (g:w.grownBy w' U.ownBlock):OwnTS base w' v' (xs++[x]):=by
 have k:=Kept.own h3 g
 have ha:Apt 51 (nodO base):=nodO_apt (by decide) (by decide) (by decide)
 refine ⟨rows++[row],by simp[h1],fun r hm=> ?_,by simpa using o,fun i hi=> ?_,h5⟩
 ·rcases List.mem_append.1 hm with hm|hm
  ·exact h2 r hm
  ·simp at hm;subst hm;exact hr
 ·by_cases hlt:i < xs.length
  ·rw[List.getD_eq_getElem?_getD,List.getElem?_append_left (by omega),List.getElem_append_left hlt,←List.getD_eq_getElem?_getD]
   exact ha _ _ _ _ k (h4 i hlt)
  ·have hi2:i=xs.length:=by simp at hi;omega
   subst hi2
   rw[List.getD_eq_getElem?_getD,List.getElem?_append_right (by omega),h1]
   simp
   exact ha _ _ _ _ k hx
theorem one5 (nm:ByteArray) (a:Option Addr) (l c:Nat) (p:Int) (a2:Option Addr) (l2 c2:Nat) (a3:Option Addr) (l3 c3:Nat):∀r∈[[Value.string nm, .slice a l c, .int .i64 p, .slice a2 l2 c2, .slice a3 l3 c3]],∀u∈r,u.oneCell'=true:=by
 intro r hr u hu
 simp at hr
 subst hr
 simp at hu
 rcases hu with rfl|rfl|rfl|rfl|rfl <;> rfl
theorem one2 (pn:ByteArray) (a:Option Addr) (l c:Nat):∀r∈[[Value.string pn, .slice a l c]],∀u∈r,u.oneCell'=true:=by
 intro r hr u hu
 simp at hr
 subst hr
 simp at hu
 rcases hu with rfl|rfl <;> rfl
set_option maxHeartbeats 4000000 in
set_option maxRecDepth 100000 in
theorem w_r8copy (v:Value) (t:List Nd) (w:World) (h:RdT w v t) (hz:t.length*96≤140737488355328) (hs:∀x∈t,sizN x):
  Calls Tryz.prog 50 #[v] w fun e w'=>∃v1,e= .returned v1∧OwnTS w.heap.size w' v1 t∧Below w.heap.size w w':=by
 have hla:=slr_len h uN (P:=Tryz.prog)
 obtain ⟨i0,hi0,hz0,hz1,hz2⟩:=info_parts infoNode
 obtain ⟨i9,hi9,hz9,hz8,hz7⟩:=info_parts infoProp
 go_enter Tryz.func50,Tryz.ntmps50
 go_wp2_with fail
 go_loopw [3,4] (fun U I wx=>∃(i:Nat),(i:Int)≤t.length∧I= .int .i64 i∧OwnTS w.heap.size wx U (t.take i)∧Below w.heap.size w wx) (fun _ I _=>(t.length - intOf I).toNat)
 case atStart=>exact ⟨0,by omega,rfl,OwnTS.nil _ _,Below.refl _ _⟩
 case round=>
  obtain ⟨i,hi,rfl,ho,hb⟩:=hrel
  by_cases hlt:(i:Int) < t.length
  ·have hil:i < t.length:=by omega
   obtain ⟨b1,o1,nm,u1,p1,c1,r1,f0,f1,f2,f3,f4,e1,hu1,hp1,hc1⟩:=nod_at h i hil
   obtain ⟨ua,uq,rfl⟩:=rd_slice hu1
   obtain ⟨pa,pq,rfl⟩:=slr_slice hp1
   obtain ⟨ca,cq,rfl⟩:=rd_slice hc1
   obtain ⟨s1,s2,s3,s4⟩:=hs _ (List.getElem_mem hil)
   obtain ⟨P,hP⟩:∃P,t[i].2.2.1=P:=⟨_,rfl⟩
   rw[hP] at f2
   have l0:=below_cell hb f0
   have l1:=below_cell hb f1
   have l2:=below_cell hb f2
   have l3:=below_cell hb f3
   have l4:=below_cell hb f4
   have cu:=fun W (g:Below w.heap.size w W)=>w_r3copy _ _ W (hu1.below g) (by unfold maxLen;omega) s1
   have cc:=fun W (g:Below w.heap.size w W)=>w_r3copy _ _ W (hc1.below g) (by unfold maxLen;omega) s2
   go_upto_region 5 with fail
   go_cut [5] (fun S wx=>∃(B:Nat) (vU vC:Value),S= .pointer (some ⟨B,0,none⟩)∧wr.heap.size≤B∧Stands wx B #[.string nm,vU, .int .i64 P, .slice none 0 0,vC] 51∧wx.ownsRow wr.heap.size 26 1 vU t[i].2.1.length (t[i].2.1.map (Value.int .u32))∧wx.ownsRow wr.heap.size 26 1 vC t[i].2.2.2.2.length (t[i].2.2.2.2.map (Value.int .u32))∧Below wr.heap.size wr wx)
   case first=>
    have HB:=hid hb
    have CU:=hid cu
    have CC:=hid cc
    have HS:Hid (∀W,Below wr.heap.size wr W→W.cell? ⟨b1,o1,none⟩=some (.string nm)∧W.cell? ⟨b1,o1+1,none⟩=some (.slice ua t[i].2.1.length uq)∧W.cell? ⟨b1,o1+2,none⟩=some (.int .i64 P)∧W.cell? ⟨b1,o1+4,none⟩=some (.slice ca t[i].2.2.2.2.length cq)):=fun W g=>⟨below_cell g l0,below_cell g l1,below_cell g l2,below_cell g l4⟩
    have hbd:Hid (Below w.heap.size w wr.drew):=below_drewN hb 1
    have hbdA:Hid (Below w.heap.size w (wr.drew.alloc (.cells #[.string ⟨#[]⟩, .slice none 0 0, .int .i64 0, .slice none 0 0, .slice none 0 0] 51))):=hbd.out.alloc hbd.out.size (.cells #[.string ⟨#[]⟩, .slice none 0 0, .int .i64 0, .slice none 0 0, .slice none 0 0] 51)
    have hbdD:Hid (Below w.heap.size w (wr.alloc (.cells #[.string ⟨#[]⟩, .slice none 0 0, .int .i64 0, .slice none 0 0, .slice none 0 0] 51)).drew):=below_drewN (hb.alloc hb.size (.cells #[.string ⟨#[]⟩, .slice none 0 0, .int .i64 0, .slice none 0 0, .slice none 0 0] 51)) 1
    have hrdD:Hid (Below wr.heap.size wr (wr.alloc (.cells #[.string ⟨#[]⟩, .slice none 0 0, .int .i64 0, .slice none 0 0, .slice none 0 0] 51)).drew):=below_drewN ((Below.refl _ wr).alloc (Nat.le_refl _) (.cells #[.string ⟨#[]⟩, .slice none 0 0, .int .i64 0, .slice none 0 0, .slice none 0 0] 51)) 1
    have stD:Hid (Stands (wr.alloc (.cells #[.string ⟨#[]⟩, .slice none 0 0, .int .i64 0, .slice none 0 0, .slice none 0 0] 51)).drew wr.heap.size #[.string ⟨#[]⟩, .slice none 0 0, .int .i64 0, .slice none 0 0, .slice none 0 0] 51):=stands_new wr #[.string ⟨#[]⟩, .slice none 0 0, .int .i64 0, .slice none 0 0, .slice none 0 0] 51
    have hrd:Hid (Below wr.heap.size wr wr.drew):=below_drewN (Below.refl _ _) 1
    have hrdA:Hid (Below wr.heap.size wr (wr.drew.alloc (.cells #[.string ⟨#[]⟩, .slice none 0 0, .int .i64 0, .slice none 0 0, .slice none 0 0] 51))):=hrd.out.alloc hrd.out.size (.cells #[.string ⟨#[]⟩, .slice none 0 0, .int .i64 0, .slice none 0 0, .slice none 0 0] 51)
    clear hb cu cc f0 f1 f2 f3 f4 l0 l1 l2 l3 l4 hla hi0 hz0 hz1 hz2 hi9 hz9 hz8 hz7 ho hs h hz hu1 hp1 hc1 s1 s2 s3 s4 e1 hP hi
    go_region_held (fun W=>W.cell? ⟨b1,o1,none⟩=some (.string nm)∧W.cell? ⟨b1,o1+1,none⟩=some (.slice ua t[i].2.1.length uq)∧W.cell? ⟨b1,o1+2,none⟩=some (.int .i64 P)∧W.cell? ⟨b1,o1+4,none⟩=some (.slice ca t[i].2.2.2.2.length cq)) (exact HS.out _ (by first|with_reducible exact hrd.out|with_reducible exact hrdA.out|with_reducible exact hrdD.out|with_reducible exact RU.out|with_reducible exact RC.out|with_reducible exact RU.out.alloc RU.out.size _|with_reducible exact RC.out.alloc RC.out.size _|with_reducible exact below_set (below_set (below_set (below_set (below_set RU.out _ _ _ (by first|with_reducible exact Nat.le_refl _|with_reducible exact RU.out.size|with_reducible exact RC.out.size)) _ _ _ (by first|with_reducible exact Nat.le_refl _|with_reducible exact RU.out.size|with_reducible exact RC.out.size)) _ _ _ (by first|with_reducible exact Nat.le_refl _|with_reducible exact RU.out.size|with_reducible exact RC.out.size)) _ _ _ (by first|with_reducible exact Nat.le_refl _|with_reducible exact RU.out.size|with_reducible exact RC.out.size)) _ _ _ (by first|with_reducible exact Nat.le_refl _|with_reducible exact RU.out.size|with_reducible exact RC.out.size)|with_reducible exact below_set (below_set (below_set (below_set (below_set RC.out _ _ _ (by first|with_reducible exact Nat.le_refl _|with_reducible exact RU.out.size|with_reducible exact RC.out.size)) _ _ _ (by first|with_reducible exact Nat.le_refl _|with_reducible exact RU.out.size|with_reducible exact RC.out.size)) _ _ _ (by first|with_reducible exact Nat.le_refl _|with_reducible exact RU.out.size|with_reducible exact RC.out.size)) _ _ _ (by first|with_reducible exact Nat.le_refl _|with_reducible exact RU.out.size|with_reducible exact RC.out.size)) _ _ _ (by first|with_reducible exact Nat.le_refl _|with_reducible exact RU.out.size|with_reducible exact RC.out.size))) (first
     |(go_at_call_of 51 ua;refine (CU.out _ (by first|with_reducible exact hbd.out|with_reducible exact hbdA.out|with_reducible exact hbdD.out|with_reducible exact BC.out|with_reducible exact BC.out.alloc BC.out.size _)).mono ?_;rintro e qU ⟨vU,rfl,oU,bU'⟩;obtain ⟨uo,ucap,rfl⟩:=own_form oU;have RU:Hid (Below wr.heap.size wr qU):=below_trans (by first|with_reducible exact hrd.out|with_reducible exact hrdA.out|with_reducible exact hrdD.out|with_reducible exact RC.out|with_reducible exact RC.out.alloc RC.out.size _) bU';have BU:Hid (Below w.heap.size w qU):=below_trans HB.out RU.out;(try (have stU:Stands qU _ #[.string ⟨#[]⟩, .slice none 0 0, .int .i64 0, .slice none 0 0, .slice none 0 0] 51:=(by first|with_reducible exact stC.below bU'|with_reducible exact (stands_new _ _ _).below bU'|with_reducible exact stD.out.below bU');have z0:=stU.cell 0 _ rfl;have z1:=stU.cell 1 _ rfl;have z2:=stU.cell 2 _ rfl;have z3:=stU.cell 3 _ rfl;have z4:=stU.cell 4 _ rfl;have z5:=stU.free));have OU:=hid (own_le (b:=wr.heap.size) (by first|with_reducible exact hrd.out.size|with_reducible exact hrdA.out.size|with_reducible exact hrdD.out.size|with_reducible exact RC.out.size|with_reducible exact (RC.out.alloc RC.out.size _).size) oU);have HU:=hid bU';clear oU bU')
     |(go_at_call_of 51 ca;refine (CC.out _ (by first|with_reducible exact hbd.out|with_reducible exact hbdA.out|with_reducible exact hbdD.out|with_reducible exact BU.out|with_reducible exact BU.out.alloc BU.out.size _)).mono ?_;rintro e qC ⟨vC,rfl,oC,bC'⟩;obtain ⟨co,ccap,rfl⟩:=own_form oC;have RC:Hid (Below wr.heap.size wr qC):=below_trans (by first|with_reducible exact hrd.out|with_reducible exact hrdA.out|with_reducible exact hrdD.out|with_reducible exact RU.out|with_reducible exact RU.out.alloc RU.out.size _) bC';have BC:Hid (Below w.heap.size w qC):=below_trans HB.out RC.out;(try (have stC:Stands qC _ #[.string ⟨#[]⟩, .slice none 0 0, .int .i64 0, .slice none 0 0, .slice none 0 0] 51:=(by first|with_reducible exact stU.below bC'|with_reducible exact (stands_new _ _ _).below bC'|with_reducible exact stD.out.below bC');have z0:=stC.cell 0 _ rfl;have z1:=stC.cell 1 _ rfl;have z2:=stC.cell 2 _ rfl;have z3:=stC.cell 3 _ rfl;have z4:=stC.cell 4 _ rfl;have z5:=stC.free));have OC:=hid (own_le (b:=wr.heap.size) (by first|with_reducible exact hrd.out.size|with_reducible exact hrdA.out.size|with_reducible exact hrdD.out.size|with_reducible exact RU.out.size|with_reducible exact (RU.out.alloc RU.out.size _).size) oC);have HC:=hid bC';clear oC bC'))
    all_goals go_wp2_with fail
    ·go_meet
     case rel=>exact ⟨qC.heap.size,_,_,rfl,RC.out.size,stands_new qC _ _,World.ownsRow.alloc (own_below OU.out HC.out) _,World.ownsRow.alloc OC.out _,RC.out.alloc RC.out.size _⟩
    ·obtain ⟨k1,k2⟩:=set5 stC (.string nm) (.slice uo t[i].2.1.length ucap) (.int .i64 P) (.slice none 0 0) (.slice co t[i].2.2.2.2.length ccap)
     have K1:=hid k1
     have K2:=hid (k2 (by decide) (own_below (World.ownsRow.alloc OU.out _) HC.out))
     have K3:=hid (k2 (by decide) OC.out)
     have K4:Hid (Below wr.heap.size wr _):=below_set (below_set (below_set (below_set (below_set RC.out qU.heap.size 0 (.string nm) RU.out.size) qU.heap.size 1 (.slice uo t[i].2.1.length ucap) RU.out.size) qU.heap.size 2 (.int .i64 P) RU.out.size) qU.heap.size 3 (.slice none 0 0) RU.out.size) qU.heap.size 4 (.slice co t[i].2.2.2.2.length ccap) RU.out.size
     clear k1 k2
     go_meet
     case rel=>exact ⟨qU.heap.size,_,_,rfl,RU.out.size,K1.out,K2.out,K3.out,K4.out⟩
    ·obtain ⟨k1,k2⟩:=set5 stC (.string nm) (.slice uo t[i].2.1.length ucap) (.int .i64 P) (.slice none 0 0) (.slice co t[i].2.2.2.2.length ccap)
     have K1:=hid k1
     have K2:=hid (k2 (by decide) (own_below OU.out HC.out))
     have K3:=hid (k2 (by decide) OC.out)
     have K4:Hid (Below wr.heap.size wr _):=below_set (below_set (below_set (below_set (below_set RC.out wr.heap.size 0 (.string nm) (Nat.le_refl _)) wr.heap.size 1 (.slice uo t[i].2.1.length ucap) (Nat.le_refl _)) wr.heap.size 2 (.int .i64 P) (Nat.le_refl _)) wr.heap.size 3 (.slice none 0 0) (Nat.le_refl _)) wr.heap.size 4 (.slice co t[i].2.2.2.2.length ccap) (Nat.le_refl _)
     clear k1 k2
     go_meet
     case rel=>exact ⟨wr.heap.size,_,_,rfl,Nat.le_refl _,K1.out,K2.out,K3.out,K4.out⟩
   case rest=>
    obtain ⟨W0,rfl⟩:∃W0,W0=wr:=⟨_,rfl⟩
    obtain ⟨B,vU,vC,rfl,hBw,st,oU,oC,bw⟩:=hcut
    obtain ⟨Ps,hPs⟩:∃Ps,t[i].2.2.2.1=Ps:=⟨_,rfl⟩
    rw[hPs] at hp1 s3 s4 l3 f3
    have hPl:=slr_max hp1
    unfold maxLen at hPl
    clear cu cc l0 l1 l2 l3 l4 hu1 hc1
    go_wp2_with fail
    go_loopw [6] (fun K wx=>∃(k:Nat) (vp:Value),(k:Int)≤Ps.length∧K= .int .i64 k∧Stands wx B #[.string nm,vU, .int .i64 P,vp,vC] 51∧wx.ownsRow W0.heap.size 26 1 vU t[i].2.1.length (t[i].2.1.map (Value.int .u32))∧wx.ownsRow W0.heap.size 26 1 vC t[i].2.2.2.2.length (t[i].2.2.2.2.map (Value.int .u32))∧OwnR 92 2 (propO W0.heap.size) W0.heap.size wx vp (Ps.take k)∧Below W0.heap.size W0 wx) (fun K _=>(Ps.length - intOf K).toNat)
    case atStart=>exact ⟨0, .slice none 0 0,by omega,rfl,st,oU,oC,OwnR.nil _ _ _ _ _,bw⟩
    case round=>
     obtain ⟨k,vp,hk,rfl,st2,oU2,oC2,oP,hb0⟩:=hrel
     have hb2:=below_trans hb hb0
     have l3:=below_cell hb2 f3
     by_cases hlk:(k:Int) < Ps.length
     ·have hkl:k < Ps.length:=by omega
      obtain ⟨b2,o2,pn,vd,r2,g0,g1,e2,hd2⟩:=prp_at8 hp1 k hkl
      obtain ⟨da,dq,rfl⟩:=rd_slice hd2
      have n0:=below_cell hb2 g0
      have n1:=below_cell hb2 g1
      have cd:=fun W (g:Below w.heap.size w W)=>w_rcopy _ _ W (hd2.below g) (s4 _ (List.getElem_mem hkl))
      go_upto_region 9 with fail
      have HB:=hid hb2
      have CD:=hid cd
      have HS:Hid (∀W,Below wr.heap.size wr W→W.cell? ⟨b1,o1+3,none⟩=some (.slice pa Ps.length pq)∧W.cell? ⟨b2,o2,none⟩=some (.string pn)∧W.cell? ⟨b2,o2+1,none⟩=some (.slice da Ps[k].2.length dq)):=fun W g=>⟨below_cell g l3,below_cell g n0,below_cell g n1⟩
      have HT:Hid (∀W,Below w.heap.size w W→W.cell? ⟨b1,o1+3,none⟩=some (.slice pa Ps.length pq)∧W.cell? ⟨b2,o2,none⟩=some (.string pn)∧W.cell? ⟨b2,o2+1,none⟩=some (.slice da Ps[k].2.length dq)):=fun W g=>⟨below_cell g f3,below_cell g g0,below_cell g g1⟩
      have hrd:Hid (Below wr.heap.size wr wr.drew):=below_drewN (Below.refl _ _) 1
      have hbd:Hid (Below w.heap.size w wr.drew):=below_drewN hb2 1
      have B0:=hid hb0
      have ST:=hid st2
      have OU:=hid oU2
      have OC:=hid oC2
      have OP:=hid oP
      clear hb2 cd l3 n0 n1 hb0 st2 oU2 oC2 oP
      refine wp_region_held_drew (S:=fun W=>W.cell? ⟨b1,o1+3,none⟩=some (.slice pa Ps.length pq)∧W.cell? ⟨b2,o2,none⟩=some (.string pn)∧W.cell? ⟨b2,o2+1,none⟩=some (.slice da Ps[k].2.length dq)) (by kernel_rfl) (HS.out _ hrd.out) (fun hHeld=> ?_)
      refine wpAnyH_take (i:=0) (v:= ?v1) rfl (by kernel_rfl) (by kernel_rfl) (by kernel_rfl) (fun _ _ _ h=>h) (Or.inl ⟨by rfl, ?h1⟩) (by assumption) ?r1
      case h1=>intro W hSw;(try dsimp only at hSw);go_simp;try with_reducible rfl
      simp only[Act.put,List.setIfInBounds_toArray,List.set_cons_zero,List.set_cons_succ]
      refine wpAnyH_take (i:=2) (v:= ?v2) rfl (by kernel_rfl) (by kernel_rfl) (by kernel_rfl) (fun _ _ _ h=>h) (Or.inl ⟨by rfl, ?h2⟩) (by assumption) ?r2
      case h2=>intro W hSw;(try dsimp only at hSw);go_simp;try with_reducible rfl
      simp only[Act.put,List.setIfInBounds_toArray,List.set_cons_zero,List.set_cons_succ]
      refine wpAnyH_take (i:=3) (v:= ?v3) rfl (by kernel_rfl) (by kernel_rfl) (by kernel_rfl) (fun _ _ _ h=>h) (Or.inl ⟨by rfl, ?h3⟩) (by assumption) ?r3
      case h3=>intro W hSw;(try dsimp only at hSw);go_simp;try with_reducible rfl
      simp only[Act.put,List.setIfInBounds_toArray,List.set_cons_zero,List.set_cons_succ]
      refine wpAnyH_take (i:=4) (v:= ?v4) rfl (by kernel_rfl) (by kernel_rfl) (by kernel_rfl) (fun _ _ _ h=>h) (Or.inl ⟨by rfl, ?h4⟩) (by assumption) ?r4
      case h4=>intro W hSw;(try dsimp only at hSw);go_simp;try with_reducible rfl
      simp only[Act.put,List.setIfInBounds_toArray,List.set_cons_zero,List.set_cons_succ]
      refine wpAnyH_take (i:=5) (v:= ?v5) rfl (by kernel_rfl) (by kernel_rfl) (by kernel_rfl) (fun _ _ _ h=>h) (Or.inl ⟨by rfl, ?h5⟩) (by assumption) ?r5
      case h5=>intro W hSw;(try dsimp only at hSw);go_simp;try with_reducible rfl
      simp only[Act.put,List.setIfInBounds_toArray,List.set_cons_zero,List.set_cons_succ]
      refine wpAnyH_take (i:=6) (v:= ?v6) rfl (by kernel_rfl) (by kernel_rfl) (by kernel_rfl) (fun _ _ _ h=>h) (Or.inl ⟨by rfl, ?h6⟩) (by assumption) ?r6
      case h6=>intro W hSw;(try dsimp only at hSw);go_simp;try with_reducible rfl
      simp only[Act.put,List.setIfInBounds_toArray,List.set_cons_zero,List.set_cons_succ]
      refine wpAnyH_take (i:=7) (v:= ?v7) rfl (by kernel_rfl) (by kernel_rfl) (by kernel_rfl) (fun _ _ _ h=>h) (Or.inl ⟨by rfl, ?h7⟩) (by assumption) ?r7
      case h7=>intro W hSw;(try dsimp only at hSw);go_simp;try with_reducible rfl
      simp only[Act.put,List.setIfInBounds_toArray,List.set_cons_zero,List.set_cons_succ]
      refine wpAnyH_take (i:=8) (v:= ?v8) rfl (by kernel_rfl) (by kernel_rfl) (by kernel_rfl) (fun _ _ _ h=>h) (Or.inl ⟨by rfl, ?h8⟩) (by assumption) ?r8
      case h8=>intro W hSw;(try dsimp only at hSw);go_simp;try with_reducible rfl
      simp only[Act.put,List.setIfInBounds_toArray,List.set_cons_zero,List.set_cons_succ]
      refine wpAnyH_take (i:=9) (v:= ?v9) rfl (by kernel_rfl) (by kernel_rfl) (by kernel_rfl) (fun _ _ _ h=>h) (Or.inl ⟨by rfl, ?h9⟩) (by assumption) ?r9
      case h9=>intro W hSw;(try dsimp only at hSw);go_simp;try with_reducible rfl
      simp only[Act.put,List.setIfInBounds_toArray,List.set_cons_zero,List.set_cons_succ]
      refine wpAnyH_take (i:=10) (v:= ?v10) rfl (by kernel_rfl) (by kernel_rfl) (by kernel_rfl) (fun _ _ _ h=>h) (Or.inl ⟨by rfl, ?h10⟩) (by assumption) ?r10
      case h10=>intro W hSw;(try dsimp only at hSw);go_simp;try with_reducible rfl
      simp only[Act.put,List.setIfInBounds_toArray,List.set_cons_zero,List.set_cons_succ]
      refine wpAnyH_take (i:=11) (v:= ?v11) rfl (by kernel_rfl) (by kernel_rfl) (by kernel_rfl) (fun _ _ _ h=>h) (Or.inl ⟨by rfl, ?h11⟩) (by assumption) ?r11
      case h11=>intro W hSw;(try dsimp only at hSw);go_simp;try with_reducible rfl
      simp only[Act.put,List.setIfInBounds_toArray,List.set_cons_zero,List.set_cons_succ]
      refine wpAnyH_take (i:=12) (v:= ?v12) rfl (by kernel_rfl) (by kernel_rfl) (by kernel_rfl) (fun _ _ _ h=>h) (Or.inl ⟨by rfl, ?h12⟩) (by assumption) ?r12
      case h12=>intro W hSw;(try dsimp only at hSw);go_simp;try with_reducible rfl
      simp only[Act.put,List.setIfInBounds_toArray,List.set_cons_zero,List.set_cons_succ]
      refine wpAnyH_take (i:=13) (v:= ?v13) rfl (by kernel_rfl) (by kernel_rfl) (by kernel_rfl) (fun _ _ _ h=>h) (Or.inl ⟨by rfl, ?h13⟩) (by assumption) ?r13
      case h13=>intro W hSw;(try dsimp only at hSw);go_simp;try with_reducible rfl
      simp only[Act.put,List.setIfInBounds_toArray,List.set_cons_zero,List.set_cons_succ]
      refine wpAnyH_take (i:=14) (v:= ?v14) rfl (by kernel_rfl) (by kernel_rfl) (by kernel_rfl) (fun _ _ _ h=>h) (Or.inl ⟨by rfl, ?h14⟩) (by assumption) ?r14
      case h14=>intro W hSw;(try dsimp only at hSw);go_simp;try with_reducible rfl
      simp only[Act.put,List.setIfInBounds_toArray,List.set_cons_zero,List.set_cons_succ]
      refine wpAnyH_take (i:=15) (v:= ?v15) rfl (by kernel_rfl) (by kernel_rfl) (by kernel_rfl) (fun _ _ _ h=>h) (Or.inl ⟨by rfl, ?h15⟩) (by assumption) ?r15
      case h15=>intro W hSw;(try dsimp only at hSw);go_simp;try with_reducible rfl
      simp only[Act.put,List.setIfInBounds_toArray,List.set_cons_zero,List.set_cons_succ]
      refine wpAnyH_take (i:=16) (v:= ?v16) rfl (by kernel_rfl) (by kernel_rfl) (by kernel_rfl) (fun _ _ _ h=>h) (Or.inl ⟨by rfl, ?h16⟩) (by assumption) ?r16
      case h16=>intro W hSw;(try dsimp only at hSw);go_simp;try with_reducible rfl
      simp only[Act.put,List.setIfInBounds_toArray,List.set_cons_zero,List.set_cons_succ]
      refine wpAnyH_take (i:=17) (v:= ?v17) rfl (by kernel_rfl) (by kernel_rfl) (by kernel_rfl) (fun _ _ _ h=>h) (Or.inl ⟨by rfl, ?h17⟩) (by assumption) ?r17
      case h17=>intro W hSw;(try dsimp only at hSw);go_simp;try with_reducible rfl
      simp only[Act.put,List.setIfInBounds_toArray,List.set_cons_zero,List.set_cons_succ]
      refine wpAnyH_take (i:=18) (v:= ?v18) rfl (by kernel_rfl) (by kernel_rfl) (by kernel_rfl) (fun _ _ _ h=>h) (Or.inl ⟨by rfl, ?h18⟩) (by assumption) ?r18
      case h18=>intro W hSw;(try dsimp only at hSw);go_simp;try with_reducible rfl
      simp only[Act.put,List.setIfInBounds_toArray,List.set_cons_zero,List.set_cons_succ]
      refine wpAnyH_take (i:=19) (v:= ?v19) rfl (by kernel_rfl) (by kernel_rfl) (by kernel_rfl) (fun _ _ _ h=>h) (Or.inl ⟨by rfl, ?h19⟩) (by assumption) ?r19
      case h19=>intro W hSw;(try dsimp only at hSw);go_simp;try with_reducible rfl
      simp only[Act.put,List.setIfInBounds_toArray,List.set_cons_zero,List.set_cons_succ]
      refine wpAnyH_ready (rs:=[1,20]) (by kernel_rfl) (by simp) ?_
      refine AllReadyH.cons rfl (fun K hK=> ?_) ?_
      ·have zb:wr.drew.cell? ⟨B,3,none⟩=some vp:=ST.out.cell 3 _ rfl
       go_simp
       clear zb
       refine hK.out _ _ (HS.out _ hrd.out) (fun hc1=> ?_)
       clear hK K
       clear hHeld
       refine wpAnyH_ready (rs:=[20]) (by kernel_rfl) (by simp) ?_
       refine AllReadyH.cons rfl (fun K hK=> ?_) AllReadyH.nil
       go_simp
       go_wp2_with (first|(go_at_call 81;refine (CD.out _ (by with_reducible exact hbd.out)).mono ?_;rintro e qD ⟨vD,rfl,oD,bD'⟩;obtain ⟨dd,dcap,rfl⟩:=own_form oD;have RD:Hid (Below wr.heap.size wr qD):=below_trans hrd.out bD';have OD:=hid oD;have HD:=hid bD';clear oD bD'))
       refine hK.out _ _ (HS.out _ RD.out) (fun hc=> ?_)
       clear hK K
       clear hc1
       refine wpAnyH_take (i:=21) (v:= ?v20) rfl (by kernel_rfl) (by kernel_rfl) (by kernel_rfl) (fun _ _ _ h=>h) (Or.inl ⟨by rfl, ?h20⟩) (by assumption) ?r20
       case h20=>intro W hSw;(try dsimp only at hSw);go_simp;try with_reducible rfl
       simp only[Act.put,List.setIfInBounds_toArray,List.set_cons_zero,List.set_cons_succ]
       refine wpAnyH_ready (rs:=[22]) (by kernel_rfl) (by simp) ?_
       refine AllReadyH.cons rfl (fun K hK=> ?_) AllReadyH.nil
       go_simp
       refine hK.out _ _ (HS.out _ (RD.out.alloc RD.out.size _)) (fun hc2=> ?_)
       clear hK K
       have BX:Below wr.heap.size wr (qD.alloc (.cells #[.string pn, .slice dd Ps[k].2.length dcap] 92)):=RD.out.alloc RD.out.size _
       have dX:(qD.alloc (.cells #[.string pn, .slice dd Ps[k].2.length dcap] 92)).ownsRow W0.heap.size 5 1 (.slice dd Ps[k].2.length dcap) Ps[k].2.length (Ps[k].2.map (Value.int .u8)):=World.ownsRow.alloc (own_le (Nat.le_trans B0.out.size hrd.out.size) OD.out) _
       obtain ⟨rows,h1,h2,h3,h4⟩:=OwnR.below OP.out BX (propO_below BX)
       have hkt:(Ps.take k).length=k:=by rw[List.length_take];omega
       have hpn:strOfNums Ps[k].1=pn:=e2
       have hx:propO W0.heap.size (qD.alloc (.cells #[.string pn, .slice dd Ps[k].2.length dcap] 92)) [Value.string pn, .slice dd Ps[k].2.length dcap] Ps[k]:=⟨_,by rw[hpn],dX⟩
       refine wpAnyH_ready (rs:=[23]) (by kernel_rfl) (by simp) ?_
       refine AllReadyH.cons rfl (fun K hK=> ?_) AllReadyH.nil
       refine step_append_rows rfl _ _ 49 rfl W0.heap.size 92 i9 _ 2 40 Tryz.underlying49 hi9 hz9 hz8 hz7 rfl (by decide) vp (Ps.take k).length _ rfl h3 _ [[Value.string pn, .slice dd Ps[k].2.length dcap]] rfl (slc_one qD [Value.string pn, .slice dd Ps[k].2.length dcap] 92 2 rfl) (one2 pn dd Ps[k].2.length dcap) (by rw[hkt];unfold maxLen;simp only[List.length_singleton];omega) (by rw[hkt];simp only[List.length_singleton];omega) (Nat.le_trans B0.out.size BX.size) ?_
       intro v4 w4 ho4 hg4
       rw[show (Ps.take k).length+[[Value.string pn, .slice dd Ps[k].2.length dcap]].length=k+1 by rw[hkt];rfl] at ho4
       obtain ⟨a4,c4,rfl⟩:=own_form ho4
       have k4:=Kept.own h3 hg4
       have bW4:Hid (Below W0.heap.size W0 w4):=below_grown (below_trans B0.out BX) hg4 (fun k hk=>(h3.lt k hk).1)
       have st4:=stands_kept k4 (by decide) (ST.out.below BX)
       have oU4:=hid (own_kept k4 (by decide) (own_below OU.out BX))
       have oC4:=hid (own_kept k4 (by decide) (own_below OC.out BX))
       have oP4:=hid (OwnR.snoc (propO_apt (by decide)) h1 h2 h3 h4 rfl hx (by rw[hkt];simpa using ho4) hg4)
       have bw4:Hid (Below w.heap.size w w4):=below_trans hb bW4.out
       refine hK.out _ _ (HT.out _ bw4.out) (fun hc4=> ?_)
       clear hK K
       clear hc2
       have k1:=hid (st4.set 3 (.slice a4 (k+1) c4))
       have kk:=set_kept st4 3 (.slice a4 (k+1) c4)
       have k2:=hid (own_kept kk (by decide) oU4.out)
       have k3:=hid (own_kept kk (by decide) oC4.out)
       have k5:=hid (OwnR.kept oP4.out kk (by decide) (propO_apt (by decide)))
       have k6:Hid (Below W0.heap.size W0 _):=below_set bW4.out B 3 (.slice a4 (k+1) c4) hBw
       have k7:Hid (Below w.heap.size w _):=below_set bw4.out B 3 (.slice a4 (k+1) c4) (Nat.le_trans hb.size hBw)
       have y3:=st4.cell 3 _ rfl
       have y4:=st4.free
       clear kk k4 h1 h2 h3 h4 hx dX ho4 hg4 BX st4
       refine wpAnyH_take (i:=24) (v:= ?v21) rfl (by kernel_rfl) (by kernel_rfl) (by kernel_rfl) (fun _ _ _ h=>h) (Or.inl ⟨by rfl, ?h21⟩) (by assumption) ?r21
       case h21=>intro W hSw;(try dsimp only at hSw);go_simp;try with_reducible rfl
       simp only[Act.put,List.setIfInBounds_toArray,List.set_cons_zero,List.set_cons_succ]
       refine wpAnyH_ready (rs:=[25]) (by kernel_rfl) (by simp) ?_
       refine AllReadyH.cons rfl (fun K hK=> ?_) AllReadyH.nil
       go_simp
       refine hK.out _ _ (HT.out _ k7.out) (fun hc5=> ?_)
       clear hK K
       refine wpAnyH_done (by kernel_rfl) ?_ _
       clear hc4 hc5 y3 y4
       go_wp2_with fail
       go_roundw
       case rel=>
        refine ⟨k+1,_,by omega,by go_num,k1.out,k2.out,k3.out, ?_,k6.out⟩
        rw[List.take_succ_eq_append_getElem hkl]
        exact k5.out
       case measure=>simp[intOf];omega
      ·refine AllReadyH.cons rfl (fun K hK=> ?_) AllReadyH.nil
       go_simp
       go_wp2_with (first|(go_at_call 81;refine (CD.out _ (by with_reducible exact hbd.out)).mono ?_;rintro e qD ⟨vD,rfl,oD,bD'⟩;obtain ⟨dd,dcap,rfl⟩:=own_form oD;have RD:Hid (Below wr.heap.size wr qD):=below_trans hrd.out bD';have OD:=hid oD;have HD:=hid bD';clear oD bD'))
       refine hK.out _ _ (HS.out _ RD.out) (fun hc=> ?_)
       clear hK K
       clear hHeld
       refine wpAnyH_take (i:=21) (v:= ?v22) rfl (by kernel_rfl) (by kernel_rfl) (by kernel_rfl) (fun _ _ _ h=>h) (Or.inl ⟨by rfl, ?h22⟩) (by assumption) ?r22
       case h22=>intro W hSw;(try dsimp only at hSw);go_simp;try with_reducible rfl
       simp only[Act.put,List.setIfInBounds_toArray,List.set_cons_zero,List.set_cons_succ]
       refine wpAnyH_ready (rs:=[1,22]) (by kernel_rfl) (by simp) ?_
       refine AllReadyH.cons rfl (fun K hK=> ?_) ?_
       ·have zb:qD.cell? ⟨B,3,none⟩=some vp:=(ST.out.below RD.out).cell 3 _ rfl
        go_simp
        clear zb
        refine hK.out _ _ (HS.out _ RD.out) (fun hc1=> ?_)
        clear hK K
        clear hc
        refine wpAnyH_ready (rs:=[22]) (by kernel_rfl) (by simp) ?_
        refine AllReadyH.cons rfl (fun K hK=> ?_) AllReadyH.nil
        go_simp
        refine hK.out _ _ (HS.out _ (RD.out.alloc RD.out.size _)) (fun hc2=> ?_)
        clear hK K
        clear hc1
        have BX:Below wr.heap.size wr (qD.alloc (.cells #[.string pn, .slice dd Ps[k].2.length dcap] 92)):=RD.out.alloc RD.out.size _
        have dX:(qD.alloc (.cells #[.string pn, .slice dd Ps[k].2.length dcap] 92)).ownsRow W0.heap.size 5 1 (.slice dd Ps[k].2.length dcap) Ps[k].2.length (Ps[k].2.map (Value.int .u8)):=World.ownsRow.alloc (own_le (Nat.le_trans B0.out.size hrd.out.size) OD.out) _
        obtain ⟨rows,h1,h2,h3,h4⟩:=OwnR.below OP.out BX (propO_below BX)
        have hkt:(Ps.take k).length=k:=by rw[List.length_take];omega
        have hpn:strOfNums Ps[k].1=pn:=e2
        have hx:propO W0.heap.size (qD.alloc (.cells #[.string pn, .slice dd Ps[k].2.length dcap] 92)) [Value.string pn, .slice dd Ps[k].2.length dcap] Ps[k]:=⟨_,by rw[hpn],dX⟩
        refine wpAnyH_ready (rs:=[23]) (by kernel_rfl) (by simp) ?_
        refine AllReadyH.cons rfl (fun K hK=> ?_) AllReadyH.nil
        refine step_append_rows rfl _ _ 49 rfl W0.heap.size 92 i9 _ 2 40 Tryz.underlying49 hi9 hz9 hz8 hz7 rfl (by decide) vp (Ps.take k).length _ rfl h3 _ [[Value.string pn, .slice dd Ps[k].2.length dcap]] rfl (slc_one qD [Value.string pn, .slice dd Ps[k].2.length dcap] 92 2 rfl) (one2 pn dd Ps[k].2.length dcap) (by rw[hkt];unfold maxLen;simp only[List.length_singleton];omega) (by rw[hkt];simp only[List.length_singleton];omega) (Nat.le_trans B0.out.size BX.size) ?_
        intro v4 w4 ho4 hg4
        rw[show (Ps.take k).length+[[Value.string pn, .slice dd Ps[k].2.length dcap]].length=k+1 by rw[hkt];rfl] at ho4
        obtain ⟨a4,c4,rfl⟩:=own_form ho4
        have k4:=Kept.own h3 hg4
        have bW4:Hid (Below W0.heap.size W0 w4):=below_grown (below_trans B0.out BX) hg4 (fun k hk=>(h3.lt k hk).1)
        have st4:=stands_kept k4 (by decide) (ST.out.below BX)
        have oU4:=hid (own_kept k4 (by decide) (own_below OU.out BX))
        have oC4:=hid (own_kept k4 (by decide) (own_below OC.out BX))
        have oP4:=hid (OwnR.snoc (propO_apt (by decide)) h1 h2 h3 h4 rfl hx (by rw[hkt];simpa using ho4) hg4)
        have bw4:Hid (Below w.heap.size w w4):=below_trans hb bW4.out
        refine hK.out _ _ (HT.out _ bw4.out) (fun hc4=> ?_)
        clear hK K
        clear hc2
        have k1:=hid (st4.set 3 (.slice a4 (k+1) c4))
        have kk:=set_kept st4 3 (.slice a4 (k+1) c4)
        have k2:=hid (own_kept kk (by decide) oU4.out)
        have k3:=hid (own_kept kk (by decide) oC4.out)
        have k5:=hid (OwnR.kept oP4.out kk (by decide) (propO_apt (by decide)))
        have k6:Hid (Below W0.heap.size W0 _):=below_set bW4.out B 3 (.slice a4 (k+1) c4) hBw
        have k7:Hid (Below w.heap.size w _):=below_set bw4.out B 3 (.slice a4 (k+1) c4) (Nat.le_trans hb.size hBw)
        have y3:=st4.cell 3 _ rfl
        have y4:=st4.free
        clear kk k4 h1 h2 h3 h4 hx dX ho4 hg4 BX st4
        refine wpAnyH_take (i:=24) (v:= ?v23) rfl (by kernel_rfl) (by kernel_rfl) (by kernel_rfl) (fun _ _ _ h=>h) (Or.inl ⟨by rfl, ?h23⟩) (by assumption) ?r23
        case h23=>intro W hSw;(try dsimp only at hSw);go_simp;try with_reducible rfl
        simp only[Act.put,List.setIfInBounds_toArray,List.set_cons_zero,List.set_cons_succ]
        refine wpAnyH_ready (rs:=[25]) (by kernel_rfl) (by simp) ?_
        refine AllReadyH.cons rfl (fun K hK=> ?_) AllReadyH.nil
        go_simp
        refine hK.out _ _ (HT.out _ k7.out) (fun hc5=> ?_)
        clear hK K
        refine wpAnyH_done (by kernel_rfl) ?_ _
        clear hc4 hc5 y3 y4
        go_wp2_with fail
        go_roundw
        case rel=>
         refine ⟨k+1,_,by omega,by go_num,k1.out,k2.out,k3.out, ?_,k6.out⟩
         rw[List.take_succ_eq_append_getElem hkl]
         exact k5.out
        case measure=>simp[intOf];omega
       ·refine AllReadyH.cons rfl (fun K hK=> ?_) AllReadyH.nil
        go_simp
        refine hK.out _ _ (HS.out _ (RD.out.alloc RD.out.size _)) (fun hc1=> ?_)
        clear hK K
        clear hc
        refine wpAnyH_ready (rs:=[1]) (by kernel_rfl) (by simp) ?_
        refine AllReadyH.cons rfl (fun K hK=> ?_) AllReadyH.nil
        have zb:(qD.alloc (.cells #[.string pn, .slice dd Ps[k].2.length dcap] 92)).cell? ⟨B,3,none⟩=some vp:=(ST.out.below (RD.out.alloc RD.out.size _)).cell 3 _ rfl
        go_simp
        clear zb
        refine hK.out _ _ (HS.out _ (RD.out.alloc RD.out.size _)) (fun hc2=> ?_)
        clear hK K
        clear hc1
        have BX:Below wr.heap.size wr (qD.alloc (.cells #[.string pn, .slice dd Ps[k].2.length dcap] 92)):=RD.out.alloc RD.out.size _
        have dX:(qD.alloc (.cells #[.string pn, .slice dd Ps[k].2.length dcap] 92)).ownsRow W0.heap.size 5 1 (.slice dd Ps[k].2.length dcap) Ps[k].2.length (Ps[k].2.map (Value.int .u8)):=World.ownsRow.alloc (own_le (Nat.le_trans B0.out.size hrd.out.size) OD.out) _
        obtain ⟨rows,h1,h2,h3,h4⟩:=OwnR.below OP.out BX (propO_below BX)
        have hkt:(Ps.take k).length=k:=by rw[List.length_take];omega
        have hpn:strOfNums Ps[k].1=pn:=e2
        have hx:propO W0.heap.size (qD.alloc (.cells #[.string pn, .slice dd Ps[k].2.length dcap] 92)) [Value.string pn, .slice dd Ps[k].2.length dcap] Ps[k]:=⟨_,by rw[hpn],dX⟩
        refine wpAnyH_ready (rs:=[23]) (by kernel_rfl) (by simp) ?_
        refine AllReadyH.cons rfl (fun K hK=> ?_) AllReadyH.nil
        refine step_append_rows rfl _ _ 49 rfl W0.heap.size 92 i9 _ 2 40 Tryz.underlying49 hi9 hz9 hz8 hz7 rfl (by decide) vp (Ps.take k).length _ rfl h3 _ [[Value.string pn, .slice dd Ps[k].2.length dcap]] rfl (slc_one qD [Value.string pn, .slice dd Ps[k].2.length dcap] 92 2 rfl) (one2 pn dd Ps[k].2.length dcap) (by rw[hkt];unfold maxLen;simp only[List.length_singleton];omega) (by rw[hkt];simp only[List.length_singleton];omega) (Nat.le_trans B0.out.size BX.size) ?_
        intro v4 w4 ho4 hg4
        rw[show (Ps.take k).length+[[Value.string pn, .slice dd Ps[k].2.length dcap]].length=k+1 by rw[hkt];rfl] at ho4
        obtain ⟨a4,c4,rfl⟩:=own_form ho4
        have k4:=Kept.own h3 hg4
        have bW4:Hid (Below W0.heap.size W0 w4):=below_grown (below_trans B0.out BX) hg4 (fun k hk=>(h3.lt k hk).1)
        have st4:=stands_kept k4 (by decide) (ST.out.below BX)
        have oU4:=hid (own_kept k4 (by decide) (own_below OU.out BX))
        have oC4:=hid (own_kept k4 (by decide) (own_below OC.out BX))
        have oP4:=hid (OwnR.snoc (propO_apt (by decide)) h1 h2 h3 h4 rfl hx (by rw[hkt];simpa using ho4) hg4)
        have bw4:Hid (Below w.heap.size w w4):=below_trans hb bW4.out
        refine hK.out _ _ (HT.out _ bw4.out) (fun hc4=> ?_)
        clear hK K
        clear hc2
        have k1:=hid (st4.set 3 (.slice a4 (k+1) c4))
        have kk:=set_kept st4 3 (.slice a4 (k+1) c4)
        have k2:=hid (own_kept kk (by decide) oU4.out)
        have k3:=hid (own_kept kk (by decide) oC4.out)
        have k5:=hid (OwnR.kept oP4.out kk (by decide) (propO_apt (by decide)))
        have k6:Hid (Below W0.heap.size W0 _):=below_set bW4.out B 3 (.slice a4 (k+1) c4) hBw
        have k7:Hid (Below w.heap.size w _):=below_set bw4.out B 3 (.slice a4 (k+1) c4) (Nat.le_trans hb.size hBw)
        have y3:=st4.cell 3 _ rfl
        have y4:=st4.free
        clear kk k4 h1 h2 h3 h4 hx dX ho4 hg4 BX st4
        refine wpAnyH_take (i:=24) (v:= ?v24) rfl (by kernel_rfl) (by kernel_rfl) (by kernel_rfl) (fun _ _ _ h=>h) (Or.inl ⟨by rfl, ?h24⟩) (by assumption) ?r24
        case h24=>intro W hSw;(try dsimp only at hSw);go_simp;try with_reducible rfl
        simp only[Act.put,List.setIfInBounds_toArray,List.set_cons_zero,List.set_cons_succ]
        refine wpAnyH_ready (rs:=[25]) (by kernel_rfl) (by simp) ?_
        refine AllReadyH.cons rfl (fun K hK=> ?_) AllReadyH.nil
        go_simp
        refine hK.out _ _ (HT.out _ k7.out) (fun hc5=> ?_)
        clear hK K
        refine wpAnyH_done (by kernel_rfl) ?_ _
        clear hc4 hc5 y3 y4
        go_wp2_with fail
        go_roundw
        case rel=>
         refine ⟨k+1,_,by omega,by go_num,k1.out,k2.out,k3.out, ?_,k6.out⟩
         rw[List.take_succ_eq_append_getElem hkl]
         exact k5.out
        case measure=>simp[intOf];omega
     ·have hke:k=Ps.length:=by omega
      subst hke
      rw[List.take_length] at oP
      obtain ⟨pr,hpr⟩:=oP.row
      obtain ⟨pa2,pcap2,rfl⟩:=own_form hpr
      have x0:=st2.cell 0 _ rfl
      have x1:=st2.cell 1 _ rfl
      have x2:=st2.cell 2 _ rfl
      have x3:=st2.cell 3 _ rfl
      have x4:=st2.cell 4 _ rfl
      obtain ⟨ua2,uc2,rfl⟩:=own_form oU2
      obtain ⟨ca2,cc2,rfl⟩:=own_form oC2
      have bX:=below_trans hb0 (box_below wr (.cells #[.string nm, .slice ua2 t[i].2.1.length uc2, .int .i64 P, .slice pa2 Ps.length pcap2, .slice ca2 t[i].2.2.2.2.length cc2] 51))
      have hx9:nodO w.heap.size (wr.alloc (.cells #[.string nm, .slice ua2 t[i].2.1.length uc2, .int .i64 P, .slice pa2 Ps.length pcap2, .slice ca2 t[i].2.2.2.2.length cc2] 51)) [Value.string nm, .slice ua2 t[i].2.1.length uc2, .int .i64 P, .slice pa2 Ps.length pcap2, .slice ca2 t[i].2.2.2.2.length cc2] t[i]:=
       ⟨_,_,_,by rw[e1,hP],World.ownsRow.alloc (own_le hb.size oU2) _,by rw[hPs];exact OwnR.below (OwnR.le hb.size oP (propO_le hb.size)) (box_below wr _) (propO_below (box_below wr _)),World.ownsRow.alloc (own_le hb.size oC2) _⟩
      obtain ⟨rowsT,q1,q2,q3',q4',q5⟩:=ho
      have q3:=own_kept (T:=5) (Kept.below bX) (by decide) q3'
      have q4:=fun i hi=>nodO_below bX _ _ (q4' i hi)
      have q6:SepR (rowsT++[[Value.string nm, .slice ua2 t[i].2.1.length uc2, .int .i64 P, .slice pa2 Ps.length pcap2, .slice ca2 t[i].2.2.2.2.length cc2]]):=sep_snoc q5 fun j g hj hg hg2=>by
       obtain ⟨vu9,vp9,vc9,hv9, -,op9, -⟩:=q4' j (by omega)
       obtain ⟨cs9,o9⟩:=op9.row
       rw[hv9] at hg
       have a1:=(o9.lt g (by simpa using hg)).2
       have a2:=(hpr.lt g (by simpa using hg2)).1
       omega
      have Q6:=hid q6
      clear q6 q4' q3'
      have hit:(t.take i).length=i:=by rw[List.length_take];omega
      have H9:=hid hx9
      have HX:=hid bX
      have Q2:=hid q2
      have Q4:=hid q4
      clear hx9 bX q2 q4 oP oU2 oC2 hpr st2 hb0
      go_wp2_with (at_builtin;refine wpList_append_rows rfl _ _ 27 rfl w.heap.size 51 i0 _ 5 96 Tryz.underlying27 hi0 hz0 hz1 hz2 rfl (by decide) u3 (t.take i).length _ rfl q3 _ [[Value.string nm, .slice ua2 t[i].2.1.length uc2, .int .i64 P, .slice pa2 Ps.length pcap2, .slice ca2 t[i].2.2.2.2.length cc2]] rfl (slc_one wr [Value.string nm, .slice ua2 t[i].2.1.length uc2, .int .i64 P, .slice pa2 Ps.length pcap2, .slice ca2 t[i].2.2.2.2.length cc2] 51 5 rfl) (one5 _ _ _ _ _ _ _ _ _ _ _) (by rw[hit];unfold maxLen;simp only[List.length_singleton];omega) (by rw[hit];simp only[List.length_singleton];omega) (below_trans hb HX.out).size ?_;intro v9 w9 ho9 hg9)
      have oT9:=OwnTS.snoc q1 Q2.out q3 Q4.out Q6.out rfl H9.out (by simpa using ho9) hg9
      have b9:=below_grown (below_trans hb HX.out) hg9 (fun k hk=>(q3.lt k hk).1)
      go_roundw
      case rel=>
       refine ⟨i+1,by omega,by go_num, ?_,b9⟩
       rw[List.take_succ_eq_append_getElem hil]
       exact oT9
      case measure=>simp[intOf];omega
  ·go_wp2_with fail
   go_ret
   rw[List.take_of_length_le (by omega)] at ho
   exact ⟨_,rfl,ho,hb⟩
end Go.Proofs.YtlokhciaaepenaaGreatDoor
