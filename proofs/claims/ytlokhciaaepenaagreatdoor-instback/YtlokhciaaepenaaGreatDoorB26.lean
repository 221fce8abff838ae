import Derived.Test.YtlokhciaaepenaaGreatDoorB25
set_option linter.unusedVariables false
set_option linter.unusedSimpArgs false
set_option maxRecDepth 100000
namespace Go.Proofs.YtlokhciaaepenaaGreatDoor
open Go.ChangeShapes Go.WideShapes Go.ChangeAt Go.RowKit
theorem OwM.formI {base:Nat} {w:World} {v:Mv} {m:Mc} {l:List Iz} {o:ByteArray} (h:OwM base w v {m with insts:=l} o):∃sa sq ma mq wa wq ca cq ta tq ia iq,v=⟨.slice sa m.stack.length sq, .slice ma m.mem.length mq, .slice wa m.words.length wq, .slice ca m.codes.length cq, .slice ta m.tree.length tq, .slice ia l.length iq⟩:=h.form
theorem w_pOpenG (m:Mc) (v:Mv) (o s:ByteArray) (n:Int) (w:World) (hT:Tab w) (h:RdM w v m o) (g:gM m) (hs:s.size≤maxLen) (hn0:0≤n) (hn1:n≤100000) (hno:∀x∈m.words,¬x.1=[111,112,101,110]):
  Calls Tryz.prog 5 #[.agg (v.cs m o), .string s, .int .i64 n] w fun e w'=>∃a0 n0 c0 a1 n1 c1 a2 n2 c2 a3 n3 c3 B a4 n4 c4 ND a5 n5 c5 SF O H N E,e= .returned (.tuple #[.agg #[.slice a0 n0 c0, .slice a1 n1 c1, .slice a2 n2 c2, .slice a3 n3 c3, .int .u32 B, .slice a4 n4 c4, .int .i64 ND, .slice a5 n5 c5, .int .i64 SF, .string O], .int .u32 H, .int .i64 N, .int .i64 E])∧(¬E=0∧H=0∧N=0∨E=0∧N=n∧∃S l2 ch v',frmM m=true∧(parF (L s)).2=0∧¬(parF (L s)).1=[]∧wayOk m.tree (parF (L s)).1 S∧opnS m.tree m.insts S.reverse=some (l2,ch)∧#[.slice a0 n0 c0, .slice a1 n1 c1, .slice a2 n2 c2, .slice a3 n3 c3, .int .u32 B, .slice a4 n4 c4, .int .i64 ND, .slice a5 n5 c5, .int .i64 SF, .string O]=v'.cs {m with insts:=l2} o∧H=hdI ch+1∧OwM w.heap.size w' v' {m with insts:=l2} o)∧Below w.heap.size w w':=by
 refine (w_pOpen m v o s n w hT h g hs hn0 hn1 hno).mono ?_
 rintro e w' ⟨⟨E,hE,_,rfl⟩|⟨S,l2,ch,v',h1,h2,h3,h4,h5,rfl,ow⟩,b⟩
 ·exact ⟨none,0,0,none,0,0,none,0,0,none,0,0,0,none,0,0,0,none,0,0,0,⟨#[]⟩,0,0,E,rfl,Or.inl ⟨hE,rfl,rfl⟩,b⟩
 ·obtain ⟨sb,sp,mb,mp,wb,wp,cb,cp,tb,tp,ib,ip,rfl⟩:=ow.form
  exact ⟨_,_,_,_,_,_,_,_,_,_,_,_,_,_,_,_,_,_,_,_,_,_,_,_,_,rfl,Or.inr ⟨rfl,rfl,S,l2,ch,_,h1,h2,h3,h4,h5,rfl,rfl,ow⟩,b⟩
set_option maxHeartbeats 8000000 in
set_option maxRecDepth 100000 in
theorem w_lawBack (m:Mc) (v:Mv) (o s:ByteArray) (w:World) (hT:Tab w) (h:RdM w v m o) (g:gM m) (hs:s.size≤maxLen):
  Calls Tryz.prog 3 #[.agg (v.cs m o), .string s] w fun e w'=>e= .returned (.bool true)∧Below w.heap.size w w':=by
 obtain ⟨vs,vm,vw,vc,vt,vi⟩:=v
 have hh:=h
 obtain ⟨hs0,hm,hw,hc,ht,hi,ho⟩:=hh
 simp only at hs0 hm hw hc ht hi
 obtain ⟨sa,sq,rfl⟩:=rd_slice hs0
 obtain ⟨ma,mq,rfl⟩:=rd_slice hm
 obtain ⟨wa,wq,rfl⟩:=slr_slice hw
 obtain ⟨ca,cq,rfl⟩:=rd_slice hc
 obtain ⟨ta,tq,rfl⟩:=slr_slice ht
 obtain ⟨ia,iq,rfl⟩:=slr_slice hi
 have CA:=hid (fun W (q:Below w.heap.size w W)=>w_ialive W (hT.below q))
 have CO:=hid (fun W (q:Below w.heap.size w W) hno=>w_pOpenG m _ o s 9 W (hT.below q) (h.below q) g hs (by decide) (by decide) hno)
 have HR:=hid (fun W (q:Below w.heap.size w W)=>h.below q)
 have HT:=hid hT
 have HRW:Hid (∀W,Below w.heap.size w W→RdW W (.slice wa m.words.length wq) m.words):=fun W q=>(h.below q).words
 have hlw:=slr_len hw uW (P:=Tryz.prog)
 have hmw:=slr_max hw
 unfold maxLen at hmw
 have s0:=stands_new w #[.slice sa m.stack.length sq, .slice ma m.mem.length mq, .slice wa m.words.length wq, .slice ca m.codes.length cq, .int .u32 m.base, .slice ta m.tree.length tq, .int .i64 m.node, .slice ia m.insts.length iq, .int .i64 m.self, .string o] 30
 have bw:=box_below w (.cells #[.slice sa m.stack.length sq, .slice ma m.mem.length mq, .slice wa m.words.length wq, .slice ca m.codes.length cq, .int .u32 m.base, .slice ta m.tree.length tq, .int .i64 m.node, .slice ia m.insts.length iq, .int .i64 m.self, .string o] 30)
 simp only[Mv.cs] at CO ⊢
 clear hs0 hm hw hc ht hi ho h hT
 go_enter Tryz.func3,Tryz.ntmps3
 go_upto_region 1 with fail
 generalize w.alloc (.cells #[.slice sa m.stack.length sq, .slice ma m.mem.length mq, .slice wa m.words.length wq, .slice ca m.codes.length cq, .int .u32 m.base, .slice ta m.tree.length tq, .int .i64 m.node, .slice ia m.insts.length iq, .int .i64 m.self, .string o] 30)=W1 at s0 bw ⊢
 have F10:Hid (∀W,Below W1.heap.size W1 W→(W.cell? ⟨w.heap.size,0,none⟩=some (.slice sa m.stack.length sq)∧W.cell? ⟨w.heap.size,1,none⟩=some (.slice ma m.mem.length mq)∧W.cell? ⟨w.heap.size,2,none⟩=some (.slice wa m.words.length wq)∧W.cell? ⟨w.heap.size,3,none⟩=some (.slice ca m.codes.length cq)∧W.cell? ⟨w.heap.size,4,none⟩=some (.int .u32 m.base)∧W.cell? ⟨w.heap.size,5,none⟩=some (.slice ta m.tree.length tq)∧W.cell? ⟨w.heap.size,6,none⟩=some (.int .i64 m.node)∧W.cell? ⟨w.heap.size,7,none⟩=some (.slice ia m.insts.length iq)∧W.cell? ⟨w.heap.size,8,none⟩=some (.int .i64 m.self)∧W.cell? ⟨w.heap.size,9,none⟩=some (.string o))):=fun W q=>cells10 (s0.below q)
 go_upto_region 4 with (first|(go_at_call 4;refine (CA.out _ bw).mono ?_;rintro e w1 ⟨rfl,b1⟩)|fail)
 go_loopw [5] (fun I wx=>∃k:Nat,(k:Int)≤m.words.length∧I= .int .i64 k∧Hid (∀j (hj:j < k) (hl:j < m.words.length),¬(m.words[j]).1=[111,112,101,110]∧¬(m.words[j]).1=[99,108,111,115,101])∧Below W1.heap.size W1 wx) (fun I _=>(m.words.length - intOf I).toNat)
 case atStart=>exact ⟨0,by omega,rfl,hid (fun j hj=>by omega),b1⟩
 case round=>
  clear b1
  obtain ⟨k,hk,rfl,hq,hg⟩:=hrel
  have f2:wr.cell? ⟨w.heap.size,2,none⟩=some (.slice wa m.words.length wq):=(F10.out wr hg).2.2.1
  by_cases hlt:(k:Int) < m.words.length
  ·have hkl:k < m.words.length:=by omega
   obtain ⟨bi,oi,nm,vc,rs,y0,y1,y2,y3,y4,en,_⟩:=wrd_at (HRW.out wr (below_trans bw hg)) k hkl
   have q1:(nm.toList==[111,112,101,110])=decide (nm=⟨#[111,112,101,110]⟩):=by have q:=str_beq nm ⟨#[111,112,101,110]⟩;rwa [show (⟨#[111,112,101,110]⟩:ByteArray).toList=[111,112,101,110] from by decide+kernel] at q
   have q2:(nm.toList==[99,108,111,115,101])=decide (nm=⟨#[99,108,111,115,101]⟩):=by have q:=str_beq nm ⟨#[99,108,111,115,101]⟩;rwa [show (⟨#[99,108,111,115,101]⟩:ByteArray).toList=[99,108,111,115,101] from by decide+kernel] at q
   clear y1 y2 y3 y4
   by_cases e1:nm=⟨#[111,112,101,110]⟩
   ·rw[decide_eq_true e1] at q1
    clear e1 q2 en
    go_wp2_with fail
    go_ret
    exact ⟨rfl,below_trans bw hg⟩
   ·rw[decide_eq_false e1] at q1
    by_cases e2:nm=⟨#[99,108,111,115,101]⟩
    ·rw[decide_eq_true e2] at q2
     clear e1 e2 en
     go_wp2_with fail
     go_ret
     exact ⟨rfl,below_trans bw hg⟩
    ·rw[decide_eq_false e2] at q2
     have hq2:Hid (∀j (hj:j < k+1) (hl:j < m.words.length),¬(m.words[j]).1=[111,112,101,110]∧¬(m.words[j]).1=[99,108,111,115,101]):=by
      show ∀j _ _,_
      intro j hj hl
      by_cases hjk:j < k
      ·exact hq.out j hjk hl
      ·have:j=k:=by omega
       subst this
       exact ⟨fun z=>e1 (by rw[←en,z];rfl),fun z=>e2 (by rw[←en,z];rfl)⟩
     clear e1 e2 en
     go_wp2_with fail
     go_roundw
     case rel=>exact ⟨k+1,by omega,by go_num,hq2,hg⟩
     case measure=>simp[intOf];omega
  ·obtain rfl:k=m.words.length:=by omega
   have HNO:=hid (show ∀x∈m.words,¬x.1=[111,112,101,110] from fun x hx=>by
    obtain ⟨i,hi,rfl⟩:=List.getElem_of_mem hx
    exact (hq.out i hi hi).1)
   have HNC:=hid (show ∀x∈m.words,¬x.1=[99,108,111,115,101] from fun x hx=>by
    obtain ⟨i,hi,rfl⟩:=List.getElem_of_mem hx
    exact (hq.out i hi hi).2)
   clear hq hlt hk
   obtain ⟨t0,t1,t2,t3,t4,t5,t6,t7,t8,t9⟩:=F10.out wr hg
   clear f2
   go_upto_region 9 with (first|(go_at_call 5;refine (CO.out _ (below_trans bw hg) HNO.out).mono ?_;rintro e w2 ⟨a0,n0,c0,a1,n1,c1,a2,n2,c2,a3,n3,c3,B,a4,n4,c4,ND,a5,n5,c5,SF,O,H,N,E,rfl,hE,b2⟩)|fail)
   clear t0 t1 t2 t3 t4 t5 t6 t7 t8 t9
   rcases hE with ⟨hE,rfl,rfl⟩|⟨rfl,rfl,S,l2,ch,v2,hF,hp0,hp1,hS,hop,hG,rfl,ow⟩
   ·have q3:(E !=0)=true:=by simpa using hE
    have B2:=below_trans bw (below_trans hg (below_trans b2 (box_below w2 (.cells #[.slice a0 n0 c0, .slice a1 n1 c1, .slice a2 n2 c2, .slice a3 n3 c3, .int .u32 B, .slice a4 n4 c4, .int .i64 ND, .slice a5 n5 c5, .int .i64 SF, .string O] 30))))
    clear hE
    go_wp2_with fail
    go_ret
    exact ⟨rfl,B2⟩
   ·have od:=opd_all g hF (LB_bytes s) hp0 hS hop
    obtain ⟨x0,x1,x2,x3,x4,x5⟩:=v2
    simp only[Mv.cs] at hG
    injection hG with hG
    simp only[List.cons.injEq,Value.int.injEq,Value.string.injEq,true_and,and_true] at hG
    obtain ⟨rfl,rfl,rfl,rfl,rfl,rfl,rfl,rfl,rfl,rfl⟩:=hG
    have hlen:ch.length=(parF (L s)).1.length:=od.len.trans hS.1
    have hpos:0 < ch.length:=by rw[hlen];exact List.length_pos_iff.2 hp1
    have h16:l2.length≤16:=od.cc.le
    have hc16:ch.length≤16:=Nat.le_trans od.cc.cnt (Nat.le_trans (cntA_le _) h16)
    have hok:=par_ok (L s) (LB_bytes s) hp0
    have OD:=hid od
    have HS:=hid hS
    have HF:=hid hF
    have HOK:=hid hok
    have CP:=hid (fun W=>w_rpath s W hs)
    have CC:=hid (fun W (q:Below w2.heap.size w2 W)=>w_pchain17 {m with insts:=l2} _ O ch od.nd W (ow.read.below q) od.gm od.frm h16 hpos hc16 od.lnk)
    have CL:=hid (fun W (q:Below w2.heap.size w2 W)=>w_pClose {m with insts:=l2} _ O ch 9 W (ow.read.below q) od.gm od.frm (by decide) (by decide) hpos od.nd od.inb od.lnk od.fre HNC.out od.self)
    have RI:=hid (fun W (q:Below w2.heap.size w2 W)=>(ow.read.below q).insts)
    simp only[Mv.cs] at CC CL
    obtain ⟨lR,hlR⟩:∃l,relI l2 ch ch.length=l:=⟨_,rfl⟩
    have HL1:Hid (lR.length=l2.length):=by show _=_;rw[←hlR];exact rel_len l2 ch ch.length
    have HRA:Hid (∀i,i < l2.length→lR[i]? =some ((m.insts[i]?).getD emI)):=fun i hi=>by rw[←hlR];exact rel_all od.cc (frm_parts hF).2.2.2.2.1 i hi
    have HGE:m.insts.length≤lR.length:=by rw[HL1.out];exact od.cc.ge
    simp only[hlR] at CL
    clear hlR
    obtain ⟨⟨P,PE⟩,hP⟩:∃x,parF (L s)=x:=⟨_,rfl⟩
    have HP:=hid hP
    simp only[hP] at hp0 hlen CP
    subst hp0
    have sB:=stands_new w2 #[.slice a0 n0 c0, .slice a1 n1 c1, .slice a2 n2 c2, .slice a3 n3 c3, .int .u32 m.base, .slice a4 n4 c4, .int .i64 m.node, .slice a5 n5 c5, .int .i64 m.self, .string O] 30
    have bB:=box_below w2 (.cells #[.slice a0 n0 c0, .slice a1 n1 c1, .slice a2 n2 c2, .slice a3 n3 c3, .int .u32 m.base, .slice a4 n4 c4, .int .i64 m.node, .slice a5 n5 c5, .int .i64 m.self, .string O] 30)
    have B2:=below_trans hg (below_trans b2 bB)
    clear od hS hop hp1 hF hok CA CO hP ow
    go_upto_region 12 with (first|(go_at_call 6;refine (CP.out _).mono ?_;rintro e w3 ⟨vp,rfl,rP,b3⟩)|fail)
    have hB3:=below_trans bB b3
    have q6:=(sB.below b3).cell 6 _ rfl
    obtain ⟨u0,u1,u2,u3,u4,u5,u6,u7,u8,u9⟩:=cells10 (sB.below b3)
    have hqq:(((ch.map (fun (i:Nat)=>(i:Int)+1)).length:Int) !=(P.length:Int))=false:=by rw[List.length_map,hlen];simp
    go_upto_region 17 with (first|(go_at_call 7;refine (CC.out _ hB3).mono ?_;rintro e w4 ⟨vc,rfl,rC,b4⟩;have hlc:=rd_len rC uU (P:=Tryz.prog);have rP4:=rP.below b4 (stpR_below b4);have hlp:=slr_len rP4 uP (P:=Tryz.prog))|fail)
    clear u0 u1 u2 u3 u4 u5 u6 u7 u8 u9 q6 CC CP
    have hB4:=below_trans hB3 b4
    have hBw:=below_trans b3 b4
    have B4:=below_trans B2 (below_trans b3 b4)
    go_loopw [13,14] (fun A I wx=>∃j:Nat,j≤ch.length∧I= .int .i64 j∧A= .int .i64 ((P.length:Int) - j)∧Below w4.heap.size w4 wx) (fun _ I _=>ch.length - (intOf I).toNat)
    case atStart=>exact ⟨0,by omega,rfl,by simp,Below.refl _ _⟩
    case round=>
     clear b3 b4 b2
     obtain ⟨j,hj,rfl,rfl,hg2⟩:=hrel
     by_cases hlt:j < ch.length
     ·have hj2:j < S.reverse.length:=by rw[List.length_reverse,←OD.out.len];exact hlt
      have hSl:S.length=ch.length:=OD.out.len.symm
      obtain ⟨A,hA⟩:∃a:Nat,P.length - (j+1)=a:=⟨_,rfl⟩
      have hAP:A < P.length:=by omega
      have hAS:A < S.length:=by omega
      have hrev:S.reverse[j]=S[A]:=by
       rw[List.getElem_reverse]
       congr 1
       omega
      have hlnk:=OD.out.cc.lnk j hlt hj2
      rw[hrev] at hlnk
      obtain ⟨w1',w2'⟩:=HS.out.2 A (by rw[HP.out];exact hAP) hAS
      simp only[HP.out] at w1' w2'
      obtain ⟨jn,hjn,hjl⟩:=finT_lt w1'
      obtain ⟨k,hk⟩:∃k,ch[j]=k:=⟨_,rfl⟩
      rw[hk] at hlnk
      have HK:=hid hk
      obtain ⟨hkl,hkx⟩:=List.getElem?_eq_some_iff.1 hlnk
      obtain ⟨bi,oi,ar,vi,ri,y0,y1,y2,y3,ea,rv⟩:=ins_at (RI.out wr (below_trans hB4 hg2)) k hkl
      rw[hkx] at y0 y1 ea rv
      simp only[hjn] at y0 ea rv w1'
      simp only at y1
      obtain ⟨Y,hY⟩:∃Y,hdI (ch.drop (j+1))=Y:=⟨_,rfl⟩
      rw[hY] at y1
      obtain ⟨C,hC⟩:∃C,cel m.tree (jn:Int)=C:=⟨_,rfl⟩
      rw[hC] at rv
      have HC:=hid hC
      have HEA:=hid ea
      have HW1:=hid w1'
      have HW2:=hid w2'
      clear hkx hlnk hY hC hjn ea w1' w2' hk
      obtain ⟨va,vq,rfl⟩:=rd_slice rv
      have hlm:j < (ch.map (fun (i:Nat)=>(i:Int)+1)).length:=by rw[List.length_map];exact hlt
      obtain ⟨ac,rc,z0⟩:=rd_idx (rC.below hg2) uU zU (j:Int) (by omega) (by omega)
      rw[Int.toNat_natCast,List.getD_eq_getElem?_getD,List.getElem?_eq_getElem hlm,List.getElem_map,HK.out,Option.getD_some] at z0
      have e1:IntKind.i64.wrap ((P.length:Int) - (j:Int) - 1)=(A:Int):=by rw[IntKind.wrap_i64];omega
      have e2:IntKind.i64.wrap ((k:Int)+1)=(k:Int)+1:=by rw[IntKind.wrap_i64];omega
      have e4:IntKind.i64.wrap (k:Int)=(k:Int):=by rw[IntKind.wrap_i64];omega
      have e3:IntKind.i64.wrap ((k:Int)+1 - 1)=(k:Int):=by rw[IntKind.wrap_i64];omega
      have hltI:(j:Int) < ((ch.map (fun (i:Nat)=>(i:Int)+1)).length:Int):=by omega
      have s6:=sB.below (below_trans hBw hg2)
      have S0:Hid (∀W,Below wr.heap.size wr W→(W.cell? ⟨w2.heap.size,7,none⟩=some (.slice a5 n5 c5)∧W.cell? ac=some (.int .u32 ((k:Int)+1))∧W.cell? ⟨bi,oi,none⟩=some (.int .i64 (jn:Int))∧W.cell? ⟨bi,oi+1,none⟩=some (.int .i64 Y)∧W.cell? ⟨bi,oi+2,none⟩=some (.string ar)∧W.cell? ⟨bi,oi+3,none⟩=some (.slice va C.length vq))):=fun W q=>⟨(s6.below q).cell 7 _ rfl,below_cell q z0,below_cell q y0,below_cell q y1,below_cell q y2,below_cell q y3⟩
      have BX:Hid (∀O,Below wr.heap.size wr (wr.alloc O).drew):=fun O=>below_drewN (box_below wr O) 1
      clear z0 y0 y1 y2 y3 hrev
      go_upto_region 20 with fail
      refine wp_region_held_drew (S:=fun W=>W.cell? ⟨w2.heap.size,7,none⟩=some (.slice a5 n5 c5)∧W.cell? ac=some (.int .u32 ((k:Int)+1))∧W.cell? ⟨bi,oi,none⟩=some (.int .i64 (jn:Int))∧W.cell? ⟨bi,oi+1,none⟩=some (.int .i64 Y)∧W.cell? ⟨bi,oi+2,none⟩=some (.string ar)∧W.cell? ⟨bi,oi+3,none⟩=some (.slice va C.length vq)) (by kernel_rfl) (S0.out _ (bdr0 _)) (fun hHeld=> ?_)
      refine wpAnyH_take (i:=0) (v:= ?v1) rfl (by kernel_rfl) (by kernel_rfl) (by kernel_rfl) (fun _ _ _ h=>h) (Or.inl ⟨by kernel_rfl, ?h1⟩) hHeld ?r1
      case h1=>intro W hSw;(try dsimp only at hSw);obtain ⟨t0,t1,t2,t3,t4,t5⟩:=hSw;go_simp;try with_reducible rfl
      simp only[Act.put,List.setIfInBounds_toArray,List.set_cons_zero,List.set_cons_succ]
      refine wpAnyH_take (i:=1) (v:= ?v2) rfl (by kernel_rfl) (by kernel_rfl) (by kernel_rfl) (fun _ _ _ h=>h) (Or.inl ⟨by kernel_rfl, ?h2⟩) hHeld ?r2
      case h2=>intro W hSw;(try dsimp only at hSw);obtain ⟨t0,t1,t2,t3,t4,t5⟩:=hSw;go_simp;try with_reducible rfl
      simp only[Act.put,List.setIfInBounds_toArray,List.set_cons_zero,List.set_cons_succ]
      refine wpAnyH_take (i:=2) (v:= ?v3) rfl (by kernel_rfl) (by kernel_rfl) (by kernel_rfl) (fun _ _ _ h=>h) (Or.inl ⟨by kernel_rfl, ?h3⟩) hHeld ?r3
      case h3=>intro W hSw;(try dsimp only at hSw);obtain ⟨t0,t1,t2,t3,t4,t5⟩:=hSw;go_simp;try with_reducible rfl
      simp only[Act.put,List.setIfInBounds_toArray,List.set_cons_zero,List.set_cons_succ]
      refine wpAnyH_take (i:=3) (v:= ?v4) rfl (by kernel_rfl) (by kernel_rfl) (by kernel_rfl) (fun _ _ _ h=>h) (Or.inl ⟨by kernel_rfl, ?h4⟩) hHeld ?r4
      case h4=>intro W hSw;(try dsimp only at hSw);obtain ⟨t0,t1,t2,t3,t4,t5⟩:=hSw;go_simp;try with_reducible rfl
      simp only[Act.put,List.setIfInBounds_toArray,List.set_cons_zero,List.set_cons_succ]
      refine wpAnyH_take (i:=4) (v:= ?v5) rfl (by kernel_rfl) (by kernel_rfl) (by kernel_rfl) (fun _ _ _ h=>h) (Or.inl ⟨by kernel_rfl, ?h5⟩) hHeld ?r5
      case h5=>intro W hSw;(try dsimp only at hSw);obtain ⟨t0,t1,t2,t3,t4,t5⟩:=hSw;go_simp;try with_reducible rfl
      simp only[Act.put,List.setIfInBounds_toArray,List.set_cons_zero,List.set_cons_succ]
      refine wpAnyH_take (i:=5) (v:= ?v6) rfl (by kernel_rfl) (by kernel_rfl) (by kernel_rfl) (fun _ _ _ h=>h) (Or.inl ⟨by kernel_rfl, ?h6⟩) hHeld ?r6
      case h6=>intro W hSw;(try dsimp only at hSw);obtain ⟨t0,t1,t2,t3,t4,t5⟩:=hSw;go_simp;try with_reducible rfl
      simp only[Act.put,List.setIfInBounds_toArray,List.set_cons_zero,List.set_cons_succ]
      refine wpAnyH_take (i:=6) (v:= ?v7) rfl (by kernel_rfl) (by kernel_rfl) (by kernel_rfl) (fun _ _ _ h=>h) (Or.inl ⟨by kernel_rfl, ?h7⟩) hHeld ?r7
      case h7=>intro W hSw;(try dsimp only at hSw);obtain ⟨t0,t1,t2,t3,t4,t5⟩:=hSw;go_simp;try with_reducible rfl
      simp only[Act.put,List.setIfInBounds_toArray,List.set_cons_zero,List.set_cons_succ]
      refine wpAnyH_take (i:=7) (v:= ?v8) rfl (by kernel_rfl) (by kernel_rfl) (by kernel_rfl) (fun _ _ _ h=>h) (Or.inl ⟨by kernel_rfl, ?h8⟩) hHeld ?r8
      case h8=>intro W hSw;(try dsimp only at hSw);obtain ⟨t0,t1,t2,t3,t4,t5⟩:=hSw;go_simp;try with_reducible rfl
      simp only[Act.put,List.setIfInBounds_toArray,List.set_cons_zero,List.set_cons_succ]
      refine wpAnyH_take (i:=8) (v:= ?v9) rfl (by kernel_rfl) (by kernel_rfl) (by kernel_rfl) (fun _ _ _ h=>h) (Or.inl ⟨by kernel_rfl, ?h9⟩) hHeld ?r9
      case h9=>intro W hSw;(try dsimp only at hSw);obtain ⟨t0,t1,t2,t3,t4,t5⟩:=hSw;go_simp;try with_reducible rfl
      simp only[Act.put,List.setIfInBounds_toArray,List.set_cons_zero,List.set_cons_succ]
      refine wpAnyH_take (i:=9) (v:= ?v10) rfl (by kernel_rfl) (by kernel_rfl) (by kernel_rfl) (fun _ _ _ h=>h) (Or.inl ⟨by kernel_rfl, ?h10⟩) hHeld ?r10
      case h10=>intro W hSw;(try dsimp only at hSw);obtain ⟨t0,t1,t2,t3,t4,t5⟩:=hSw;go_simp;try with_reducible rfl
      simp only[Act.put,List.setIfInBounds_toArray,List.set_cons_zero,List.set_cons_succ]
      refine wpAnyH_ready (rs:=[10]) (by kernel_rfl) (by simp) ?_
      refine AllReadyH.cons rfl (fun K hK=> ?_) AllReadyH.nil
      go_simp
      refine hK.out _ _ (S0.out _ (BX.out _)) (fun hHeld=> ?_)
      clear hK K
      (try simp only[Act.put,List.setIfInBounds_toArray,List.set_cons_zero,List.set_cons_succ])
      refine wpAnyH_ready (rs:=[11]) (by kernel_rfl) (by simp) ?_
      refine AllReadyH.cons rfl (fun K hK=> ?_) AllReadyH.nil
      go_simp
      refine hK.out _ _ (S0.out _ (BX.out _)) (fun hHeld=> ?_)
      clear hK K
      (try simp only[Act.put,List.setIfInBounds_toArray,List.set_cons_zero,List.set_cons_succ])
      refine wpAnyH_done (by kernel_rfl) ?_ _
      have bW5:=hid (BX.out (.cells #[.int .i64 (jn:Int), .int .i64 Y, .string ar, .slice va C.length vq] 43))
      have sX:=(stands_new wr #[.int .i64 (jn:Int), .int .i64 Y, .string ar, .slice va C.length vq] 43).below (bdr0 _)
      go_upto_region 21 with fail
      have bWr:=below_trans B4 hg2
      generalize (wr.alloc (.cells #[.int .i64 (jn:Int), .int .i64 Y, .string ar, .slice va C.length vq] 43)).drew=W5 at sX bW5 ⊢
      have bWm:=below_trans bWr bW5.out
      have bWw:=below_trans bw bWm
      obtain ⟨vt5,rt5,rP5⟩:=slr_take ((rP4.below hg2 (stpR_below hg2)).below bW5.out (stpR_below bW5.out)) uP zP (A+1) (by omega)
      have rt5':∀w',(Instr.slice 38 vp none (some (.int .i64 ((A:Int)+1))) none).run Tryz.prog w'= .ok vt5 w':=rt5
      have e5:IntKind.i64.wrap ((A:Int)+1)=(A:Int)+1:=by rw[IntKind.wrap_i64];omega
      have rTm:RdT W5 (.slice ta m.tree.length tq) m.tree:=(HR.out W5 bWw).tree
      have CFi:=hid (fun W (q:Below W5.heap.size W5 W)=>by
       have z:=w_r8findT (.slice ta m.tree.length tq) vt5 m.tree (P.take (A+1)) W (rTm.below q) (rP5.below q (stpR_below q)) (fun x hx=>(g.tree x hx).1) (fun x hx=>(g.tree x hx).2.1) (fun x hx=>by
        have hm:x∈(parF (L s)).1:=by rw[HP.out];exact List.mem_of_mem_take hx
        exact ⟨(HOK.out.1 x hm).2.2.1,(HOK.out.1 x hm).2.2.2⟩)
       rw[HW1.out] at z
       exact z)
      have S1:Hid (∀W,Below W5.heap.size W5 W→(W.cell? ⟨w.heap.size,5,none⟩=some (.slice ta m.tree.length tq))):=fun W q=>(F10.out W (below_trans bWm q)).2.2.2.2.2.1
      clear rt5 rP5 rTm
      refine wp_region_held_drew (S:=fun W=>W.cell? ⟨w.heap.size,5,none⟩=some (.slice ta m.tree.length tq)) (by kernel_rfl) (S1.out _ (bdr0 _)) (fun hHeld=> ?_)
      refine wpAnyH_take (i:=0) (v:= ?v11) rfl (by kernel_rfl) (by kernel_rfl) (by kernel_rfl) (fun _ _ _ h=>h) (Or.inl ⟨by kernel_rfl, ?h11⟩) hHeld ?r11
      case h11=>intro W hSw;(try dsimp only at hSw);obtain t0:=hSw;go_simp;try with_reducible rfl
      simp only[Act.put,List.setIfInBounds_toArray,List.set_cons_zero,List.set_cons_succ]
      refine wpAnyH_take (i:=1) (v:= ?v12) rfl (by kernel_rfl) (by kernel_rfl) (by kernel_rfl) (fun _ _ _ h=>h) (Or.inl ⟨by kernel_rfl, ?h12⟩) hHeld ?r12
      case h12=>intro W hSw;(try dsimp only at hSw);obtain t0:=hSw;go_simp;try with_reducible rfl
      simp only[Act.put,List.setIfInBounds_toArray,List.set_cons_zero,List.set_cons_succ]
      refine wpAnyH_take (i:=2) (v:= ?v13) rfl (by kernel_rfl) (by kernel_rfl) (by kernel_rfl) (fun _ _ _ h=>h) (Or.inl ⟨by kernel_rfl, ?h13⟩) hHeld ?r13
      case h13=>intro W hSw;(try dsimp only at hSw);obtain t0:=hSw;go_simp;try with_reducible rfl
      simp only[Act.put,List.setIfInBounds_toArray,List.set_cons_zero,List.set_cons_succ]
      refine wpAnyH_take (i:=3) (v:= ?v14) rfl (by kernel_rfl) (by kernel_rfl) (by kernel_rfl) (fun _ _ _ h=>h) (Or.inl ⟨by kernel_rfl, ?h14⟩) hHeld ?r14
      case h14=>intro W hSw;(try dsimp only at hSw);obtain t0:=hSw;go_simp;try with_reducible rfl
      simp only[Act.put,List.setIfInBounds_toArray,List.set_cons_zero,List.set_cons_succ]
      refine wpAnyH_take (i:=4) (v:= ?v15) rfl (by kernel_rfl) (by kernel_rfl) (by kernel_rfl) (fun _ _ _ h=>h) (Or.inl ⟨by kernel_rfl, ?h15⟩) hHeld ?r15
      case h15=>intro W hSw;(try dsimp only at hSw);obtain t0:=hSw;go_simp;try with_reducible rfl
      simp only[Act.put,List.setIfInBounds_toArray,List.set_cons_zero,List.set_cons_succ]
      refine wpAnyH_take (i:=5) (v:= ?v16) rfl (by kernel_rfl) (by kernel_rfl) (by kernel_rfl) (fun _ _ _ h=>h) (Or.inl ⟨by kernel_rfl, ?h16⟩) hHeld ?r16
      case h16=>intro W hSw;(try dsimp only at hSw);obtain t0:=hSw;go_simp;try with_reducible rfl
      simp only[Act.put,List.setIfInBounds_toArray,List.set_cons_zero,List.set_cons_succ]
      refine wpAnyH_ready (rs:=[6]) (by kernel_rfl) (by simp) ?_
      refine AllReadyH.cons rfl (fun K hK=> ?_) AllReadyH.nil
      go_simp
      go_wp2_with (first|(go_at_call 8;refine (CFi.out _ (bdr0 _)).mono ?_;rintro e w6 ⟨rfl,b6⟩;have B6:=hid b6;clear b6))
      refine hK.out _ _ (S1.out _ (below_trans (bdr0 _) B6.out)) (fun hHeld=> ?_)
      clear hK K
      (try simp only[Act.put,List.setIfInBounds_toArray,List.set_cons_zero,List.set_cons_succ])
      refine wpAnyH_take (i:=7) (v:= ?v17) rfl (by kernel_rfl) (by kernel_rfl) (by kernel_rfl) (fun _ _ _ h=>h) (Or.inl ⟨by kernel_rfl, ?h17⟩) hHeld ?r17
      case h17=>intro W hSw;(try dsimp only at hSw);obtain t0:=hSw;go_simp;try with_reducible rfl
      simp only[Act.put,List.setIfInBounds_toArray,List.set_cons_zero,List.set_cons_succ]
      refine wpAnyH_take (i:=8) (v:= ?v18) rfl (by kernel_rfl) (by kernel_rfl) (by kernel_rfl) (fun _ _ _ h=>h) (Or.inl ⟨by kernel_rfl, ?h18⟩) hHeld ?r18
      case h18=>intro W hSw;(try dsimp only at hSw);obtain t0:=hSw;go_simp;try with_reducible rfl
      simp only[Act.put,List.setIfInBounds_toArray,List.set_cons_zero,List.set_cons_succ]
      refine wpAnyH_take (i:=9) (v:= ?v19) rfl (by kernel_rfl) (by kernel_rfl) (by kernel_rfl) (fun _ _ _ h=>h) (Or.inl ⟨by kernel_rfl, ?h19⟩) hHeld ?r19
      case h19=>intro W hSw;(try dsimp only at hSw);obtain t0:=hSw;go_simp;try with_reducible rfl
      simp only[Act.put,List.setIfInBounds_toArray,List.set_cons_zero,List.set_cons_succ]
      refine wpAnyH_ready (rs:=[10]) (by kernel_rfl) (by simp) ?_
      refine AllReadyH.cons rfl (fun K hK=> ?_) AllReadyH.nil
      go_simp
      refine hK.out _ _ (S1.out _ (below_trans (bdr0 _) B6.out)) (fun hHeld=> ?_)
      clear hK K
      (try simp only[Act.put,List.setIfInBounds_toArray,List.set_cons_zero,List.set_cons_succ])
      refine wpAnyH_ready (rs:=[11]) (by kernel_rfl) (by simp) ?_
      refine AllReadyH.cons rfl (fun K hK=> ?_) AllReadyH.nil
      go_simp
      refine hK.out _ _ (S1.out _ (below_trans (bdr0 _) B6.out)) (fun hHeld=> ?_)
      clear hK K
      (try simp only[Act.put,List.setIfInBounds_toArray,List.set_cons_zero,List.set_cons_succ])
      refine wpAnyH_done (by kernel_rfl) ?_ _
      go_upto_region 22 with fail
      have b56:=below_trans (bdr0 W5) B6.out
      have bW6:=below_trans bW5.out b56
      have sX6:=sX.below b56
      obtain ⟨bs,os,sn,sa2,so,nU,sc,rs2,p0,p1,p2,es,ea2,hsu⟩:=stp_at ((rP4.below hg2 (stpR_below hg2)).below bW6 (stpR_below bW6)) A hAP
      have hss:ar=sa2:=by rw[←ea2,←HEA.out,HW2.out]
      subst hss
      obtain ⟨bn,on,nm,vu,vpp,vcn,rn,n0',n1',n2',n3',n4',en,hun,hpn,hcn⟩:=nod_at (HR.out w6 (below_trans bWw b56)).tree jn hjl
      simp only at rn
      have hCn:(m.tree[jn]).2.2.2.2=C:=by rw[←HC.out];exact (cel_at rfl hjl).symm
      rw[hCn] at hcn
      obtain ⟨na,nq,rfl⟩:=rd_slice hcn
      have rvb:=(rv.below bW6)
      have CS:=hid (fun W (q:Below w6.heap.size w6 W)=>by
       have z:=w_r3same _ _ C C W (rvb.below q) (hcn.below q)
       rw[decide_eq_true rfl] at z
       exact z)
      have S2:Hid (∀W,Below w6.heap.size w6 W→(W.cell? ⟨wr.heap.size,0,none⟩=some (.int .i64 (jn:Int))∧W.cell? ⟨wr.heap.size,2,none⟩=some (.string ar)∧W.cell? ⟨wr.heap.size,3,none⟩=some (.slice va C.length vq)∧W.cell? ⟨w.heap.size,5,none⟩=some (.slice ta m.tree.length tq)∧W.cell? ⟨bs,os+2,none⟩=some (.string ar)∧W.cell? ⟨bn,on+4,none⟩=some (.slice na C.length nq))):=fun W q=>⟨(sX6.below q).cell 0 _ rfl,(sX6.below q).cell 2 _ rfl,(sX6.below q).cell 3 _ rfl,(F10.out W (below_trans (below_trans bWm b56) q)).2.2.2.2.2.1,below_cell q p2,below_cell q n4'⟩
      clear sX sX6 p0 p1 p2 es ea2 hsu n0' n1' n2' n3' n4' en hun hpn hcn rvb hCn
      refine wp_region_held_drew (S:=fun W=>W.cell? ⟨wr.heap.size,0,none⟩=some (.int .i64 (jn:Int))∧W.cell? ⟨wr.heap.size,2,none⟩=some (.string ar)∧W.cell? ⟨wr.heap.size,3,none⟩=some (.slice va C.length vq)∧W.cell? ⟨w.heap.size,5,none⟩=some (.slice ta m.tree.length tq)∧W.cell? ⟨bs,os+2,none⟩=some (.string ar)∧W.cell? ⟨bn,on+4,none⟩=some (.slice na C.length nq)) (by kernel_rfl) (S2.out _ (bdr0 _)) (fun hHeld=> ?_)
      refine wpAnyH_take (i:=0) (v:= ?v20) rfl (by kernel_rfl) (by kernel_rfl) (by kernel_rfl) (fun _ _ _ h=>h) (Or.inl ⟨by kernel_rfl, ?h20⟩) hHeld ?r20
      case h20=>intro W hSw;(try dsimp only at hSw);obtain ⟨t0,t1,t2,t3,t4,t5⟩:=hSw;go_simp;try with_reducible rfl
      simp only[Act.put,List.setIfInBounds_toArray,List.set_cons_zero,List.set_cons_succ]
      refine wpAnyH_take (i:=1) (v:= ?v21) rfl (by kernel_rfl) (by kernel_rfl) (by kernel_rfl) (fun _ _ _ h=>h) (Or.inl ⟨by kernel_rfl, ?h21⟩) hHeld ?r21
      case h21=>intro W hSw;(try dsimp only at hSw);obtain ⟨t0,t1,t2,t3,t4,t5⟩:=hSw;go_simp;try with_reducible rfl
      simp only[Act.put,List.setIfInBounds_toArray,List.set_cons_zero,List.set_cons_succ]
      refine wpAnyH_take (i:=2) (v:= ?v22) rfl (by kernel_rfl) (by kernel_rfl) (by kernel_rfl) (fun _ _ _ h=>h) (Or.inl ⟨by kernel_rfl, ?h22⟩) hHeld ?r22
      case h22=>intro W hSw;(try dsimp only at hSw);obtain ⟨t0,t1,t2,t3,t4,t5⟩:=hSw;go_simp;try with_reducible rfl
      simp only[Act.put,List.setIfInBounds_toArray,List.set_cons_zero,List.set_cons_succ]
      refine wpAnyH_take (i:=3) (v:= ?v23) rfl (by kernel_rfl) (by kernel_rfl) (by kernel_rfl) (fun _ _ _ h=>h) (Or.inl ⟨by kernel_rfl, ?h23⟩) hHeld ?r23
      case h23=>intro W hSw;(try dsimp only at hSw);obtain ⟨t0,t1,t2,t3,t4,t5⟩:=hSw;go_simp;try with_reducible rfl
      simp only[Act.put,List.setIfInBounds_toArray,List.set_cons_zero,List.set_cons_succ]
      refine wpAnyH_take (i:=4) (v:= ?v24) rfl (by kernel_rfl) (by kernel_rfl) (by kernel_rfl) (fun _ _ _ h=>h) (Or.inl ⟨by kernel_rfl, ?h24⟩) hHeld ?r24
      case h24=>intro W hSw;(try dsimp only at hSw);obtain ⟨t0,t1,t2,t3,t4,t5⟩:=hSw;go_simp;try with_reducible rfl
      simp only[Act.put,List.setIfInBounds_toArray,List.set_cons_zero,List.set_cons_succ]
      refine wpAnyH_take (i:=5) (v:= ?v25) rfl (by kernel_rfl) (by kernel_rfl) (by kernel_rfl) (fun _ _ _ h=>h) (Or.inl ⟨by kernel_rfl, ?h25⟩) hHeld ?r25
      case h25=>intro W hSw;(try dsimp only at hSw);obtain ⟨t0,t1,t2,t3,t4,t5⟩:=hSw;go_simp;try with_reducible rfl
      simp only[Act.put,List.setIfInBounds_toArray,List.set_cons_zero,List.set_cons_succ]
      refine wpAnyH_take (i:=6) (v:= ?v26) rfl (by kernel_rfl) (by kernel_rfl) (by kernel_rfl) (fun _ _ _ h=>h) (Or.inl ⟨by kernel_rfl, ?h26⟩) hHeld ?r26
      case h26=>intro W hSw;(try dsimp only at hSw);obtain ⟨t0,t1,t2,t3,t4,t5⟩:=hSw;go_simp;try with_reducible rfl
      simp only[Act.put,List.setIfInBounds_toArray,List.set_cons_zero,List.set_cons_succ]
      refine wpAnyH_take (i:=7) (v:= ?v27) rfl (by kernel_rfl) (by kernel_rfl) (by kernel_rfl) (fun _ _ _ h=>h) (Or.inl ⟨by kernel_rfl, ?h27⟩) hHeld ?r27
      case h27=>intro W hSw;(try dsimp only at hSw);obtain ⟨t0,t1,t2,t3,t4,t5⟩:=hSw;go_simp;try with_reducible rfl
      simp only[Act.put,List.setIfInBounds_toArray,List.set_cons_zero,List.set_cons_succ]
      refine wpAnyH_take (i:=8) (v:= ?v28) rfl (by kernel_rfl) (by kernel_rfl) (by kernel_rfl) (fun _ _ _ h=>h) (Or.inl ⟨by kernel_rfl, ?h28⟩) hHeld ?r28
      case h28=>intro W hSw;(try dsimp only at hSw);obtain ⟨t0,t1,t2,t3,t4,t5⟩:=hSw;go_simp;try with_reducible rfl
      simp only[Act.put,List.setIfInBounds_toArray,List.set_cons_zero,List.set_cons_succ]
      refine wpAnyH_take (i:=9) (v:= ?v29) rfl (by kernel_rfl) (by kernel_rfl) (by kernel_rfl) (fun _ _ _ h=>h) (Or.inl ⟨by kernel_rfl, ?h29⟩) hHeld ?r29
      case h29=>intro W hSw;(try dsimp only at hSw);obtain ⟨t0,t1,t2,t3,t4,t5⟩:=hSw;go_simp;try with_reducible rfl
      simp only[Act.put,List.setIfInBounds_toArray,List.set_cons_zero,List.set_cons_succ]
      refine wpAnyH_take (i:=10) (v:= ?v30) rfl (by kernel_rfl) (by kernel_rfl) (by kernel_rfl) (fun _ _ _ h=>h) (Or.inl ⟨by kernel_rfl, ?h30⟩) hHeld ?r30
      case h30=>intro W hSw;(try dsimp only at hSw);obtain ⟨t0,t1,t2,t3,t4,t5⟩:=hSw;go_simp;try with_reducible rfl
      simp only[Act.put,List.setIfInBounds_toArray,List.set_cons_zero,List.set_cons_succ]
      refine wpAnyH_take (i:=11) (v:= ?v31) rfl (by kernel_rfl) (by kernel_rfl) (by kernel_rfl) (fun _ _ _ h=>h) (Or.inl ⟨by kernel_rfl, ?h31⟩) hHeld ?r31
      case h31=>intro W hSw;(try dsimp only at hSw);obtain ⟨t0,t1,t2,t3,t4,t5⟩:=hSw;go_simp;try with_reducible rfl
      simp only[Act.put,List.setIfInBounds_toArray,List.set_cons_zero,List.set_cons_succ]
      refine wpAnyH_take (i:=12) (v:= ?v32) rfl (by kernel_rfl) (by kernel_rfl) (by kernel_rfl) (fun _ _ _ h=>h) (Or.inl ⟨by kernel_rfl, ?h32⟩) hHeld ?r32
      case h32=>intro W hSw;(try dsimp only at hSw);obtain ⟨t0,t1,t2,t3,t4,t5⟩:=hSw;go_simp;try with_reducible rfl
      simp only[Act.put,List.setIfInBounds_toArray,List.set_cons_zero,List.set_cons_succ]
      refine wpAnyH_take (i:=13) (v:= ?v33) rfl (by kernel_rfl) (by kernel_rfl) (by kernel_rfl) (fun _ _ _ h=>h) (Or.inl ⟨by kernel_rfl, ?h33⟩) hHeld ?r33
      case h33=>intro W hSw;(try dsimp only at hSw);obtain ⟨t0,t1,t2,t3,t4,t5⟩:=hSw;go_simp;try with_reducible rfl
      simp only[Act.put,List.setIfInBounds_toArray,List.set_cons_zero,List.set_cons_succ]
      refine wpAnyH_take (i:=14) (v:= ?v34) rfl (by kernel_rfl) (by kernel_rfl) (by kernel_rfl) (fun _ _ _ h=>h) (Or.inl ⟨by kernel_rfl, ?h34⟩) hHeld ?r34
      case h34=>intro W hSw;(try dsimp only at hSw);obtain ⟨t0,t1,t2,t3,t4,t5⟩:=hSw;go_simp;try with_reducible rfl
      simp only[Act.put,List.setIfInBounds_toArray,List.set_cons_zero,List.set_cons_succ]
      refine wpAnyH_take (i:=15) (v:= ?v35) rfl (by kernel_rfl) (by kernel_rfl) (by kernel_rfl) (fun _ _ _ h=>h) (Or.inl ⟨by kernel_rfl, ?h35⟩) hHeld ?r35
      case h35=>intro W hSw;(try dsimp only at hSw);obtain ⟨t0,t1,t2,t3,t4,t5⟩:=hSw;go_simp;try with_reducible rfl
      simp only[Act.put,List.setIfInBounds_toArray,List.set_cons_zero,List.set_cons_succ]
      refine wpAnyH_take (i:=16) (v:= ?v36) rfl (by kernel_rfl) (by kernel_rfl) (by kernel_rfl) (fun _ _ _ h=>h) (Or.inl ⟨by kernel_rfl, ?h36⟩) hHeld ?r36
      case h36=>intro W hSw;(try dsimp only at hSw);obtain ⟨t0,t1,t2,t3,t4,t5⟩:=hSw;go_simp;try with_reducible rfl
      simp only[Act.put,List.setIfInBounds_toArray,List.set_cons_zero,List.set_cons_succ]
      refine wpAnyH_take (i:=17) (v:= ?v37) rfl (by kernel_rfl) (by kernel_rfl) (by kernel_rfl) (fun _ _ _ h=>h) (Or.inl ⟨by kernel_rfl, ?h37⟩) hHeld ?r37
      case h37=>intro W hSw;(try dsimp only at hSw);obtain ⟨t0,t1,t2,t3,t4,t5⟩:=hSw;go_simp;try with_reducible rfl
      simp only[Act.put,List.setIfInBounds_toArray,List.set_cons_zero,List.set_cons_succ]
      refine wpAnyH_take (i:=18) (v:= ?v38) rfl (by kernel_rfl) (by kernel_rfl) (by kernel_rfl) (fun _ _ _ h=>h) (Or.inl ⟨by kernel_rfl, ?h38⟩) hHeld ?r38
      case h38=>intro W hSw;(try dsimp only at hSw);obtain ⟨t0,t1,t2,t3,t4,t5⟩:=hSw;go_simp;try with_reducible rfl
      simp only[Act.put,List.setIfInBounds_toArray,List.set_cons_zero,List.set_cons_succ]
      refine wpAnyH_take (i:=19) (v:= ?v39) rfl (by kernel_rfl) (by kernel_rfl) (by kernel_rfl) (fun _ _ _ h=>h) (Or.inl ⟨by kernel_rfl, ?h39⟩) hHeld ?r39
      case h39=>intro W hSw;(try dsimp only at hSw);obtain ⟨t0,t1,t2,t3,t4,t5⟩:=hSw;go_simp;try with_reducible rfl
      simp only[Act.put,List.setIfInBounds_toArray,List.set_cons_zero,List.set_cons_succ]
      refine wpAnyH_take (i:=20) (v:= ?v40) rfl (by kernel_rfl) (by kernel_rfl) (by kernel_rfl) (fun _ _ _ h=>h) (Or.inl ⟨by kernel_rfl, ?h40⟩) hHeld ?r40
      case h40=>intro W hSw;(try dsimp only at hSw);obtain ⟨t0,t1,t2,t3,t4,t5⟩:=hSw;go_simp;try with_reducible rfl
      simp only[Act.put,List.setIfInBounds_toArray,List.set_cons_zero,List.set_cons_succ]
      refine wpAnyH_take (i:=21) (v:= ?v41) rfl (by kernel_rfl) (by kernel_rfl) (by kernel_rfl) (fun _ _ _ h=>h) (Or.inl ⟨by kernel_rfl, ?h41⟩) hHeld ?r41
      case h41=>intro W hSw;(try dsimp only at hSw);obtain ⟨t0,t1,t2,t3,t4,t5⟩:=hSw;go_simp;try with_reducible rfl
      simp only[Act.put,List.setIfInBounds_toArray,List.set_cons_zero,List.set_cons_succ]
      refine wpAnyH_take (i:=22) (v:= ?v42) rfl (by kernel_rfl) (by kernel_rfl) (by kernel_rfl) (fun _ _ _ h=>h) (Or.inl ⟨by kernel_rfl, ?h42⟩) hHeld ?r42
      case h42=>intro W hSw;(try dsimp only at hSw);obtain ⟨t0,t1,t2,t3,t4,t5⟩:=hSw;go_simp;try with_reducible rfl
      simp only[Act.put,List.setIfInBounds_toArray,List.set_cons_zero,List.set_cons_succ]
      refine wpAnyH_take (i:=23) (v:= ?v43) rfl (by kernel_rfl) (by kernel_rfl) (by kernel_rfl) (fun _ _ _ h=>h) (Or.inl ⟨by kernel_rfl, ?h43⟩) hHeld ?r43
      case h43=>intro W hSw;(try dsimp only at hSw);obtain ⟨t0,t1,t2,t3,t4,t5⟩:=hSw;go_simp;try with_reducible rfl
      simp only[Act.put,List.setIfInBounds_toArray,List.set_cons_zero,List.set_cons_succ]
      refine wpAnyH_take (i:=24) (v:= ?v44) rfl (by kernel_rfl) (by kernel_rfl) (by kernel_rfl) (fun _ _ _ h=>h) (Or.inl ⟨by kernel_rfl, ?h44⟩) hHeld ?r44
      case h44=>intro W hSw;(try dsimp only at hSw);obtain ⟨t0,t1,t2,t3,t4,t5⟩:=hSw;go_simp;try with_reducible rfl
      simp only[Act.put,List.setIfInBounds_toArray,List.set_cons_zero,List.set_cons_succ]
      refine wpAnyH_take (i:=25) (v:= ?v45) rfl (by kernel_rfl) (by kernel_rfl) (by kernel_rfl) (fun _ _ _ h=>h) (Or.inl ⟨by kernel_rfl, ?h45⟩) hHeld ?r45
      case h45=>intro W hSw;(try dsimp only at hSw);obtain ⟨t0,t1,t2,t3,t4,t5⟩:=hSw;go_simp;try with_reducible rfl
      simp only[Act.put,List.setIfInBounds_toArray,List.set_cons_zero,List.set_cons_succ]
      refine wpAnyH_take (i:=26) (v:= ?v46) rfl (by kernel_rfl) (by kernel_rfl) (by kernel_rfl) (fun _ _ _ h=>h) (Or.inl ⟨by kernel_rfl, ?h46⟩) hHeld ?r46
      case h46=>intro W hSw;(try dsimp only at hSw);obtain ⟨t0,t1,t2,t3,t4,t5⟩:=hSw;go_simp;try with_reducible rfl
      simp only[Act.put,List.setIfInBounds_toArray,List.set_cons_zero,List.set_cons_succ]
      refine wpAnyH_ready (rs:=[27]) (by kernel_rfl) (by simp) ?_
      refine AllReadyH.cons rfl (fun K hK=> ?_) AllReadyH.nil
      go_simp
      go_wp2_with (first|(go_at_call 9;refine (CS.out _ (bdr0 _)).mono ?_;rintro e w7 ⟨rfl,b7⟩;have B7:=hid b7;clear b7))
      refine hK.out _ _ (S2.out _ (below_trans (bdr0 _) B7.out)) (fun hHeld=> ?_)
      clear hK K
      (try simp only[Act.put,List.setIfInBounds_toArray,List.set_cons_zero,List.set_cons_succ])
      refine wpAnyH_take (i:=28) (v:= ?v47) rfl (by kernel_rfl) (by kernel_rfl) (by kernel_rfl) (fun _ _ _ h=>h) (Or.inl ⟨by kernel_rfl, ?h47⟩) hHeld ?r47
      case h47=>intro W hSw;(try dsimp only at hSw);obtain ⟨t0,t1,t2,t3,t4,t5⟩:=hSw;go_simp;try with_reducible rfl
      simp only[Act.put,List.setIfInBounds_toArray,List.set_cons_zero,List.set_cons_succ]
      refine wpAnyH_take (i:=29) (v:= ?v48) rfl (by kernel_rfl) (by kernel_rfl) (by kernel_rfl) (fun _ _ _ h=>h) (Or.inl ⟨by kernel_rfl, ?h48⟩) hHeld ?r48
      case h48=>intro W hSw;(try dsimp only at hSw);obtain ⟨t0,t1,t2,t3,t4,t5⟩:=hSw;go_simp;try with_reducible rfl
      simp only[Act.put,List.setIfInBounds_toArray,List.set_cons_zero,List.set_cons_succ]
      refine wpAnyH_done (by kernel_rfl) ?_ _
      have hgF:=below_trans hg2 (below_trans bW6 (below_trans (bdr0 w6) B7.out))
      go_wp2_with fail
      go_roundw
      case rel=>exact ⟨j+1,by omega,by go_num,by go_num,hgF⟩
      case measure=>simp[intOf];omega
     ·obtain rfl:j=ch.length:=by omega
      have hBr:=below_trans hB4 hg2
      have bWr:=below_trans B4 hg2
      have hltf:decide ((ch.length:Int) < ((ch.map (fun (i:Nat)=>(i:Int)+1)).length:Int))=false:=decide_eq_false (by rw[List.length_map];omega)
      have hge:=decide_eq_false (show ¬(lR.length:Int) < (m.insts.length:Int) by omega)
      obtain ⟨u0,u1,u2,u3,u4,u5,u6,u7,u8,u9⟩:=cells10 ((sB.below hBw).below hg2)
      go_upto_region 25 with (first|(go_at_call 10;refine (CL.out _ hBr).mono ?_;rintro e w5 ⟨v5,rfl,o5,b5⟩;obtain ⟨d0,d1,d2,d3,d4,d5,d6,d7,d8,d9,da,db,rfl⟩:=o5.formI)|fail)
      clear u0 u1 u2 u3 u4 u5 u6 u7 u8 u9
      have b5x:=below_trans b5 (box_below w5 (.cells #[.slice d0 m.stack.length d1, .slice d2 m.mem.length d3, .slice d4 m.words.length d5, .slice d6 m.codes.length d7, .int .u32 m.base, .slice d8 m.tree.length d9, .int .i64 m.node, .slice da lR.length db, .int .i64 m.self, .string O] 30))
      have s5:=stands_new w5 #[.slice d0 m.stack.length d1, .slice d2 m.mem.length d3, .slice d4 m.words.length d5, .slice d6 m.codes.length d7, .int .u32 m.base, .slice d8 m.tree.length d9, .int .i64 m.node, .slice da lR.length db, .int .i64 m.self, .string O] 30
      have RI5:RdI (w5.alloc (.cells #[.slice d0 m.stack.length d1, .slice d2 m.mem.length d3, .slice d4 m.words.length d5, .slice d6 m.codes.length d7, .int .u32 m.base, .slice d8 m.tree.length d9, .int .i64 m.node, .slice da lR.length db, .int .i64 m.self, .string O] 30)) (.slice da lR.length db) lR:=(o5.below (box_below w5 _)).read.insts
      generalize w5.alloc (.cells #[.slice d0 m.stack.length d1, .slice d2 m.mem.length d3, .slice d4 m.words.length d5, .slice d6 m.codes.length d7, .int .u32 m.base, .slice d8 m.tree.length d9, .int .i64 m.node, .slice da lR.length db, .int .i64 m.self, .string O] 30)=W6 at b5x s5 RI5 ⊢
      have bW6:=below_trans bWr b5x
      have hlm:=slr_len (HR.out W6 (below_trans bw bW6)).insts uI (P:=Tryz.prog)
      have hl5:=slr_len RI5 uI (P:=Tryz.prog)
      have hm5:=slr_max RI5
      unfold maxLen at hm5
      have Hm5:=hid hm5
      clear hm5
      simp only at hlm
      obtain ⟨t0,t1,t2,t3,t4,t5,t6,t7,t8,t9⟩:=F10.out W6 bW6
      have g7:=s5.cell 7 _ rfl
      have g8:=s5.cell 8 _ rfl
      clear o5 b5
      go_upto_region 27 with fail
      clear t0 t1 t2 t3 t4 t5 t6 t7 t8 t9 g7 g8
      go_wp2_with fail
      have hgeN:decide (lR.length < m.insts.length)=false:=decide_eq_false (by have:=of_decide_eq_false hge;omega)
      simp only[hgeN]
      clear hgeN
      go_loopw [21] (fun I wx=>∃k:Nat,(k:Int)≤lR.length∧I= .int .i64 k∧Below W6.heap.size W6 wx) (fun I _=>(lR.length - intOf I).toNat)
      case atStart=>exact ⟨0,by omega,rfl,Below.refl _ _⟩
      case round=>
       obtain ⟨k,hk,rfl,hg3⟩:=hrel
       have g7:wr.cell? ⟨w5.heap.size,7,none⟩=some (.slice da lR.length db):=(s5.below hg3).cell 7 _ rfl
       by_cases hlt:(k:Int) < lR.length
       ·have hkl:k < lR.length:=by omega
        have hk48:IntKind.i64.wrap ((k:Int)+1)=(k:Int)+1:=by have:=Hm5.out;rw[IntKind.wrap_i64];omega
        have hr:=HRA.out k (by rw[←HL1.out];exact hkl)
        have hx:lR[k]=(m.insts[k]?).getD emI:=by rw[List.getElem?_eq_getElem hkl] at hr;exact Option.some.inj hr
        obtain ⟨b1,o1,ar1,v1,r1,x0,x1,x2,x3,ea1,rv1⟩:=ins_at (RI5.below hg3) k hkl
        obtain ⟨va1,vq1,rfl⟩:=rd_slice rv1
        have bZ:=box_below wr (.cells #[.int .i64 (-1), .int .i64 (-1), .string ⟨#[]⟩, .slice none 0 0] 43)
        have bWz:=below_trans bW6 (below_trans hg3 bZ)
        have t7:(wr.alloc (.cells #[.int .i64 (-1), .int .i64 (-1), .string ⟨#[]⟩, .slice none 0 0] 43)).cell? ⟨w.heap.size,7,none⟩=some (.slice ia m.insts.length iq):=(F10.out _ bWz).2.2.2.2.2.2.2.1
        have sZ:=stands_new wr #[.int .i64 (-1), .int .i64 (-1), .string ⟨#[]⟩, .slice none 0 0] 43
        clear hr
        by_cases hm:k < m.insts.length
        ·have hmI:decide ((k:Int) < (m.insts.length:Int))=true:=decide_eq_true (by omega)
         have hxx:lR[k]=m.insts[k]:=by rw[hx,List.getElem?_eq_getElem hm];rfl
         obtain ⟨b2,o2,ar2,v2,r2,u0,u1,u2,u3,ea2,rv2⟩:=ins_at (HR.out wr (below_trans bw (below_trans bW6 hg3))).insts k hm
         obtain ⟨va2,vq2,rfl⟩:=rd_slice rv2
         have gx:bytesL (m.insts[k]).2.2.1:=fun c hc=>(g.insts _ (List.getElem_mem hm)).byt c hc
         have bxx:bytesL (lR[k]).2.2.1:=by rw[hxx];exact gx
         have y0:=below_cell bZ u0
         have y1:=below_cell bZ u1
         have y2:=below_cell bZ u2
         have y3:=below_cell bZ u3
         have z0:=sZ.cell 0 _ rfl
         have z1:=sZ.cell 1 _ rfl
         have z2:=sZ.cell 2 _ rfl
         have z3:=sZ.cell 3 _ rfl
         have f0:=sZ.free 0
         have f1:=sZ.free 1
         have f2:=sZ.free 2
         have f3:=sZ.free 3
         have CI9:=hid (fun W (q:Below wr.heap.size wr W)=>by
          have z:=w_r9inst lR[k] m.insts[k] ar1 ar2 _ _ W ea1 ea2 (rv1.below q) (rv2.below q) bxx gx
          rw[show eqI lR[k] m.insts[k]=true from decide_eq_true hxx] at z
          exact z)
         have bZ2:=box_below wr (.cells #[.int .i64 (m.insts[k]).1, .int .i64 (m.insts[k]).2.1, .string ar2, .slice va2 (m.insts[k]).2.2.2.length vq2] 43)
         have sZ2:=stands_new wr #[.int .i64 (m.insts[k]).1, .int .i64 (m.insts[k]).2.1, .string ar2, .slice va2 (m.insts[k]).2.2.2.length vq2] 43
         have S3:Hid (∀W,Below (wr.alloc (.cells #[.int .i64 (m.insts[k]).1, .int .i64 (m.insts[k]).2.1, .string ar2, .slice va2 (m.insts[k]).2.2.2.length vq2] 43)).heap.size (wr.alloc (.cells #[.int .i64 (m.insts[k]).1, .int .i64 (m.insts[k]).2.1, .string ar2, .slice va2 (m.insts[k]).2.2.2.length vq2] 43)) W→(W.cell? ⟨w5.heap.size,7,none⟩=some (.slice da lR.length db)∧W.cell? ⟨b1,o1,none⟩=some (.int .i64 (lR[k]).1)∧W.cell? ⟨b1,o1+1,none⟩=some (.int .i64 (lR[k]).2.1)∧W.cell? ⟨b1,o1+2,none⟩=some (.string ar1)∧W.cell? ⟨b1,o1+3,none⟩=some (.slice va1 (lR[k]).2.2.2.length vq1)∧W.cell? ⟨wr.heap.size,0,none⟩=some (.int .i64 (m.insts[k]).1)∧W.cell? ⟨wr.heap.size,1,none⟩=some (.int .i64 (m.insts[k]).2.1)∧W.cell? ⟨wr.heap.size,2,none⟩=some (.string ar2)∧W.cell? ⟨wr.heap.size,3,none⟩=some (.slice va2 (m.insts[k]).2.2.2.length vq2))):=fun W q=>⟨(s5.below (below_trans hg3 (below_trans bZ2 q))).cell 7 _ rfl,below_cell (below_trans bZ2 q) x0,below_cell (below_trans bZ2 q) x1,below_cell (below_trans bZ2 q) x2,below_cell (below_trans bZ2 q) x3,(sZ2.below q).cell 0 _ rfl,(sZ2.below q).cell 1 _ rfl,(sZ2.below q).cell 2 _ rfl,(sZ2.below q).cell 3 _ rfl⟩
         have BZ:=hid bZ2
         clear hx hxx bxx gx x0 x1 x2 x3 ea1 ea2 sZ sZ2 bZ bZ2 u0 u1 u2 u3 rv1 rv2
         go_upto_region 33 with fail
         clear y0 y1 y2 y3 z0 z1 z2 z3 f0 f1 f2 f3
         refine wp_region_held_drew (S:=fun W=>W.cell? ⟨w5.heap.size,7,none⟩=some (.slice da lR.length db)∧W.cell? ⟨b1,o1,none⟩=some (.int .i64 (lR[k]).1)∧W.cell? ⟨b1,o1+1,none⟩=some (.int .i64 (lR[k]).2.1)∧W.cell? ⟨b1,o1+2,none⟩=some (.string ar1)∧W.cell? ⟨b1,o1+3,none⟩=some (.slice va1 (lR[k]).2.2.2.length vq1)∧W.cell? ⟨wr.heap.size,0,none⟩=some (.int .i64 (m.insts[k]).1)∧W.cell? ⟨wr.heap.size,1,none⟩=some (.int .i64 (m.insts[k]).2.1)∧W.cell? ⟨wr.heap.size,2,none⟩=some (.string ar2)∧W.cell? ⟨wr.heap.size,3,none⟩=some (.slice va2 (m.insts[k]).2.2.2.length vq2)) (by kernel_rfl) (S3.out _ (bdr0 _)) (fun hHeld=> ?_)
         refine wpAnyH_take (i:=0) (v:= ?v49) rfl (by kernel_rfl) (by kernel_rfl) (by kernel_rfl) (fun _ _ _ h=>h) (Or.inl ⟨by kernel_rfl, ?h49⟩) hHeld ?r49
         case h49=>intro W hSw;(try dsimp only at hSw);obtain ⟨t0,t1,t2,t3,t4,t5,t6,t8,t9⟩:=hSw;go_simp;try with_reducible rfl
         simp only[Act.put,List.setIfInBounds_toArray,List.set_cons_zero,List.set_cons_succ]
         refine wpAnyH_take (i:=1) (v:= ?v50) rfl (by kernel_rfl) (by kernel_rfl) (by kernel_rfl) (fun _ _ _ h=>h) (Or.inl ⟨by kernel_rfl, ?h50⟩) hHeld ?r50
         case h50=>intro W hSw;(try dsimp only at hSw);obtain ⟨t0,t1,t2,t3,t4,t5,t6,t8,t9⟩:=hSw;go_simp;try with_reducible rfl
         simp only[Act.put,List.setIfInBounds_toArray,List.set_cons_zero,List.set_cons_succ]
         refine wpAnyH_take (i:=2) (v:= ?v51) rfl (by kernel_rfl) (by kernel_rfl) (by kernel_rfl) (fun _ _ _ h=>h) (Or.inl ⟨by kernel_rfl, ?h51⟩) hHeld ?r51
         case h51=>intro W hSw;(try dsimp only at hSw);obtain ⟨t0,t1,t2,t3,t4,t5,t6,t8,t9⟩:=hSw;go_simp;try with_reducible rfl
         simp only[Act.put,List.setIfInBounds_toArray,List.set_cons_zero,List.set_cons_succ]
         refine wpAnyH_take (i:=3) (v:= ?v52) rfl (by kernel_rfl) (by kernel_rfl) (by kernel_rfl) (fun _ _ _ h=>h) (Or.inl ⟨by kernel_rfl, ?h52⟩) hHeld ?r52
         case h52=>intro W hSw;(try dsimp only at hSw);obtain ⟨t0,t1,t2,t3,t4,t5,t6,t8,t9⟩:=hSw;go_simp;try with_reducible rfl
         simp only[Act.put,List.setIfInBounds_toArray,List.set_cons_zero,List.set_cons_succ]
         refine wpAnyH_take (i:=4) (v:= ?v53) rfl (by kernel_rfl) (by kernel_rfl) (by kernel_rfl) (fun _ _ _ h=>h) (Or.inl ⟨by kernel_rfl, ?h53⟩) hHeld ?r53
         case h53=>intro W hSw;(try dsimp only at hSw);obtain ⟨t0,t1,t2,t3,t4,t5,t6,t8,t9⟩:=hSw;go_simp;try with_reducible rfl
         simp only[Act.put,List.setIfInBounds_toArray,List.set_cons_zero,List.set_cons_succ]
         refine wpAnyH_take (i:=5) (v:= ?v54) rfl (by kernel_rfl) (by kernel_rfl) (by kernel_rfl) (fun _ _ _ h=>h) (Or.inl ⟨by kernel_rfl, ?h54⟩) hHeld ?r54
         case h54=>intro W hSw;(try dsimp only at hSw);obtain ⟨t0,t1,t2,t3,t4,t5,t6,t8,t9⟩:=hSw;go_simp;try with_reducible rfl
         simp only[Act.put,List.setIfInBounds_toArray,List.set_cons_zero,List.set_cons_succ]
         refine wpAnyH_ready (rs:=[6]) (by kernel_rfl) (by simp) ?_
         refine AllReadyH.cons rfl (fun K hK=> ?_) AllReadyH.nil
         go_simp
         go_wp2_with (first|(go_at_call 11;refine (CI9.out _ (below_trans BZ.out (bdr0 _))).mono ?_;rintro e w9 ⟨rfl,b9⟩;have B9:=hid b9;clear b9))
         refine hK.out _ _ (S3.out _ (below_trans (bdr0 _) B9.out)) (fun hHeld=> ?_)
         clear hK K
         (try simp only[Act.put,List.setIfInBounds_toArray,List.set_cons_zero,List.set_cons_succ])
         refine wpAnyH_take (i:=7) (v:= ?v55) rfl (by kernel_rfl) (by kernel_rfl) (by kernel_rfl) (fun _ _ _ h=>h) (Or.inl ⟨by kernel_rfl, ?h55⟩) hHeld ?r55
         case h55=>intro W hSw;(try dsimp only at hSw);obtain ⟨t0,t1,t2,t3,t4,t5,t6,t8,t9⟩:=hSw;go_simp;try with_reducible rfl
         simp only[Act.put,List.setIfInBounds_toArray,List.set_cons_zero,List.set_cons_succ]
         refine wpAnyH_done (by kernel_rfl) ?_ _
         have hgF:=below_trans hg3 (below_trans BZ.out (below_trans (bdr0 _) B9.out))
         go_wp2_with fail
         go_roundw
         case rel=>exact ⟨k+1,by omega,by go_num,hgF⟩
         case measure=>simp[intOf];omega
        ·have hmI:decide ((k:Int) < (m.insts.length:Int))=false:=decide_eq_false (by omega)
         have hxx:lR[k]=emI:=by rw[hx,List.getElem?_eq_none (by omega)];rfl
         have bxx:bytesL (lR[k]).2.2.1:=by rw[hxx];exact fun c hc=>by simp[emI] at hc
         have CI9:=hid (fun W (q:Below wr.heap.size wr W)=>by
          have z:=w_r9inst lR[k] emI ar1 ⟨#[]⟩ _ (.slice none 0 0) W ea1 rfl (rv1.below q) (Rd_own (World.ownsRow_nil _ 0 26 1)).1 bxx (fun c hc=>by simp[emI] at hc)
          rw[show eqI lR[k] emI=true from decide_eq_true hxx] at z
          exact z)
         have S3:Hid (∀W,Below (wr.alloc (.cells #[.int .i64 (-1), .int .i64 (-1), .string ⟨#[]⟩, .slice none 0 0] 43)).heap.size (wr.alloc (.cells #[.int .i64 (-1), .int .i64 (-1), .string ⟨#[]⟩, .slice none 0 0] 43)) W→(W.cell? ⟨w5.heap.size,7,none⟩=some (.slice da lR.length db)∧W.cell? ⟨b1,o1,none⟩=some (.int .i64 (lR[k]).1)∧W.cell? ⟨b1,o1+1,none⟩=some (.int .i64 (lR[k]).2.1)∧W.cell? ⟨b1,o1+2,none⟩=some (.string ar1)∧W.cell? ⟨b1,o1+3,none⟩=some (.slice va1 (lR[k]).2.2.2.length vq1)∧W.cell? ⟨wr.heap.size,0,none⟩=some (.int .i64 (-1))∧W.cell? ⟨wr.heap.size,1,none⟩=some (.int .i64 (-1))∧W.cell? ⟨wr.heap.size,2,none⟩=some (.string ⟨#[]⟩)∧W.cell? ⟨wr.heap.size,3,none⟩=some (.slice none 0 0))):=fun W q=>⟨(s5.below (below_trans hg3 (below_trans bZ q))).cell 7 _ rfl,below_cell (below_trans bZ q) x0,below_cell (below_trans bZ q) x1,below_cell (below_trans bZ q) x2,below_cell (below_trans bZ q) x3,(sZ.below q).cell 0 _ rfl,(sZ.below q).cell 1 _ rfl,(sZ.below q).cell 2 _ rfl,(sZ.below q).cell 3 _ rfl⟩
         have HXX:=hid hxx
         have BZ:=hid bZ
         clear hx hxx bxx x0 x1 x2 x3 ea1 sZ bZ
         go_upto_region 33 with fail
         refine wp_region_held_drew (S:=fun W=>W.cell? ⟨w5.heap.size,7,none⟩=some (.slice da lR.length db)∧W.cell? ⟨b1,o1,none⟩=some (.int .i64 (lR[k]).1)∧W.cell? ⟨b1,o1+1,none⟩=some (.int .i64 (lR[k]).2.1)∧W.cell? ⟨b1,o1+2,none⟩=some (.string ar1)∧W.cell? ⟨b1,o1+3,none⟩=some (.slice va1 (lR[k]).2.2.2.length vq1)∧W.cell? ⟨wr.heap.size,0,none⟩=some (.int .i64 (-1))∧W.cell? ⟨wr.heap.size,1,none⟩=some (.int .i64 (-1))∧W.cell? ⟨wr.heap.size,2,none⟩=some (.string ⟨#[]⟩)∧W.cell? ⟨wr.heap.size,3,none⟩=some (.slice none 0 0)) (by kernel_rfl) (S3.out _ (bdr0 _)) (fun hHeld=> ?_)
         refine wpAnyH_take (i:=0) (v:= ?v56) rfl (by kernel_rfl) (by kernel_rfl) (by kernel_rfl) (fun _ _ _ h=>h) (Or.inl ⟨by kernel_rfl, ?h56⟩) hHeld ?r56
         case h56=>intro W hSw;(try dsimp only at hSw);obtain ⟨t0,t1,t2,t3,t4,t5,t6,t8,t9⟩:=hSw;go_simp;try with_reducible rfl
         simp only[Act.put,List.setIfInBounds_toArray,List.set_cons_zero,List.set_cons_succ]
         refine wpAnyH_take (i:=1) (v:= ?v57) rfl (by kernel_rfl) (by kernel_rfl) (by kernel_rfl) (fun _ _ _ h=>h) (Or.inl ⟨by kernel_rfl, ?h57⟩) hHeld ?r57
         case h57=>intro W hSw;(try dsimp only at hSw);obtain ⟨t0,t1,t2,t3,t4,t5,t6,t8,t9⟩:=hSw;go_simp;try with_reducible rfl
         simp only[Act.put,List.setIfInBounds_toArray,List.set_cons_zero,List.set_cons_succ]
         refine wpAnyH_take (i:=2) (v:= ?v58) rfl (by kernel_rfl) (by kernel_rfl) (by kernel_rfl) (fun _ _ _ h=>h) (Or.inl ⟨by kernel_rfl, ?h58⟩) hHeld ?r58
         case h58=>intro W hSw;(try dsimp only at hSw);obtain ⟨t0,t1,t2,t3,t4,t5,t6,t8,t9⟩:=hSw;go_simp;try with_reducible rfl
         simp only[Act.put,List.setIfInBounds_toArray,List.set_cons_zero,List.set_cons_succ]
         refine wpAnyH_take (i:=3) (v:= ?v59) rfl (by kernel_rfl) (by kernel_rfl) (by kernel_rfl) (fun _ _ _ h=>h) (Or.inl ⟨by kernel_rfl, ?h59⟩) hHeld ?r59
         case h59=>intro W hSw;(try dsimp only at hSw);obtain ⟨t0,t1,t2,t3,t4,t5,t6,t8,t9⟩:=hSw;go_simp;try with_reducible rfl
         simp only[Act.put,List.setIfInBounds_toArray,List.set_cons_zero,List.set_cons_succ]
         refine wpAnyH_take (i:=4) (v:= ?v60) rfl (by kernel_rfl) (by kernel_rfl) (by kernel_rfl) (fun _ _ _ h=>h) (Or.inl ⟨by kernel_rfl, ?h60⟩) hHeld ?r60
         case h60=>intro W hSw;(try dsimp only at hSw);obtain ⟨t0,t1,t2,t3,t4,t5,t6,t8,t9⟩:=hSw;go_simp;try with_reducible rfl
         simp only[Act.put,List.setIfInBounds_toArray,List.set_cons_zero,List.set_cons_succ]
         refine wpAnyH_take (i:=5) (v:= ?v61) rfl (by kernel_rfl) (by kernel_rfl) (by kernel_rfl) (fun _ _ _ h=>h) (Or.inl ⟨by kernel_rfl, ?h61⟩) hHeld ?r61
         case h61=>intro W hSw;(try dsimp only at hSw);obtain ⟨t0,t1,t2,t3,t4,t5,t6,t8,t9⟩:=hSw;go_simp;try with_reducible rfl
         simp only[Act.put,List.setIfInBounds_toArray,List.set_cons_zero,List.set_cons_succ]
         refine wpAnyH_ready (rs:=[6]) (by kernel_rfl) (by simp) ?_
         refine AllReadyH.cons rfl (fun K hK=> ?_) AllReadyH.nil
         go_simp
         go_wp2_with (first|(go_at_call 11;refine (CI9.out _ (below_trans BZ.out (bdr0 _))).mono ?_;rintro e w9 ⟨rfl,b9⟩;have B9:=hid b9;clear b9))
         refine hK.out _ _ (S3.out _ (below_trans (bdr0 _) B9.out)) (fun hHeld=> ?_)
         clear hK K
         (try simp only[Act.put,List.setIfInBounds_toArray,List.set_cons_zero,List.set_cons_succ])
         refine wpAnyH_take (i:=7) (v:= ?v62) rfl (by kernel_rfl) (by kernel_rfl) (by kernel_rfl) (fun _ _ _ h=>h) (Or.inl ⟨by kernel_rfl, ?h62⟩) hHeld ?r62
         case h62=>intro W hSw;(try dsimp only at hSw);obtain ⟨t0,t1,t2,t3,t4,t5,t6,t8,t9⟩:=hSw;go_simp;try with_reducible rfl
         simp only[Act.put,List.setIfInBounds_toArray,List.set_cons_zero,List.set_cons_succ]
         refine wpAnyH_done (by kernel_rfl) ?_ _
         have hgF:=below_trans hg3 (below_trans BZ.out (below_trans (bdr0 _) B9.out))
         go_wp2_with fail
         go_roundw
         case rel=>exact ⟨k+1,by omega,by go_num,hgF⟩
         case measure=>simp[intOf];omega
       ·obtain rfl:k=lR.length:=by omega
        go_wp2_with fail
        go_ret
        exact ⟨rfl,below_trans bw (below_trans bW6 hg3)⟩
end Go.Proofs.YtlokhciaaepenaaGreatDoor
