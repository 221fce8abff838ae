import Derived.Deep.Cut
import Derived.Deep.CutRange
import Derived.Test.YtlokhciaaepenaaGreatDoorB18
set_option linter.unusedVariables false
set_option linter.unusedSimpArgs false
set_option maxRecDepth 100000
namespace Go.Proofs.YtlokhciaaepenaaGreatDoor
open Go.ChangeShapes Go.WideShapes Go.ChangeAt Go.RowKit
theorem idx_wrd (g n cap i:Nat) (hi:i < n):∀w',(Instr.indexAt 24 (.slice (some ⟨g,0,none⟩) n cap) (.int .i64 (i:Int))).run Tryz.prog w'= .ok (.pointer (some ⟨g,i*5,none⟩)) w':=by
 intro w'
 rw[run_indexAt_slice (h:=uW),if_pos ⟨by omega,by omega⟩,zW]
 simp only[Result.andThen,Int.toNat_natCast]
 congr 3
 unfold Addr.add
 split
 ·rename_i hz;rw[hz]
 ·simp
theorem idx_ins (g n cap i:Nat) (hi:i < n):∀w',(Instr.indexAt 28 (.slice (some ⟨g,0,none⟩) n cap) (.int .i64 (i:Int))).run Tryz.prog w'= .ok (.pointer (some ⟨g,i*4,none⟩)) w':=by
 intro w'
 rw[run_indexAt_slice (h:=uI),if_pos ⟨by omega,by omega⟩,zI]
 simp only[Result.andThen,Int.toNat_natCast]
 congr 3
 unfold Addr.add
 split
 ·rename_i hz;rw[hz]
 ·simp
set_option maxHeartbeats 8000000 in
set_option maxRecDepth 100000 in
theorem w_p9copyO (m:Mc) (v:Mv) (o:ByteArray) (w:World) (h:RdM w v m o) (z:gM m):
  Calls Tryz.prog 30 #[.agg (v.cs m o)] w fun e w'=>∃v1,e= .returned (.agg (v1.cs m o))∧OwM w.heap.size w' v1 m o∧Below w.heap.size w w':=by
 obtain ⟨vs,vm,vw,vc,vt,vi⟩:=v
 obtain ⟨hs,hm,hw,hc,ht,hi,ho⟩:=h
 simp only at hs hm hw hc ht hi
 obtain ⟨sa,sq,rfl⟩:=rd_slice hs
 obtain ⟨ma,mq,rfl⟩:=rd_slice hm
 obtain ⟨wa,wq,rfl⟩:=slr_slice hw
 obtain ⟨ca,cq,rfl⟩:=rd_slice hc
 obtain ⟨ta,tq,rfl⟩:=slr_slice ht
 obtain ⟨ia,iq,rfl⟩:=slr_slice hi
 have c32:=fun W (b:Below w.heap.size w W)=>w_pclone32 _ _ W (hs.below b) (by have:=z.stackZ;omega)
 have c8:=fun W (b:Below w.heap.size w W)=>w_pclone8 _ _ W (hm.below b) (by have:=z.memZ;omega)
 have cJ:=fun W (b:Below w.heap.size w W)=>w_pcloneJ _ _ W (hc.below b) (by have:=z.codesZ;omega)
 have cT:=fun W (b:Below w.heap.size w W)=>w_p8copyS _ _ W (RdT.below ht b) (by have:=z.treeZ;omega) (fun x hx=>(z.tree x hx).2.2.1)
 have mw:=z.wordsZ
 have mi:=z.instsZ
 have gzw:=fun x hx=>(z.words x hx).siz
 have gzi:=fun x hx=>(z.insts x hx).siz
 obtain ⟨rows,hr1,hr2,hr3⟩:=hw
 obtain ⟨irows,hi1,hi2,hi3⟩:=hi
 obtain ⟨hrl,hro⟩:=wrd_rows hr2 hr3
 obtain ⟨hil',hio⟩:=ins_rows hi2 hi3
 have cW:=fun W (b:Below w.heap.size w W)=>w_pcloneW _ rows W (hr1.below b) hro (by omega)
 have cI:=fun W (b:Below w.heap.size w W)=>w_pcloneI _ irows W (hi1.below b) hio (by omega)
 simp only[hr2] at cW
 simp only[hi2] at cI
 have c32i:=fun (i:Nat) (hil:i < m.insts.length) (vx:Value) (hx:Rd .u32 w vx m.insts[i].2.2.2) W (b:Below w.heap.size w W)=>w_pclone32 vx _ W (hx.below b) (by have:=gzi _ (List.getElem_mem hil);omega)
 have cO:=fun (i:Nat) (hil:i < m.words.length) (vx:Value) (hx:RdO w vx m.words[i].2.2.2.2) W (b:Below w.heap.size w W)=>w_pcloneOps vx _ W (RdO.below hx b) (by have:=gzw _ (List.getElem_mem hil);omega)
 have C32i:=hid c32i
 have CO:=hid cO
 have CW:=hid cW
 have CI:=hid cI
 have CJ:=hid cJ
 have CT:=hid cT
 have C8:=hid c8
 have HR3:=hid hr3
 have HI3:=hid hi3
 have HR2:=hid hr2
 have HI2:=hid hi2
 have HRL:=hid hrl
 have HIL:=hid hil'
 have HO:=hid ho
 have s0:=(stands_new w #[.slice sa m.stack.length sq, .slice ma m.mem.length mq, .slice wa m.words.length wq, .slice ca m.codes.length cq, .int .u32 m.base, .slice ta m.tree.length tq, .int .i64 m.node, .slice ia m.insts.length iq, .int .i64 m.self, .string o] 30).below (box_below (w.alloc (.cells #[.slice sa m.stack.length sq, .slice ma m.mem.length mq, .slice wa m.words.length wq, .slice ca m.codes.length cq, .int .u32 m.base, .slice ta m.tree.length tq, .int .i64 m.node, .slice ia m.insts.length iq, .int .i64 m.self, .string o] 30)) (.cells #[.slice none 0 0, .slice none 0 0, .slice none 0 0, .slice none 0 0, .int .u32 0, .slice none 0 0, .int .i64 0, .slice none 0 0, .int .i64 0, .string ⟨#[]⟩] 30))
 have s1:=stands_new (w.alloc (.cells #[.slice sa m.stack.length sq, .slice ma m.mem.length mq, .slice wa m.words.length wq, .slice ca m.codes.length cq, .int .u32 m.base, .slice ta m.tree.length tq, .int .i64 m.node, .slice ia m.insts.length iq, .int .i64 m.self, .string o] 30)) #[.slice none 0 0, .slice none 0 0, .slice none 0 0, .slice none 0 0, .int .u32 0, .slice none 0 0, .int .i64 0, .slice none 0 0, .int .i64 0, .string ⟨#[]⟩] 30
 have bw:=below_trans (box_below w (.cells #[.slice sa m.stack.length sq, .slice ma m.mem.length mq, .slice wa m.words.length wq, .slice ca m.codes.length cq, .int .u32 m.base, .slice ta m.tree.length tq, .int .i64 m.node, .slice ia m.insts.length iq, .int .i64 m.self, .string o] 30)) (box_below (w.alloc (.cells #[.slice sa m.stack.length sq, .slice ma m.mem.length mq, .slice wa m.words.length wq, .slice ca m.codes.length cq, .int .u32 m.base, .slice ta m.tree.length tq, .int .i64 m.node, .slice ia m.insts.length iq, .int .i64 m.self, .string o] 30)) (.cells #[.slice none 0 0, .slice none 0 0, .slice none 0 0, .slice none 0 0, .int .u32 0, .slice none 0 0, .int .i64 0, .slice none 0 0, .int .i64 0, .string ⟨#[]⟩] 30))
 rw[size_al] at s1
 simp only[Mv.cs]
 clear hs hm hc ht hr1 hi1 hro hio z c32i cO cW cI cJ cT c8 hr3 hi3 hr2 hi2 hrl hil' gzw gzi ho
 go_enter Tryz.func30,Tryz.ntmps30
 go_upto_region 1 with fail
 generalize (w.alloc (.cells #[.slice sa m.stack.length sq, .slice ma m.mem.length mq, .slice wa m.words.length wq, .slice ca m.codes.length cq, .int .u32 m.base, .slice ta m.tree.length tq, .int .i64 m.node, .slice ia m.insts.length iq, .int .i64 m.self, .string o] 30)).alloc (.cells #[.slice none 0 0, .slice none 0 0, .slice none 0 0, .slice none 0 0, .int .u32 0, .slice none 0 0, .int .i64 0, .slice none 0 0, .int .i64 0, .string ⟨#[]⟩] 30)=W0 at s0 s1 bw ⊢
 have hW0:w.heap.size+1 < W0.heap.size:=(Array.getElem?_eq_some_iff.1 s1).1
 have f0:=s0.cell 0 _ rfl
 go_upto_region 2 with (go_at_call 57;refine (c32 _ bw).mono ?_;rintro e qA ⟨vX,rfl,oX,dA⟩;obtain ⟨sa1,sq1,rfl⟩:=own_form oX;have y1:=(s0.below dA).cell 0 _ rfl;have y2:=(s0.below dA).free 0)
 have kA:=set_kept (s0.below dA) 0 (.slice sa1 m.stack.length sq1)
 have s0A:Stands _ w.heap.size #[.slice sa1 m.stack.length sq1, .slice ma m.mem.length mq, .slice wa m.words.length wq, .slice ca m.codes.length cq, .int .u32 m.base, .slice ta m.tree.length tq, .int .i64 m.node, .slice ia m.insts.length iq, .int .i64 m.self, .string o] 30:=(s0.below dA).set 0 (.slice sa1 m.stack.length sq1)
 have s1A:=(s1.below dA).other (b':=w.heap.size) 0 (.slice sa1 m.stack.length sq1) (by omega)
 have bA:=below_set (below_trans bw dA) w.heap.size 0 (.slice sa1 m.stack.length sq1) (Nat.le_refl _)
 have oS:=own_le bw.size (own_kept kA (by decide) oX)
 generalize qA.setCell ⟨w.heap.size,0,none⟩ (.slice sa1 m.stack.length sq1)=QA at s0A s1A bA oS kA ⊢
 clear y1 y2 oX dA kA f0 s0 s1 c32
 have f1:=s0A.cell 1 _ rfl
 go_upto_region 3 with (go_at_call 58;refine (C8.out _ bA).mono ?_;rintro e qB ⟨vX,rfl,oX,dB⟩;obtain ⟨ma1,mq1,rfl⟩:=own_form oX;have y1:=(s0A.below dB).cell 1 _ rfl;have y2:=(s0A.below dB).free 1)
 have kB:=set_kept (s0A.below dB) 1 (.slice ma1 m.mem.length mq1)
 have s0B:Stands _ w.heap.size #[.slice sa1 m.stack.length sq1, .slice ma1 m.mem.length mq1, .slice wa m.words.length wq, .slice ca m.codes.length cq, .int .u32 m.base, .slice ta m.tree.length tq, .int .i64 m.node, .slice ia m.insts.length iq, .int .i64 m.self, .string o] 30:=(s0A.below dB).set 1 (.slice ma1 m.mem.length mq1)
 have s1B:=(s1A.below dB).other (b':=w.heap.size) 1 (.slice ma1 m.mem.length mq1) (by omega)
 have bB:=below_set (below_trans bA dB) w.heap.size 1 (.slice ma1 m.mem.length mq1) (Nat.le_refl _)
 have oM:=own_le bA.size (own_kept kB (by decide) oX)
 have oSB:=own_kept kB (by decide) (own_belowN oS dB)
 generalize qB.setCell ⟨w.heap.size,1,none⟩ (.slice ma1 m.mem.length mq1)=QB at s0B s1B bB oM oSB kB ⊢
 clear y1 y2 oX dB kB f1 s0A s1A bA oS C8
 have f2:=s0B.cell 2 _ rfl
 go_upto_region 4 with (go_at_call 59;refine (CW.out _ bB).mono ?_;rintro e qC ⟨vX,rfl,oX,dC⟩;obtain ⟨wa1,wq1,rfl⟩:=own_form oX;have y1:=(s0B.below dC).cell 2 _ rfl;have y2:=(s0B.below dC).free 2)
 have kC:=set_kept (s0B.below dC) 2 (.slice wa1 m.words.length wq1)
 have s0C:Stands _ w.heap.size #[.slice sa1 m.stack.length sq1, .slice ma1 m.mem.length mq1, .slice wa1 m.words.length wq1, .slice ca m.codes.length cq, .int .u32 m.base, .slice ta m.tree.length tq, .int .i64 m.node, .slice ia m.insts.length iq, .int .i64 m.self, .string o] 30:=(s0B.below dC).set 2 (.slice wa1 m.words.length wq1)
 have s1C:=(s1B.below dC).other (b':=w.heap.size) 2 (.slice wa1 m.words.length wq1) (by omega)
 have bC:=below_set (below_trans bB dC) w.heap.size 2 (.slice wa1 m.words.length wq1) (Nat.le_refl _)
 have oW:=own_le bB.size (own_kept kC (by decide) oX)
 have oSC:=own_kept kC (by decide) (own_belowN oSB dC)
 have oMC:=own_kept kC (by decide) (own_belowN oM dC)
 generalize qC.setCell ⟨w.heap.size,2,none⟩ (.slice wa1 m.words.length wq1)=QC at s0C s1C bC oW oMC oSC kC ⊢
 clear y1 y2 oX dC kC f2 s0B s1B bB oM oSB CW
 have f2:=s0C.cell 2 _ rfl
 go_wp2_with fail
 go_loopw [20] (fun I wx=>∃(i:Nat),(i:Int)≤m.words.length∧I= .int .i64 i∧Stands wx w.heap.size #[.slice sa1 m.stack.length sq1, .slice ma1 m.mem.length mq1, .slice wa1 m.words.length wq1, .slice ca m.codes.length cq, .int .u32 m.base, .slice ta m.tree.length tq, .int .i64 m.node, .slice ia m.insts.length iq, .int .i64 m.self, .string o] 30∧Stands wx (w.heap.size+1) #[.slice none 0 0, .slice none 0 0, .slice none 0 0, .slice none 0 0, .int .u32 0, .slice none 0 0, .int .i64 0, .slice none 0 0, .int .i64 0, .string ⟨#[]⟩] 30∧wx.ownsRow w.heap.size 26 1 (.slice sa1 m.stack.length sq1) m.stack.length (m.stack.map (Value.int .u32))∧wx.ownsRow w.heap.size 5 1 (.slice ma1 m.mem.length mq1) m.mem.length (m.mem.map (Value.int .u8))∧RwI 34 5 (wrdO w.heap.size) w.heap.size (.slice wa1 m.words.length wq1) m.words rows i wx∧Below w.heap.size w wx) (fun I _=>(m.words.length - intOf I).toNat)
 case atStart=>exact ⟨0,by omega,rfl,s0C,s1C,oSC,oMC,RwI.start HR2.out HRL.out oW,bC⟩
 case round=>
  clear s0C s1C oSC oMC oW bC f2
  obtain ⟨i,hi,rfl,st,sz,oS,oM,hI,hb⟩:=hrel
  by_cases hlt:(i:Int) < m.words.length
  ·have hil:i < m.words.length:=by omega
   obtain ⟨csW,oWr⟩:=hI.row
   obtain ⟨g,cap,hg⟩:=own_some oWr (by omega)
   simp only[Value.slice.injEq] at hg
   obtain ⟨rfl, -,rfl⟩:=hg
   have hgb:=(oWr.lt g rfl).1
   have hgB:g≠w.heap.size:=by
    intro e
    have a1:=stands_apart st oWr (by decide)
    simp[Value.ownBlock] at a1
    exact a1 e.symm
   obtain ⟨vcI,hrow,rc⟩:=HR3.out i hil
   have cd:=fun W (b:Below w.heap.size w W)=>CO.out i hil vcI rc W b
   obtain ⟨xa,xq,rfl⟩:=slr_slice rc
   have c4:=hI.cell hil 4 (by decide) _ (by rw[hrow];rfl)
   have c2:=st.cell 2 _ rfl
   have hix:=idx_wrd g m.words.length wq1 i hil
   obtain ⟨N5,hN5⟩:∃N,m.words[i].2.2.2.2.length=N:=⟨_,rfl⟩
   rw[hN5] at c4 hrow
   have HS:Hid (∀W,Below wr.heap.size wr W→W.cell? ⟨w.heap.size,2,none⟩=some (.slice (some ⟨g,0,none⟩) m.words.length wq1)):=fun W q=>below_cell q c2
   have hrd:Hid (Below wr.heap.size wr wr.drew):=below_drewN (Below.refl _ _) 1
   have hbd:Hid (Below w.heap.size w wr.drew):=below_drewN hb 1
   simp only[hN5] at cd
   have CD:=hid cd
   have T2:Hid (∀qD,Below wr.heap.size wr qD→qD.cell? ⟨g,i*5+4,none⟩=some (.slice xa N5 xq)):=fun qD q=>below_cell q c4
   have T3:Hid (∀qD,Below wr.heap.size wr qD→qD.frozen? ⟨g,i*5+4,none⟩=false):=fun qD q=>(hI.below q (wrdO_below q)).free (i*5+4)
   have HI:=hid hI
   have HROW:=hid hrow
   have HN5:=hid hN5
   have ST:=hid st
   have SZ:=hid sz
   have OS:=hid oS
   have OM:=hid oM
   clear cd hI oWr hN5 hrow rc st sz oS oM
   go_wp2_with fail
   go_region_with (go_at_call 60;refine (CD.out _ (by with_reducible exact hbd.out)).mono ?_;rintro e qD ⟨vD,rfl,oD,bD'⟩;obtain ⟨csD,rD⟩:=oD.row;obtain ⟨dd,dcap,rfl⟩:=own_form rD;have RD:Hid (Below wr.heap.size wr qD):=below_trans hrd.out bD';have y0:=HS.out qD RD.out;have y1:=T2.out qD RD.out;have y2:=T3.out qD RD.out;have OD:=hid oD;clear oD bD' rD)
   all_goals (
    go_wp2_with fail
    have bD:=RD.out
    have hx:wrdO w.heap.size qD ((rows.getD i []).set 4 (.slice dd m.words[i].2.2.2.2.length dcap)) (m.words[i]'hil):=by rw[HROW.out];exact ⟨_,rfl,OwO.le (Nat.le_trans hb.size hrd.out.size) OD.out⟩
    obtain ⟨hI9,k9⟩:=RwI.step (HI.out.below bD (wrdO_below bD)) hil 4 (by decide) (.slice dd m.words[i].2.2.2.2.length dcap) (wrdO_apt (by decide)) hx
    have B9:=below_set (below_trans hb bD) g (i*5+4) (.slice dd m.words[i].2.2.2.2.length dcap) hgb
    have st9:=stands_kept k9 (by decide) (ST.out.below bD)
    have sz9:=stands_kept k9 (by decide) (SZ.out.below bD)
    have oS9:=own_kept k9 (by decide) (own_belowN OS.out bD)
    have oM9:=own_kept k9 (by decide) (own_belowN OM.out bD)
    go_roundw
    case rel=>exact ⟨i+1,by omega,by go_num,st9,sz9,oS9,oM9,hI9,B9⟩
    case measure=>simp[intOf];omega)
  ·have hin:i=m.words.length:=by omega
   have oW:=hI.done (by omega)
   obtain ⟨W1,hW1⟩:∃W1,W1=wr:=⟨_,rfl⟩
   subst hW1
   clear hI hin
   have f3:=st.cell 3 _ rfl
   go_upto_region 10 with (go_at_call 61;refine (CJ.out _ hb).mono ?_;rintro e qD ⟨vX,rfl,oX,dD⟩;obtain ⟨ca1,cq1,rfl⟩:=own_form oX;have y1:=(st.below dD).cell 3 _ rfl;have y2:=(st.below dD).free 3)
   have kD:=set_kept (st.below dD) 3 (.slice ca1 m.codes.length cq1)
   have s0D:Stands _ w.heap.size #[.slice sa1 m.stack.length sq1, .slice ma1 m.mem.length mq1, .slice wa1 m.words.length wq1, .slice ca1 m.codes.length cq1, .int .u32 m.base, .slice ta m.tree.length tq, .int .i64 m.node, .slice ia m.insts.length iq, .int .i64 m.self, .string o] 30:=(st.below dD).set 3 (.slice ca1 m.codes.length cq1)
   have s1D:=(sz.below dD).other (b':=w.heap.size) 3 (.slice ca1 m.codes.length cq1) (by omega)
   have bD:=below_set (below_trans hb dD) w.heap.size 3 (.slice ca1 m.codes.length cq1) (Nat.le_refl _)
   have oC:=own_le hb.size (own_kept kD (by decide) oX)
   have oSD:=own_kept kD (by decide) (own_belowN oS dD)
   have oMD:=own_kept kD (by decide) (own_belowN oM dD)
   have oWD:=OwnR.kept (OwnR.below oW dD (wrdO_below dD)) kD (by decide) (wrdO_apt (by decide))
   generalize qD.setCell ⟨w.heap.size,3,none⟩ (.slice ca1 m.codes.length cq1)=QD at s0D s1D bD oC oSD oMD oWD kD ⊢
   clear y1 y2 oX dD kD f3 st sz oS oM oW CJ
   have f5:=s0D.cell 5 _ rfl
   go_upto_region 11 with (go_at_call 62;refine (CT.out _ bD).mono ?_;rintro e qE ⟨vX,rfl,oX,dE⟩;obtain ⟨csX,rX⟩:=oX.own.row;obtain ⟨ta1,tq1,rfl⟩:=own_form rX;have y1:=(s0D.below dE).cell 5 _ rfl;have y2:=(s0D.below dE).free 5)
   have kE:=set_kept (s0D.below dE) 5 (.slice ta1 m.tree.length tq1)
   have s0E:Stands _ w.heap.size #[.slice sa1 m.stack.length sq1, .slice ma1 m.mem.length mq1, .slice wa1 m.words.length wq1, .slice ca1 m.codes.length cq1, .int .u32 m.base, .slice ta1 m.tree.length tq1, .int .i64 m.node, .slice ia m.insts.length iq, .int .i64 m.self, .string o] 30:=(s0D.below dE).set 5 (.slice ta1 m.tree.length tq1)
   have s1E:=(s1D.below dE).other (b':=w.heap.size) 5 (.slice ta1 m.tree.length tq1) (by omega)
   have bE:=below_set (below_trans bD dE) w.heap.size 5 (.slice ta1 m.tree.length tq1) (Nat.le_refl _)
   have oT:=OwnR.kept (OwnT8.le bD.size oX.own) kE (by decide) (nodO_apt (by decide) (by decide) (by decide))
   have PE:Cpy w.heap.size _ (.slice sa1 m.stack.length sq1) (.slice ma1 m.mem.length mq1) (.slice wa1 m.words.length wq1) (.slice ca1 m.codes.length cq1) (.slice ta1 m.tree.length tq1) m:=⟨own_kept kE (by decide) (own_belowN oSD dE),own_kept kE (by decide) (own_belowN oMD dE),OwnR.kept (OwnR.below oWD dE (wrdO_below dE)) kE (by decide) (wrdO_apt (by decide)),own_kept kE (by decide) (own_belowN oC dE),oT⟩
   generalize qE.setCell ⟨w.heap.size,5,none⟩ (.slice ta1 m.tree.length tq1)=QE at s0E s1E bE oT PE kE ⊢
   clear y1 y2 oX rX dE kE f5 s0D s1D oC oSD oMD oWD CT bD oT
   have f7:=s0E.cell 7 _ rfl
   go_upto_region 12 with (go_at_call 63;refine (CI.out _ bE).mono ?_;rintro e qF ⟨vX,rfl,oX,dF⟩;obtain ⟨ia1,iq1,rfl⟩:=own_form oX;have y1:=(s0E.below dF).cell 7 _ rfl;have y2:=(s0E.below dF).free 7)
   have kF:=set_kept (s0E.below dF) 7 (.slice ia1 m.insts.length iq1)
   have s0F:Stands _ w.heap.size #[.slice sa1 m.stack.length sq1, .slice ma1 m.mem.length mq1, .slice wa1 m.words.length wq1, .slice ca1 m.codes.length cq1, .int .u32 m.base, .slice ta1 m.tree.length tq1, .int .i64 m.node, .slice ia1 m.insts.length iq1, .int .i64 m.self, .string o] 30:=(s0E.below dF).set 7 (.slice ia1 m.insts.length iq1)
   have s1F:=(s1E.below dF).other (b':=w.heap.size) 7 (.slice ia1 m.insts.length iq1) (by omega)
   have bF:=below_set (below_trans bE dF) w.heap.size 7 (.slice ia1 m.insts.length iq1) (Nat.le_refl _)
   have oI:=own_le bE.size (own_kept kF (by decide) oX)
   have PF:=(PE.below dF).kept kF (by decide) (by decide) (by decide) (by decide) (by decide) (by decide) (by decide)
   generalize qF.setCell ⟨w.heap.size,7,none⟩ (.slice ia1 m.insts.length iq1)=QF at s0F s1F bF oI PF kF ⊢
   clear y1 y2 oX dF kF f7 s0E s1E PE bE CI
   have f7:=s0F.cell 7 _ rfl
   go_wp2_with fail
   go_loopw [51] (fun I wx=>∃(i:Nat),(i:Int)≤m.insts.length∧I= .int .i64 i∧Stands wx w.heap.size #[.slice sa1 m.stack.length sq1, .slice ma1 m.mem.length mq1, .slice wa1 m.words.length wq1, .slice ca1 m.codes.length cq1, .int .u32 m.base, .slice ta1 m.tree.length tq1, .int .i64 m.node, .slice ia1 m.insts.length iq1, .int .i64 m.self, .string o] 30∧Stands wx (w.heap.size+1) #[.slice none 0 0, .slice none 0 0, .slice none 0 0, .slice none 0 0, .int .u32 0, .slice none 0 0, .int .i64 0, .slice none 0 0, .int .i64 0, .string ⟨#[]⟩] 30∧Cpy w.heap.size wx (.slice sa1 m.stack.length sq1) (.slice ma1 m.mem.length mq1) (.slice wa1 m.words.length wq1) (.slice ca1 m.codes.length cq1) (.slice ta1 m.tree.length tq1) m∧RwI 43 4 (insO w.heap.size) w.heap.size (.slice ia1 m.insts.length iq1) m.insts irows i wx∧Below w.heap.size w wx) (fun I _=>(m.insts.length - intOf I).toNat)
   case atStart=>exact ⟨0,by omega,rfl,s0F,s1F,PF,RwI.start HI2.out HIL.out oI,bF⟩
   case round=>
    clear s0F s1F PF oI bF f7 hb hi
    obtain ⟨i,hi,rfl,st,sz,P,hI,hb⟩:=hrel
    by_cases hlt:(i:Int) < m.insts.length
    ·have hil:i < m.insts.length:=by omega
     obtain ⟨csW,oWr⟩:=hI.row
     obtain ⟨g,cap,hg⟩:=own_some oWr (by omega)
     simp only[Value.slice.injEq] at hg
     obtain ⟨rfl, -,rfl⟩:=hg
     have hgb:=(oWr.lt g rfl).1
     obtain ⟨vcI,hrow,rc⟩:=HI3.out i hil
     have cd:=fun W (b:Below w.heap.size w W)=>C32i.out i hil vcI rc W b
     obtain ⟨xa,xq,rfl⟩:=rd_slice rc
     have c4:=hI.cell hil 3 (by decide) _ (by rw[hrow];rfl)
     have c2:=st.cell 7 _ rfl
     have hix:=idx_ins g m.insts.length iq1 i hil
     obtain ⟨N5,hN5⟩:∃N,m.insts[i].2.2.2.length=N:=⟨_,rfl⟩
     rw[hN5] at c4 hrow
     have HS:Hid (∀W,Below wr.heap.size wr W→W.cell? ⟨w.heap.size,7,none⟩=some (.slice (some ⟨g,0,none⟩) m.insts.length iq1)):=fun W q=>below_cell q c2
     have hrd:Hid (Below wr.heap.size wr wr.drew):=below_drewN (Below.refl _ _) 1
     have hbd:Hid (Below w.heap.size w wr.drew):=below_drewN hb 1
     have CD:=hid cd
     have T2:Hid (∀qD,Below wr.heap.size wr qD→qD.cell? ⟨g,i*4+3,none⟩=some (.slice xa N5 xq)):=fun qD q=>below_cell q c4
     have T3:Hid (∀qD,Below wr.heap.size wr qD→qD.frozen? ⟨g,i*4+3,none⟩=false):=fun qD q=>(hI.below q (insO_below q)).free (i*4+3)
     have HI:=hid hI
     have HROW:=hid hrow
     have ST:=hid st
     have SZ:=hid sz
     have PP:=hid P
     rw[hN5] at CD
     have HN5:=hid hN5
     clear cd hI oWr hN5 hrow rc st sz P
     go_wp2_with fail
     go_region_with (go_at_call 57;refine (CD.out _ (by with_reducible exact hbd.out)).mono ?_;rintro e qD ⟨vD,rfl,oD,bD'⟩;obtain ⟨dd,dcap,rfl⟩:=own_form oD;have RD:Hid (Below wr.heap.size wr qD):=below_trans hrd.out bD';have y0:=HS.out qD RD.out;have y1:=T2.out qD RD.out;have y2:=T3.out qD RD.out;have OD:=hid oD;clear oD bD')
     all_goals (
      go_wp2_with fail
      have bD:=RD.out
      have hx:insO w.heap.size qD ((irows.getD i []).set 3 (.slice dd N5 dcap)) (m.insts[i]'hil):=by rw[HROW.out];exact ⟨_,rfl,by rw[HN5.out];exact own_le (Nat.le_trans hb.size hrd.out.size) OD.out⟩
      obtain ⟨hI9,k9⟩:=RwI.step (HI.out.below bD (insO_below bD)) hil 3 (by decide) (.slice dd N5 dcap) (insO_apt (by decide)) hx
      have B9:=below_set (below_trans hb bD) g (i*4+3) (.slice dd N5 dcap) hgb
      have st9:=stands_kept k9 (by decide) (ST.out.below bD)
      have sz9:=stands_kept k9 (by decide) (SZ.out.below bD)
      have P9:=(PP.out.below bD).kept k9 (by decide) (by decide) (by decide) (by decide) (by decide) (by decide) (by decide)
      go_roundw
      case rel=>exact ⟨i+1,by omega,by go_num,st9,sz9,P9,hI9,B9⟩
      case measure=>simp[intOf];omega)
    ·have oI:=hI.done (by omega)
     have u0:=st.cell 0 _ rfl
     have u1:=st.cell 1 _ rfl
     have u2:=st.cell 2 _ rfl
     have u3:=st.cell 3 _ rfl
     have u4:=st.cell 4 _ rfl
     have u5:=st.cell 5 _ rfl
     have u6:=st.cell 6 _ rfl
     have u7:=st.cell 7 _ rfl
     have u8:=st.cell 8 _ rfl
     have u9:=st.cell 9 _ rfl
     have y0:=sz.cell 0 _ rfl
     have y1:=sz.cell 1 _ rfl
     have y2:=sz.cell 2 _ rfl
     have y3:=sz.cell 3 _ rfl
     have y4:=sz.cell 4 _ rfl
     have y5:=sz.cell 5 _ rfl
     have y6:=sz.cell 6 _ rfl
     have y7:=sz.cell 7 _ rfl
     have y8:=sz.cell 8 _ rfl
     have y9:=sz.cell 9 _ rfl
     have yf:=sz.free
     obtain ⟨k1,k2⟩:=set10 sz (.slice sa1 m.stack.length sq1) (.slice ma1 m.mem.length mq1) (.slice wa1 m.words.length wq1) (.slice ca1 m.codes.length cq1) (.int .u32 m.base) (.slice ta1 m.tree.length tq1) (.int .i64 m.node) (.slice ia1 m.insts.length iq1) (.int .i64 m.self) (.string o)
     have oMM:OwM w.heap.size wr ⟨.slice sa1 m.stack.length sq1, .slice ma1 m.mem.length mq1, .slice wa1 m.words.length wq1, .slice ca1 m.codes.length cq1, .slice ta1 m.tree.length tq1, .slice ia1 m.insts.length iq1⟩ m o:=⟨P.stack,P.mem,P.words,P.codes,P.tree,oI,HO.out⟩
     have K1:=hid k1
     have GM:=hid (k2 (fun u=>OwM w.heap.size u ⟨.slice sa1 m.stack.length sq1, .slice ma1 m.mem.length mq1, .slice wa1 m.words.length wq1, .slice ca1 m.codes.length cq1, .slice ta1 m.tree.length tq1, .slice ia1 m.insts.length iq1⟩ m o) (fun u u' kk q=>q.kept kk (by decide) (by decide) (by decide) (by decide) (by decide) (by decide) (by decide) (by decide)) oMM)
     have J7:Hid (Below w.heap.size w _):=below_set (below_set (below_set (below_set (below_set (below_set (below_set (below_set (below_set (below_set (hb) (w.heap.size+1) 0 (.slice sa1 m.stack.length sq1) (by omega)) (w.heap.size+1) 1 (.slice ma1 m.mem.length mq1) (by omega)) (w.heap.size+1) 2 (.slice wa1 m.words.length wq1) (by omega)) (w.heap.size+1) 3 (.slice ca1 m.codes.length cq1) (by omega)) (w.heap.size+1) 4 (.int .u32 m.base) (by omega)) (w.heap.size+1) 5 (.slice ta1 m.tree.length tq1) (by omega)) (w.heap.size+1) 6 (.int .i64 m.node) (by omega)) (w.heap.size+1) 7 (.slice ia1 m.insts.length iq1) (by omega)) (w.heap.size+1) 8 (.int .i64 m.self) (by omega)) (w.heap.size+1) 9 (.string o) (by omega)
     clear k1 k2 oMM oI P hI hb st sz C32i CO HR3 HI3
     go_wp2_with fail
     (try simp only[Exit.inBlock,Exit.then])
     refine bodyPost_ret (results_cell_row rfl _ _ (w.heap.size+1) 30 _ (0,0) _ rfl K1.out Tryz.underlying30 rfl (show _=some 10 by kernel_rfl)) rfl ?_
     exact ⟨⟨.slice sa1 m.stack.length sq1, .slice ma1 m.mem.length mq1, .slice wa1 m.words.length wq1, .slice ca1 m.codes.length cq1, .slice ta1 m.tree.length tq1, .slice ia1 m.insts.length iq1⟩,rfl,GM.out,J7.out⟩
theorem bdr0 (w:World):Below w.heap.size w w.drew:=(below_drewN (Below.refl _ _) 1)
theorem OwM.form {base:Nat} {w:World} {v:Mv} {m:Mc} {o:ByteArray} (h:OwM base w v m o):∃sa sq ma mq wa wq ca cq ta tq ia iq,v=⟨.slice sa m.stack.length sq, .slice ma m.mem.length mq, .slice wa m.words.length wq, .slice ca m.codes.length cq, .slice ta m.tree.length tq, .slice ia m.insts.length iq⟩:=by
 obtain ⟨vs,vm,vw,vc,vt,vi⟩:=v
 obtain ⟨hs,hm,hw,hc,ht,hi,ho⟩:=h
 obtain ⟨_,hw⟩:=hw.row
 obtain ⟨_,ht⟩:=OwnR.row ht
 obtain ⟨_,hi⟩:=hi.row
 obtain ⟨a1,b1,e1⟩:=own_form hs
 obtain ⟨a2,b2,e2⟩:=own_form hm
 obtain ⟨a3,b3,e3⟩:=own_form hw
 obtain ⟨a4,b4,e4⟩:=own_form hc
 obtain ⟨a5,b5,e5⟩:=own_form ht
 obtain ⟨a6,b6,e6⟩:=own_form hi
 simp only at e1 e2 e3 e4 e5 e6
 exact ⟨a1,b1,a2,b2,a3,b3,a4,b4,a5,b5,a6,b6,by rw[e1,e2,e3,e4,e5,e6]⟩
def kcs (v:Mv) (m:Mc) (o:ByteArray) (n was:Int):Array Value:=#[v.vs,v.vm,v.vw,v.vc, .int .u32 m.base,v.vt, .int .i64 m.node,v.vi, .int .i64 m.self, .string o, .int .i64 n, .int .i64 was]
structure Kpr (base b:Nat) (w:World) (v:Mv) (m:Mc) (o:ByteArray) (n was:Int):Prop where
 box:Stands w b (kcs v m o n was) 62
 own:OwM base w v m o
theorem Kpr.below {base b:Nat} {w w':World} {v:Mv} {m:Mc} {o:ByteArray} {n was:Int} (h:Kpr base b w v m o n was) (g:Below w.heap.size w w'):Kpr base b w' v m o n was:=⟨h.box.below g,h.own.below g⟩
theorem OwM.grewI {base:Nat} {w w':World} {v:Mv} {m:Mc} {o:ByteArray} (h:OwM base w v m o) (k:Kept 43 w w') {vi:Value} {l:List Iz} (hi:OwI base w' vi l):OwM base w' {v with vi:=vi} {m with insts:=l} o:=
 ⟨own_kept k (by decide) h.stack,own_kept k (by decide) h.mem,OwnR.kept h.words k (by decide) (wrdO_apt (by decide)),own_kept k (by decide) h.codes,OwnR.kept h.tree k (by decide) (nodO_apt (by decide) (by decide) (by decide)),hi,h.out⟩
theorem set_rows {α:Type} (rows:List (List α)) (sz k:Nat) (news:List α) (h:∀r∈rows,r.length=sz) (hn:news.length=sz) (hk:k < rows.length):setL rows.flatten (k*sz) news=(rows.set k news).flatten:=by
 have hl:∀rows:List (List α),(∀r∈rows,r.length=sz)→rows.flatten.length=rows.length*sz:=by
  intro rows h
  induction rows with
  |nil=>simp
  |cons r rows ih=>
   rw[List.flatten_cons,List.length_append,ih (fun r hm=>h r (by simp[hm])),h r (by simp),List.length_cons,Nat.add_mul]
   omega
 have h1:(k+1)*sz≤rows.length*sz:=Nat.mul_le_mul_right _ hk
 rw[setL_eq _ _ _ (by rw[hl rows h,hn];rw[Nat.add_mul] at h1;omega),flat_take rows sz k h,hn,show k*sz+sz=(k+1)*sz by rw[Nat.add_mul];omega,flat_drop rows sz (k+1) h,List.set_eq_take_append_cons_drop,if_pos hk]
 simp
theorem ins_put {base:Nat} {w:World} {g cap:Nat} {l:List Iz} (h:OwI base w (.slice (some ⟨g,0,none⟩) l.length cap) l) (k:Nat) (hk:k < l.length) (x:Iz) (vc:Value) (hv:w.ownsRow base 26 1 vc x.2.2.2.length (x.2.2.2.map (Value.int .u32))) (a:ByteArray) (ha:strOfNums x.2.2.1=a):
  OwI base ((((w.setCell ⟨g,k*4,none⟩ (.int .i64 x.1)).setCell ⟨g,k*4+1,none⟩ (.int .i64 x.2.1)).setCell ⟨g,k*4+2,none⟩ (.string a)).setCell ⟨g,k*4+3,none⟩ vc) (.slice (some ⟨g,0,none⟩) l.length cap) (l.set k x)∧Kept 43 w ((((w.setCell ⟨g,k*4,none⟩ (.int .i64 x.1)).setCell ⟨g,k*4+1,none⟩ (.int .i64 x.2.1)).setCell ⟨g,k*4+2,none⟩ (.string a)).setCell ⟨g,k*4+3,none⟩ vc):=by
 obtain ⟨rows,h1,h2,h3,h4⟩:=h
 obtain ⟨s1,s2⟩:=own_setCells [.int .i64 x.1, .int .i64 x.2.1, .string a,vc] w rows.flatten (k*4) h3
 rw[set_rows rows 4 k _ h2 rfl (by omega)] at s1
 have kk:=Kept.own (v:= .slice (some ⟨g,0,none⟩) l.length cap) h3 (by simpa [Value.ownBlock] using s2)
 refine ⟨⟨rows.set k [.int .i64 x.1, .int .i64 x.2.1, .string a,vc],by simp[h1],fun r hm=> ?_,by rw[List.length_set];exact s1,fun m hm=> ?_⟩,kk⟩
 ·rcases List.mem_or_eq_of_mem_set hm with hm|rfl
  ·exact h2 r hm
  ·rfl
 ·have hm2:m < l.length:=by simpa using hm
  rw[List.getElem_set,List.getD_eq_getElem?_getD,List.getElem?_set]
  by_cases he:k=m
  ·subst he
   rw[if_pos rfl,if_pos (by omega),if_pos rfl]
   exact ⟨vc,by rw[ha];rfl,own_kept kk (by decide) hv⟩
  ·rw[if_neg he,if_neg he,←List.getD_eq_getElem?_getD]
   exact insO_apt (by decide) _ _ _ _ kk (h4 m hm2)
theorem set12 {w:World} {b:Nat} {z0 z1 z2 z3 z4 z5 z6 z7 z8 z9 z10 z11:Value} {T:TypeId} (h:Stands w b #[z0,z1,z2,z3,z4,z5,z6,z7,z8,z9,z10,z11] T) (a0 a1 a2 a3 a4 a5 a6 a7 a8 a9 a10 a11:Value):
  Stands ((((((((((((w.setCell ⟨b,0,none⟩ a0).setCell ⟨b,1,none⟩ a1).setCell ⟨b,2,none⟩ a2).setCell ⟨b,3,none⟩ a3).setCell ⟨b,4,none⟩ a4).setCell ⟨b,5,none⟩ a5).setCell ⟨b,6,none⟩ a6).setCell ⟨b,7,none⟩ a7).setCell ⟨b,8,none⟩ a8).setCell ⟨b,9,none⟩ a9).setCell ⟨b,10,none⟩ a10).setCell ⟨b,11,none⟩ a11) b #[a0,a1,a2,a3,a4,a5,a6,a7,a8,a9,a10,a11] T∧∀Q:World→Prop,(∀u u',Kept T u u'→Q u→Q u')→Q w→Q ((((((((((((w.setCell ⟨b,0,none⟩ a0).setCell ⟨b,1,none⟩ a1).setCell ⟨b,2,none⟩ a2).setCell ⟨b,3,none⟩ a3).setCell ⟨b,4,none⟩ a4).setCell ⟨b,5,none⟩ a5).setCell ⟨b,6,none⟩ a6).setCell ⟨b,7,none⟩ a7).setCell ⟨b,8,none⟩ a8).setCell ⟨b,9,none⟩ a9).setCell ⟨b,10,none⟩ a10).setCell ⟨b,11,none⟩ a11):=by
 have h0:=h.set 0 a0
 have h1:=h0.set 1 a1
 have h2:=h1.set 2 a2
 have h3:=h2.set 3 a3
 have h4:=h3.set 4 a4
 have h5:=h4.set 5 a5
 have h6:=h5.set 6 a6
 have h7:=h6.set 7 a7
 have h8:=h7.set 8 a8
 have h9:=h8.set 9 a9
 have h10:=h9.set 10 a10
 have h11:=h10.set 11 a11
 exact ⟨by simpa only[List.setIfInBounds_toArray,List.set_cons_zero,List.set_cons_succ] using h11,fun Q hQ q=>hQ _ _ (set_kept h10 11 a11) (hQ _ _ (set_kept h9 10 a10) (hQ _ _ (set_kept h8 9 a9) (hQ _ _ (set_kept h7 8 a8) (hQ _ _ (set_kept h6 7 a7) (hQ _ _ (set_kept h5 6 a6) (hQ _ _ (set_kept h4 5 a5) (hQ _ _ (set_kept h3 4 a4) (hQ _ _ (set_kept h2 3 a3) (hQ _ _ (set_kept h1 2 a2) (hQ _ _ (set_kept h0 1 a1) (hQ _ _ (set_kept h 0 a0) q)))))))))))⟩
theorem below_set12 {w w':World} (h:Below w.heap.size w w') (g:Nat) (a0 a1 a2 a3 a4 a5 a6 a7 a8 a9 a10 a11:Value) (hg:w.heap.size≤g):Below w.heap.size w ((((((((((((w'.setCell ⟨g,0,none⟩ a0).setCell ⟨g,1,none⟩ a1).setCell ⟨g,2,none⟩ a2).setCell ⟨g,3,none⟩ a3).setCell ⟨g,4,none⟩ a4).setCell ⟨g,5,none⟩ a5).setCell ⟨g,6,none⟩ a6).setCell ⟨g,7,none⟩ a7).setCell ⟨g,8,none⟩ a8).setCell ⟨g,9,none⟩ a9).setCell ⟨g,10,none⟩ a10).setCell ⟨g,11,none⟩ a11):=
 below_set (below_set (below_set (below_set (below_set (below_set (below_set (below_set (below_set (below_set (below_set (below_set h g 0 a0 hg) g 1 a1 hg) g 2 a2 hg) g 3 a3 hg) g 4 a4 hg) g 5 a5 hg) g 6 a6 hg) g 7 a7 hg) g 8 a8 hg) g 9 a9 hg) g 10 a10 hg) g 11 a11 hg
theorem lst_none {α:Type} (p:α→Bool):∀l:List α,(∀x∈l,p x=false)→lstF p l=none:=by
 intro l h
 have:∀k,k≤l.length→lstF p (l.take k)=none:=by
  intro k
  induction k with
  |zero=>intro _;rfl
  |succ k ih=>intro hk;rw[lst_take p l k (by omega) (h _ (List.getElem_mem (by omega)))];exact ih (by omega)
 have h2:=this l.length (Nat.le_refl _)
 rwa [List.take_length] at h2
theorem mth_none {ws:List Wd} {n:Int} {s:List Int} (h:∀x∈ws,¬x.1=s):mthF ws n s=none:=by
 unfold mthF
 split
 ·rfl
 ·exact lst_none _ ws (fun x hx=>by simp[h x hx])
set_option maxHeartbeats 1000000 in
set_option maxRecDepth 100000 in
theorem w_pfit (m:Mc) (v:Mv) (o:ByteArray) (n:Int) (w:World) (h:RdM w v m o) (g:gM m) (h0:0≤n) (h1:n≤100000):
  Calls Tryz.prog 13 #[.agg (v.cs m o), .int .i64 n] w fun e w'=>e= .returned (.bool (frmM m))∧Below w.heap.size w w':=by
 have bw:=box_below w (.cells (v.cs m o) 30)
 have cF:=w_p9formed' m v o _ (h.below bw) g
 have s0:=stands_new w (v.cs m o) 30
 simp only[Mv.cs] at cF s0 bw ⊢
 have f0:=s0.cell 0 _ rfl
 have f1:=s0.cell 1 _ rfl
 have f2:=s0.cell 2 _ rfl
 have f3:=s0.cell 3 _ rfl
 have f4:=s0.cell 4 _ rfl
 have f5:=s0.cell 5 _ rfl
 have f6:=s0.cell 6 _ rfl
 have f7:=s0.cell 7 _ rfl
 have f8:=s0.cell 8 _ rfl
 have f9:=s0.cell 9 _ rfl
 have hn0:decide (0≤n)=true:=decide_eq_true h0
 have hn1:decide (n≤100000)=true:=decide_eq_true h1
 obtain ⟨R,hR⟩:∃R,frmM m=R:=⟨_,rfl⟩
 rw[hR] at cF ⊢
 clear hR
 cases R <;>
 ·go_enter Tryz.func13,Tryz.ntmps13
  go_wp2_with (first|(go_at_call 21;refine cF.mono ?_;rintro e w1 ⟨rfl,b1⟩)|fail)
  go_ret
  exact ⟨rfl,below_trans bw b1⟩
theorem cells10 {w:World} {b:Nat} {z0 z1 z2 z3 z4 z5 z6 z7 z8 z9:Value} {T:TypeId} (h:Stands w b #[z0,z1,z2,z3,z4,z5,z6,z7,z8,z9] T):w.cell? ⟨b,0,none⟩=some z0∧w.cell? ⟨b,1,none⟩=some z1∧w.cell? ⟨b,2,none⟩=some z2∧w.cell? ⟨b,3,none⟩=some z3∧w.cell? ⟨b,4,none⟩=some z4∧w.cell? ⟨b,5,none⟩=some z5∧w.cell? ⟨b,6,none⟩=some z6∧w.cell? ⟨b,7,none⟩=some z7∧w.cell? ⟨b,8,none⟩=some z8∧w.cell? ⟨b,9,none⟩=some z9:=
 ⟨h.cell 0 _ rfl,h.cell 1 _ rfl,h.cell 2 _ rfl,h.cell 3 _ rfl,h.cell 4 _ rfl,h.cell 5 _ rfl,h.cell 6 _ rfl,h.cell 7 _ rfl,h.cell 8 _ rfl,h.cell 9 _ rfl⟩
set_option maxHeartbeats 4000000 in
set_option maxRecDepth 100000 in
theorem w_pkeeper (m:Mc) (v:Mv) (o:ByteArray) (n:Int) (w:World) (h:RdM w v m o) (g:gM m):
  Calls Tryz.prog 15 #[.agg (v.cs m o), .int .i64 n] w fun e w'=>∃v1,e= .returned (.agg (kcs v1 m o n m.self))∧OwM w.heap.size w' v1 m o∧Below w.heap.size w w':=by
 obtain ⟨vs,vm,vw,vc,vt,vi⟩:=v
 have hh:=h
 obtain ⟨hs,hm,hw,hc,ht,hi,ho⟩:=hh
 simp only at hs hm hw hc ht hi
 obtain ⟨sa,sq,rfl⟩:=rd_slice hs
 obtain ⟨ma,mq,rfl⟩:=rd_slice hm
 obtain ⟨wa,wq,rfl⟩:=slr_slice hw
 obtain ⟨ca,cq,rfl⟩:=rd_slice hc
 obtain ⟨ta,tq,rfl⟩:=slr_slice ht
 obtain ⟨ia,iq,rfl⟩:=slr_slice hi
 have CP:=hid (fun W (b:Below w.heap.size w W)=>w_p9copyO m _ o W (h.below b) g)
 simp only[Mv.cs,kcs] at CP ⊢
 have s0:=(stands_new w #[.slice sa m.stack.length sq, .slice ma m.mem.length mq, .slice wa m.words.length wq, .slice ca m.codes.length cq, .int .u32 m.base, .slice ta m.tree.length tq, .int .i64 m.node, .slice ia m.insts.length iq, .int .i64 m.self, .string o] 30).below (box_below (w.alloc (.cells #[.slice sa m.stack.length sq, .slice ma m.mem.length mq, .slice wa m.words.length wq, .slice ca m.codes.length cq, .int .u32 m.base, .slice ta m.tree.length tq, .int .i64 m.node, .slice ia m.insts.length iq, .int .i64 m.self, .string o] 30)) (.cells #[.slice none 0 0, .slice none 0 0, .slice none 0 0, .slice none 0 0, .int .u32 0, .slice none 0 0, .int .i64 0, .slice none 0 0, .int .i64 0, .string ⟨#[]⟩, .int .i64 0, .int .i64 0] 62))
 have s1:=stands_new (w.alloc (.cells #[.slice sa m.stack.length sq, .slice ma m.mem.length mq, .slice wa m.words.length wq, .slice ca m.codes.length cq, .int .u32 m.base, .slice ta m.tree.length tq, .int .i64 m.node, .slice ia m.insts.length iq, .int .i64 m.self, .string o] 30)) #[.slice none 0 0, .slice none 0 0, .slice none 0 0, .slice none 0 0, .int .u32 0, .slice none 0 0, .int .i64 0, .slice none 0 0, .int .i64 0, .string ⟨#[]⟩, .int .i64 0, .int .i64 0] 62
 have bw:=below_trans (box_below w (.cells #[.slice sa m.stack.length sq, .slice ma m.mem.length mq, .slice wa m.words.length wq, .slice ca m.codes.length cq, .int .u32 m.base, .slice ta m.tree.length tq, .int .i64 m.node, .slice ia m.insts.length iq, .int .i64 m.self, .string o] 30)) (box_below (w.alloc (.cells #[.slice sa m.stack.length sq, .slice ma m.mem.length mq, .slice wa m.words.length wq, .slice ca m.codes.length cq, .int .u32 m.base, .slice ta m.tree.length tq, .int .i64 m.node, .slice ia m.insts.length iq, .int .i64 m.self, .string o] 30)) (.cells #[.slice none 0 0, .slice none 0 0, .slice none 0 0, .slice none 0 0, .int .u32 0, .slice none 0 0, .int .i64 0, .slice none 0 0, .int .i64 0, .string ⟨#[]⟩, .int .i64 0, .int .i64 0] 62))
 rw[size_al] at s1
 clear hs hm hw hc ht hi ho h
 go_enter Tryz.func15,Tryz.ntmps15
 go_upto_region 1 with fail
 generalize (w.alloc (.cells #[.slice sa m.stack.length sq, .slice ma m.mem.length mq, .slice wa m.words.length wq, .slice ca m.codes.length cq, .int .u32 m.base, .slice ta m.tree.length tq, .int .i64 m.node, .slice ia m.insts.length iq, .int .i64 m.self, .string o] 30)).alloc (.cells #[.slice none 0 0, .slice none 0 0, .slice none 0 0, .slice none 0 0, .int .u32 0, .slice none 0 0, .int .i64 0, .slice none 0 0, .int .i64 0, .string ⟨#[]⟩, .int .i64 0, .int .i64 0] 62)=W0 at s0 s1 bw ⊢
 refine wp_region_held_drew (S:=fun W=>W.cell? ⟨w.heap.size,0,none⟩=some (.slice sa m.stack.length sq)∧W.cell? ⟨w.heap.size,1,none⟩=some (.slice ma m.mem.length mq)∧W.cell? ⟨w.heap.size,2,none⟩=some (.slice wa m.words.length wq)∧W.cell? ⟨w.heap.size,3,none⟩=some (.slice ca m.codes.length cq)∧W.cell? ⟨w.heap.size,4,none⟩=some (.int .u32 m.base)∧W.cell? ⟨w.heap.size,5,none⟩=some (.slice ta m.tree.length tq)∧W.cell? ⟨w.heap.size,6,none⟩=some (.int .i64 m.node)∧W.cell? ⟨w.heap.size,7,none⟩=some (.slice ia m.insts.length iq)∧W.cell? ⟨w.heap.size,8,none⟩=some (.int .i64 m.self)∧W.cell? ⟨w.heap.size,9,none⟩=some (.string o)) (by kernel_rfl) (cells10 (s0.below (bdr0 _))) (fun hHeld=> ?_)
 refine wpAnyH_take (i:=0) (v:= ?v1) rfl (by kernel_rfl) (by kernel_rfl) (by kernel_rfl) (fun _ _ _ h=>h) (Or.inl ⟨by kernel_rfl, ?h1⟩) hHeld ?r1
 case h1=>intro W hSw;(try dsimp only at hSw);obtain ⟨t0,t1,t2,t3,t4,t5,t6,t7,t8,t9⟩:=hSw;go_simp;try with_reducible rfl
 simp only[Act.put,List.setIfInBounds_toArray,List.set_cons_zero,List.set_cons_succ]
 refine wpAnyH_take (i:=2) (v:= ?v2) rfl (by kernel_rfl) (by kernel_rfl) (by kernel_rfl) (fun _ _ _ h=>h) (Or.inl ⟨by kernel_rfl, ?h2⟩) hHeld ?r2
 case h2=>intro W hSw;(try dsimp only at hSw);obtain ⟨t0,t1,t2,t3,t4,t5,t6,t7,t8,t9⟩:=hSw;go_simp;try with_reducible rfl
 simp only[Act.put,List.setIfInBounds_toArray,List.set_cons_zero,List.set_cons_succ]
 refine wpAnyH_take (i:=3) (v:= ?v3) rfl (by kernel_rfl) (by kernel_rfl) (by kernel_rfl) (fun _ _ _ h=>h) (Or.inl ⟨by kernel_rfl, ?h3⟩) hHeld ?r3
 case h3=>intro W hSw;(try dsimp only at hSw);obtain ⟨t0,t1,t2,t3,t4,t5,t6,t7,t8,t9⟩:=hSw;go_simp;try with_reducible rfl
 simp only[Act.put,List.setIfInBounds_toArray,List.set_cons_zero,List.set_cons_succ]
 refine wpAnyH_take (i:=4) (v:= ?v4) rfl (by kernel_rfl) (by kernel_rfl) (by kernel_rfl) (fun _ _ _ h=>h) (Or.inl ⟨by kernel_rfl, ?h4⟩) hHeld ?r4
 case h4=>intro W hSw;(try dsimp only at hSw);obtain ⟨t0,t1,t2,t3,t4,t5,t6,t7,t8,t9⟩:=hSw;go_simp;try with_reducible rfl
 simp only[Act.put,List.setIfInBounds_toArray,List.set_cons_zero,List.set_cons_succ]
 refine wpAnyH_ready (rs:=[1]) (by kernel_rfl) (by simp) ?_
 refine AllReadyH.cons rfl (fun K hK=> ?_) AllReadyH.nil
 go_simp
 go_wp2_with (first|(go_at_call 30;refine (CP.out _ (below_trans bw (bdr0 _))).mono ?_;rintro e w9 ⟨v9,rfl,o9,b9⟩;obtain ⟨sb,sp,mb,mp,wb,wp,cb,cp,tb,tp,ib,ip,rfl⟩:=o9.form;have B9:=hid b9;have s9:=(s1.below (bdr0 _)).below b9;have s8:=(s0.below (bdr0 _)).below b9;have zf:=s9.free;have y0:=s9.cell 0 _ rfl;have y1:=s9.cell 1 _ rfl;have y2:=s9.cell 2 _ rfl;have y3:=s9.cell 3 _ rfl;have y4:=s9.cell 4 _ rfl;have y5:=s9.cell 5 _ rfl;have y6:=s9.cell 6 _ rfl;have y7:=s9.cell 7 _ rfl;have y8:=s9.cell 8 _ rfl;have y9:=s9.cell 9 _ rfl;have y10:=s9.cell 10 _ rfl;have y11:=s9.cell 11 _ rfl;obtain ⟨k1,k2⟩:=set12 s9 (.slice sb m.stack.length sp) (.slice mb m.mem.length mp) (.slice wb m.words.length wp) (.slice cb m.codes.length cp) (.int .u32 m.base) (.slice tb m.tree.length tp) (.int .i64 m.node) (.slice ib m.insts.length ip) (.int .i64 m.self) (.string o) (.int .i64 n) (.int .i64 m.self);have K1:=hid k1;have K0:=hid (k2 (fun u=>Stands u w.heap.size #[.slice sa m.stack.length sq, .slice ma m.mem.length mq, .slice wa m.words.length wq, .slice ca m.codes.length cq, .int .u32 m.base, .slice ta m.tree.length tq, .int .i64 m.node, .slice ia m.insts.length iq, .int .i64 m.self, .string o] 30) (fun u u' kk x=>stands_kept kk (by decide) x) s8);have KO:=hid (k2 (fun u=>OwM W0.drew.heap.size u ⟨.slice sb m.stack.length sp, .slice mb m.mem.length mp, .slice wb m.words.length wp, .slice cb m.codes.length cp, .slice tb m.tree.length tp, .slice ib m.insts.length ip⟩ m o) (fun u u' kk x=>OwM.kept x kk (by decide) (by decide) (by decide) (by decide) (by decide) (by decide) (by decide) (by decide)) o9);have J7:=hid (below_set12 (below_trans bw (below_trans (bdr0 _) b9)) (w.heap.size+1) (.slice sb m.stack.length sp) (.slice mb m.mem.length mp) (.slice wb m.words.length wp) (.slice cb m.codes.length cp) (.int .u32 m.base) (.slice tb m.tree.length tp) (.int .i64 m.node) (.slice ib m.insts.length ip) (.int .i64 m.self) (.string o) (.int .i64 n) (.int .i64 m.self) (Nat.le_succ _));clear k1 k2 o9 b9 s9 s8))
 refine hK.out _ _ (cells10 ((s0.below (bdr0 _)).below B9.out)) (fun hHeld=> ?_)
 clear hK K
 (try simp only[Act.put,List.setIfInBounds_toArray,List.set_cons_zero,List.set_cons_succ])
 refine wpAnyH_take (i:=5) (v:= ?v5) rfl (by kernel_rfl) (by kernel_rfl) (by kernel_rfl) (fun _ _ _ h=>h) (Or.inl ⟨by kernel_rfl, ?h5⟩) hHeld ?r5
 case h5=>intro W hSw;(try dsimp only at hSw);obtain ⟨t0,t1,t2,t3,t4,t5,t6,t7,t8,t9⟩:=hSw;go_simp;try with_reducible rfl
 simp only[Act.put,List.setIfInBounds_toArray,List.set_cons_zero,List.set_cons_succ]
 refine wpAnyH_ready (rs:=[6]) (by kernel_rfl) (by simp) ?_
 refine AllReadyH.cons rfl (fun K hK=> ?_) AllReadyH.nil
 go_simp
 refine hK.out _ _ (cells10 K0.out) (fun hHeld=> ?_)
 clear hK K
 (try simp only[Act.put,List.setIfInBounds_toArray,List.set_cons_zero,List.set_cons_succ])
 refine wpAnyH_done (by kernel_rfl) ?_ _
 go_wp2_with fail
 (try simp only[Exit.inBlock,Exit.then])
 refine bodyPost_ret (results_cell_row rfl _ _ (w.heap.size+1) 62 _ (0,0) _ rfl K1.out Tryz.underlying62 rfl (show _=some 12 by kernel_rfl)) rfl ?_
 exact ⟨_,rfl,OwM.le (Nat.le_trans bw.size (bdr0 _).size) KO.out,J7.out⟩
end Go.Proofs.YtlokhciaaepenaaGreatDoor
