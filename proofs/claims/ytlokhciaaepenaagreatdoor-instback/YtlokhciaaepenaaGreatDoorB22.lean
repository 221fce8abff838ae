import Derived.Test.YtlokhciaaepenaaGreatDoorB21
set_option linter.unusedVariables false
set_option linter.unusedSimpArgs false
set_option maxRecDepth 100000
namespace Go.Proofs.YtlokhciaaepenaaGreatDoor
open Go.ChangeShapes Go.WideShapes Go.ChangeAt Go.RowKit
theorem below_set10 {w w':World} (h:Below w.heap.size w w') (g:Nat) (a0 a1 a2 a3 a4 a5 a6 a7 a8 a9:Value) (hg:w.heap.size≤g):Below w.heap.size w ((((((((((w'.setCell ⟨g,0,none⟩ a0).setCell ⟨g,1,none⟩ a1).setCell ⟨g,2,none⟩ a2).setCell ⟨g,3,none⟩ a3).setCell ⟨g,4,none⟩ a4).setCell ⟨g,5,none⟩ a5).setCell ⟨g,6,none⟩ a6).setCell ⟨g,7,none⟩ a7).setCell ⟨g,8,none⟩ a8).setCell ⟨g,9,none⟩ a9):=
 below_set (below_set (below_set (below_set (below_set (below_set (below_set (below_set (below_set (below_set h g 0 a0 hg) g 1 a1 hg) g 2 a2 hg) g 3 a3 hg) g 4 a4 hg) g 5 a5 hg) g 6 a6 hg) g 7 a7 hg) g 8 a8 hg) g 9 a9 hg
theorem add_in {l l2:List Iz} {x:Iz} {k:Nat} (h:addI l x=some (l2,k)) (hl:l.length≤16):k < l2.length∧l2.length≤16:=by
 rcases add_free h hl with ⟨y,h1,h2,rfl⟩|⟨rfl,rfl,h3⟩
 ·have:=(List.getElem?_eq_some_iff.1 h1).1
  simp only[List.length_set]
  omega
 ·simp
  omega
theorem opn_snoc (t:List Nd) (l:List Iz) (S:List Sto) (k:Nat) (hk:k < S.length) {l1:List Iz} {ch:List Nat} (h:opnS t l (S.take k).reverse=some (l1,ch)):opnS t l (S.take (k+1)).reverse=match addI l1 (S[k].1,hdI ch,S[k].2,cel t S[k].1) with|none=>none|some (l2,k)=>some (l2,k::ch):=by
 rw[List.take_succ_eq_append_getElem hk,List.reverse_append]
 exact opnS_cons h S[k]
theorem opn_stop (t:List Nd) (l:List Iz) (S:List Sto) (k:Nat) (h:opnS t l (S.take k).reverse=none):opnS t l S.reverse=none:=by
 have e:S.reverse=(S.drop k).reverse++(S.take k).reverse:=by rw[←List.reverse_append,List.take_append_drop]
 rw[e]
 exact opnS_none t l _ h _
theorem w_pkadd_no {W0:World} {b:Nat} {v:Mv} {m:Mc} {o:ByteArray} {n was:Int} (st:List Int) (j:Nat) (hjl:j < m.tree.length) (par:Int) (a:ByteArray) (ha:strOfNums st=a) (w:World) (h:Kpr W0.heap.size b w v m o n was) (hb:W0.heap.size≤b) (hB:Below W0.heap.size W0 w) (hz:∀x∈m.tree,sizN x) (hl:m.insts.length≤16) (hA:addI m.insts ((j:Int),par,st,cel m.tree (j:Int))=none):
  Calls Tryz.prog 31 #[.pointer (some ⟨b,0,none⟩), .agg #[.int .i64 (j:Int), .string a], .int .i64 par] w fun e w'=>e= .returned (.tuple #[.int .i64 (-1), .int .i64 22])∧Below W0.heap.size W0 w':=by
 refine (w_pkadd st j hjl par a ha w h hb hB hz hl).mono ?_
 rintro e w' ⟨⟨_,rfl⟩|⟨l2,k,v2,h2,_⟩,b2⟩
 ·exact ⟨rfl,b2⟩
 ·rw[hA] at h2
  cases h2
theorem w_pkadd_yes {W0:World} {b:Nat} {v:Mv} {m:Mc} {o:ByteArray} {n was:Int} (st:List Int) (j:Nat) (hjl:j < m.tree.length) (par:Int) (a:ByteArray) (ha:strOfNums st=a) (w:World) (h:Kpr W0.heap.size b w v m o n was) (hb:W0.heap.size≤b) (hB:Below W0.heap.size W0 w) (hz:∀x∈m.tree,sizN x) (hl:m.insts.length≤16) {l2:List Iz} {k:Nat} (hA:addI m.insts ((j:Int),par,st,cel m.tree (j:Int))=some (l2,k)):
  Calls Tryz.prog 31 #[.pointer (some ⟨b,0,none⟩), .agg #[.int .i64 (j:Int), .string a], .int .i64 par] w fun e w'=>∃v',e= .returned (.tuple #[.int .i64 (k:Nat), .int .i64 0])∧Kpr W0.heap.size b w' v' {m with insts:=l2} o n was∧Below W0.heap.size W0 w':=by
 refine (w_pkadd st j hjl par a ha w h hb hB hz hl).mono ?_
 rintro e w' ⟨⟨h2,_⟩|⟨l3,k3,v2,h2,rfl,h3⟩,b2⟩
 ·rw[hA] at h2
  cases h2
 ·rw[hA] at h2
  injection h2 with h2
  injection h2 with e1 e2
  subst e1
  subst e2
  exact ⟨v2,rfl,h3,b2⟩
set_option maxHeartbeats 4000000 in
set_option maxRecDepth 100000 in
theorem w_pkopenAll {W0:World} {b:Nat} {v:Mv} {m:Mc} {o:ByteArray} {n was:Int} (S:List Sto) (vl:Value) (w:World) (h:Kpr W0.heap.size b w v m o n was) (hb:W0.heap.size≤b) (hB:Below W0.heap.size W0 w) (hz:∀x∈m.tree,sizN x) (hl:m.insts.length≤16) (hS:SlR 2 stoR W0 vl S) (hn:∀s∈S,∃j:Nat,s.1=j∧j < m.tree.length) (hby:∀x∈m.words,bytesL x.1) (hno:∀x∈m.words,¬x.1=[111,112,101,110]):
  Calls Tryz.prog 16 #[.pointer (some ⟨b,0,none⟩),vl] w fun e w'=>(opnS m.tree m.insts S.reverse=none∧e= .returned (.tuple #[.int .i64 (-1), .int .i64 22])∨∃l2 ch v',opnS m.tree m.insts S.reverse=some (l2,ch)∧e= .returned (.tuple #[.int .i64 (hdI ch), .int .i64 0])∧Kpr W0.heap.size b w' v' {m with insts:=l2} o n was)∧Below W0.heap.size W0 w':=by
 have hls:=slr_len hS uSo (P:=Tryz.prog)
 have hms:=slr_max hS
 unfold maxLen at hms
 have HN:=hid hn
 have HNO:=hid hno
 have HBY:=hid hby
 have HSR:Hid (∀W,Below W0.heap.size W0 W→SlR 2 stoR W vl S):=fun W g=>hS.below g stoR_below
 clear hn hno hby hS
 go_enter Tryz.func16,Tryz.ntmps16
 go_wp2_with fail
 go_loopw [6,13] (fun I T wx=>∃(k:Nat) (l1:List Iz) (ch:List Nat) (v1:Mv),T= .int .i64 k∧(k:Int)≤S.length∧I= .int .i64 (hdI ch)∧Kpr W0.heap.size b wx v1 {m with insts:=l1} o n was∧l1.length≤16∧Hid (opnS m.tree m.insts (S.take k).reverse=some (l1,ch))∧Below W0.heap.size W0 wx) (fun _ T _=>(S.length - intOf T).toNat)
 case atStart=>exact ⟨0,m.insts,[],v,rfl,by omega,rfl,h,hl,hid rfl,hB⟩
 case round=>
  clear h hB
  obtain ⟨k,l1,ch,v1,rfl,hk,rfl,kp,hl1,ho,hg⟩:=hrel
  by_cases hlt:(k:Int) < S.length
  ·have hkl:k < S.length:=by omega
   obtain ⟨bs,os,cs,rs,hcl,hcc,hcs⟩:=slr_idxN (HSR.out wr hg) uSo zSo k hkl
   obtain ⟨j,hj,hjl⟩:=HN.out S[k] (List.getElem_mem hkl)
   have hop:=opn_snoc m.tree m.insts S k hkl ho.out
   obtain ⟨⟨q1,q2⟩,hq⟩:∃q,S[k]=q:=⟨_,rfl⟩
   rw[hq] at hj hcs hop
   simp only at hj hop
   subst hj
   have hcs':cs=[.int .i64 (j:Int), .string (strOfNums q2)]:=hcs
   subst hcs'
   have c0:wr.cell? ⟨bs,os,none⟩=some (.int .i64 (j:Int)):=hcc 0 (by decide)
   have c1:wr.cell? ⟨bs,os+1,none⟩=some (.string (strOfNums q2)):=hcc 1 (by decide)
   obtain ⟨a,ha⟩:∃a,strOfNums q2=a:=⟨_,rfl⟩
   rw[ha] at c1
   have bx:=box_below wr (.cells #[.int .i64 (j:Int), .string a] 77)
   have y0:=(stands_new wr #[.int .i64 (j:Int), .string a] 77).cell 0 _ rfl
   have y1:=(stands_new wr #[.int .i64 (j:Int), .string a] 77).cell 1 _ rfl
   have hgb:=below_trans hg bx
   have kpb:=kp.below bx
   obtain ⟨P,hP⟩:∃p,hdI ch=p:=⟨_,rfl⟩
   rw[hP] at hop
   cases hA:addI l1 ((j:Int),P,q2,cel m.tree (j:Int)) with
   |none=>
    have cA:=w_pkadd_no (m:={m with insts:=l1}) q2 j hjl P a ha _ kpb hb hgb hz hl1 hA
    have HO:Hid (opnS m.tree m.insts S.reverse=none):=opn_stop m.tree m.insts S (k+1) (by rw[hop,hA])
    rw[hP]
    clear hop hA hq hcs hcc ha hP kpb kp hcl
    go_wp2_with (first|(go_at_call 31;refine cA.mono ?_;rintro e w2 ⟨rfl,b2⟩)|fail)
    go_ret2
    exact ⟨Or.inl ⟨HO.out,rfl⟩,b2⟩
   |some p=>
    obtain ⟨l2,k2⟩:=p
    have cA:=w_pkadd_yes (m:={m with insts:=l1}) q2 j hjl P a ha _ kpb hb hgb hz hl1 hA
    obtain ⟨i1,i2⟩:=add_in hA hl1
    have HO:Hid (opnS m.tree m.insts (S.take (k+1)).reverse=some (l2,k2::ch)):=by show _=_;rw[hop,hA]
    have CO:=hid (fun W v9 (q:Kpr W0.heap.size b W v9 {m with insts:=l2} o n was)=>w_pkopen k2 W q i1 HBY.out HNO.out)
    rw[hP]
    clear hop hA hq hcs hcc ha hP kpb kp hcl
    go_wp2_with (first
     |(go_at_call 31;refine cA.mono ?_;rintro e w2 ⟨v2,rfl,k9,b2⟩)
     |(go_at_call 32;refine (CO.out _ _ k9).mono ?_;rintro e w3 ⟨rfl,b3⟩)
     |fail)
    go_roundw
    case rel=>exact ⟨k+1,l2,k2::ch,v2,by go_num,by omega,rfl,k9.below b3,i2,HO,below_trans b2 b3⟩
    case measure=>simp[intOf];omega
  ·obtain rfl:k=S.length:=by omega
   have hoo:=ho.out
   rw[List.take_length] at hoo
   have HO:=hid hoo
   clear hoo ho
   go_wp2_with fail
   go_ret2
   exact ⟨Or.inr ⟨l1,ch,HO.out,rfl,v1,kp⟩,hg⟩
set_option maxHeartbeats 4000000 in
set_option maxRecDepth 100000 in
theorem w_pkover {W0:World} {b:Nat} {v:Mv} {m:Mc} {o:ByteArray} {n was:Int} (w:World) (h:Kpr W0.heap.size b w v m o n was) (hb:W0.heap.size≤b) (hB:Below W0.heap.size W0 w) (hw:was= -1∨∃i:Nat,was=i∧∃x,m.insts[i]? =some x∧¬x.1= -1):
  Calls Tryz.prog 17 #[.pointer (some ⟨b,0,none⟩)] w fun e w'=>e= .returned (.agg (v.cs {m with self:=was} o))∧OwM W0.heap.size w' v {m with self:=was} o∧Stands w' b (kcs v {m with self:=was} o n was) 62∧Below W0.heap.size W0 w':=by
 obtain ⟨sa,sq,ma,mq,wa,wq,ca,cq,ta,tq,ia,iq,rfl⟩:=h.own.form
 have bx:=box_below w (.cells #[.slice none 0 0, .slice none 0 0, .slice none 0 0, .slice none 0 0, .int .u32 0, .slice none 0 0, .int .i64 0, .slice none 0 0, .int .i64 0, .string ⟨#[]⟩] 30)
 have z0:=stands_new w #[.slice none 0 0, .slice none 0 0, .slice none 0 0, .slice none 0 0, .int .u32 0, .slice none 0 0, .int .i64 0, .slice none 0 0, .int .i64 0, .string ⟨#[]⟩] 30
 have hbox:Stands _ b #[.slice sa m.stack.length sq, .slice ma m.mem.length mq, .slice wa m.words.length wq, .slice ca m.codes.length cq, .int .u32 m.base, .slice ta m.tree.length tq, .int .i64 m.node, .slice ia m.insts.length iq, .int .i64 m.self, .string o, .int .i64 n, .int .i64 was] 62:=h.box.below bx
 have f11:=hbox.cell 11 _ rfl
 have f8:=hbox.cell 8 _ rfl
 have ff:=hbox.free 8
 have k8:=set_kept hbox 8 (.int .i64 was)
 have st8:=hbox.set 8 (.int .i64 was)
 have own8:=OwM.kept (h.own.below bx) k8 (by decide) (by decide) (by decide) (by decide) (by decide) (by decide) (by decide) (by decide)
 have z8:=stands_kept k8 (by decide) z0
 have B8:=below_set (below_trans hB bx) b 8 (.int .i64 was) hb
 go_enter Tryz.func17,Tryz.ntmps17
 go_upto_region 2 with fail
 generalize (w.alloc (.cells #[.slice none 0 0, .slice none 0 0, .slice none 0 0, .slice none 0 0, .int .u32 0, .slice none 0 0, .int .i64 0, .slice none 0 0, .int .i64 0, .string ⟨#[]⟩] 30)).setCell ⟨b,8,none⟩ (.int .i64 was)=W1 at st8 own8 z8 B8 ⊢
 have st8':Stands W1 b #[.slice sa m.stack.length sq, .slice ma m.mem.length mq, .slice wa m.words.length wq, .slice ca m.codes.length cq, .int .u32 m.base, .slice ta m.tree.length tq, .int .i64 m.node, .slice ia m.insts.length iq, .int .i64 was, .string o, .int .i64 n, .int .i64 was] 62:=st8
 clear hbox f11 f8 ff k8 st8 z0 bx
 have g7:=st8'.cell 7 _ rfl
 have g11:=st8'.cell 11 _ rfl
 have rI:RdI W1 (.slice ia m.insts.length iq) m.insts:=own8.read.insts
 rcases hw with rfl|⟨i,rfl,x,hx,hx1⟩
 ·clear rI
  go_wp2_with fail
  go_quiet (fail)
  have D:Below W1.heap.size W1 (W1.drewN nq):=below_drewN (Below.refl _ _) nq
  generalize W1.drewN nq=W2 at D ⊢
  have s2:=st8'.below D
  have z2:=z8.below D
  have own2:=own8.below D
  have B2:=below_trans B8 D
  have g0:=s2.cell 0 _ rfl
  have g1:=s2.cell 1 _ rfl
  have g2:=s2.cell 2 _ rfl
  have g3:=s2.cell 3 _ rfl
  have g4:=s2.cell 4 _ rfl
  have g5:=s2.cell 5 _ rfl
  have g6:=s2.cell 6 _ rfl
  have g7:=s2.cell 7 _ rfl
  have g8:=s2.cell 8 _ rfl
  have g9:=s2.cell 9 _ rfl
  have u0:=z2.cell 0 _ rfl
  have u1:=z2.cell 1 _ rfl
  have u2:=z2.cell 2 _ rfl
  have u3:=z2.cell 3 _ rfl
  have u4:=z2.cell 4 _ rfl
  have u5:=z2.cell 5 _ rfl
  have u6:=z2.cell 6 _ rfl
  have u7:=z2.cell 7 _ rfl
  have u8:=z2.cell 8 _ rfl
  have u9:=z2.cell 9 _ rfl
  have uf:=z2.free
  obtain ⟨k1,k2⟩:=set10 z2 (.slice sa m.stack.length sq) (.slice ma m.mem.length mq) (.slice wa m.words.length wq) (.slice ca m.codes.length cq) (.int .u32 m.base) (.slice ta m.tree.length tq) (.int .i64 m.node) (.slice ia m.insts.length iq) (.int .i64 (-1)) (.string o)
  have J:=k2 (fun u=>OwM W0.heap.size u ⟨.slice sa m.stack.length sq, .slice ma m.mem.length mq, .slice wa m.words.length wq, .slice ca m.codes.length cq, .slice ta m.tree.length tq, .slice ia m.insts.length iq⟩ m o) (fun u u' kk q=>OwM.kept q kk (by decide) (by decide) (by decide) (by decide) (by decide) (by decide) (by decide) (by decide)) own2
  have B3:=below_set10 B2 w.heap.size (.slice sa m.stack.length sq) (.slice ma m.mem.length mq) (.slice wa m.words.length wq) (.slice ca m.codes.length cq) (.int .u32 m.base) (.slice ta m.tree.length tq) (.int .i64 m.node) (.slice ia m.insts.length iq) (.int .i64 (-1)) (.string o) hB.size
  have JS:=hid (k2 (fun u=>Stands u b #[.slice sa m.stack.length sq, .slice ma m.mem.length mq, .slice wa m.words.length wq, .slice ca m.codes.length cq, .int .u32 m.base, .slice ta m.tree.length tq, .int .i64 m.node, .slice ia m.insts.length iq, .int .i64 (-1), .string o, .int .i64 n, .int .i64 (-1)] 62) (fun u u' kk q=>stands_kept kk (by decide) q) s2)
  have K1:=hid k1
  have JJ:=hid J
  have BB:=hid B3
  clear k1 k2 J B3 own2 own8 B2 B8 z2 z8 s2 st8'
  go_wp2_with fail
  (try simp only[Exit.inBlock,Exit.then])
  refine bodyPost_ret (results_cell_row rfl _ _ w.heap.size 30 _ (0,0) _ rfl K1.out Tryz.underlying30 rfl (show _=some 10 by kernel_rfl)) rfl ?_
  exact ⟨rfl,⟨JJ.out.stack,JJ.out.mem,JJ.out.words,JJ.out.codes,JJ.out.tree,JJ.out.insts,JJ.out.out⟩,JS.out,BB.out⟩
 ·obtain ⟨hil,hxe⟩:=List.getElem?_eq_some_iff.1 hx
  obtain ⟨b7,o7,a7,v7,r7,y0,ff7⟩:=ins_at rI i hil
  rw[hxe] at y0
  have q1:((i:Int) != -1)=true:=by simp
  have q2:(x.1== -1)=false:=by simpa using hx1
  clear ff7 rI hx hx1 hxe
  go_wp2_with fail
  go_quiet (fail)
  have D:Below W1.heap.size W1 (W1.drewN nq):=below_drewN (Below.refl _ _) nq
  generalize W1.drewN nq=W2 at D ⊢
  have s2:=st8'.below D
  have z2:=z8.below D
  have own2:=own8.below D
  have B2:=below_trans B8 D
  have g0:=s2.cell 0 _ rfl
  have g1:=s2.cell 1 _ rfl
  have g2:=s2.cell 2 _ rfl
  have g3:=s2.cell 3 _ rfl
  have g4:=s2.cell 4 _ rfl
  have g5:=s2.cell 5 _ rfl
  have g6:=s2.cell 6 _ rfl
  have g7:=s2.cell 7 _ rfl
  have g8:=s2.cell 8 _ rfl
  have g9:=s2.cell 9 _ rfl
  have u0:=z2.cell 0 _ rfl
  have u1:=z2.cell 1 _ rfl
  have u2:=z2.cell 2 _ rfl
  have u3:=z2.cell 3 _ rfl
  have u4:=z2.cell 4 _ rfl
  have u5:=z2.cell 5 _ rfl
  have u6:=z2.cell 6 _ rfl
  have u7:=z2.cell 7 _ rfl
  have u8:=z2.cell 8 _ rfl
  have u9:=z2.cell 9 _ rfl
  have uf:=z2.free
  obtain ⟨k1,k2⟩:=set10 z2 (.slice sa m.stack.length sq) (.slice ma m.mem.length mq) (.slice wa m.words.length wq) (.slice ca m.codes.length cq) (.int .u32 m.base) (.slice ta m.tree.length tq) (.int .i64 m.node) (.slice ia m.insts.length iq) (.int .i64 (i:Int)) (.string o)
  have J:=k2 (fun u=>OwM W0.heap.size u ⟨.slice sa m.stack.length sq, .slice ma m.mem.length mq, .slice wa m.words.length wq, .slice ca m.codes.length cq, .slice ta m.tree.length tq, .slice ia m.insts.length iq⟩ m o) (fun u u' kk q=>OwM.kept q kk (by decide) (by decide) (by decide) (by decide) (by decide) (by decide) (by decide) (by decide)) own2
  have B3:=below_set10 B2 w.heap.size (.slice sa m.stack.length sq) (.slice ma m.mem.length mq) (.slice wa m.words.length wq) (.slice ca m.codes.length cq) (.int .u32 m.base) (.slice ta m.tree.length tq) (.int .i64 m.node) (.slice ia m.insts.length iq) (.int .i64 (i:Int)) (.string o) hB.size
  have JS:=hid (k2 (fun u=>Stands u b #[.slice sa m.stack.length sq, .slice ma m.mem.length mq, .slice wa m.words.length wq, .slice ca m.codes.length cq, .int .u32 m.base, .slice ta m.tree.length tq, .int .i64 m.node, .slice ia m.insts.length iq, .int .i64 (i:Int), .string o, .int .i64 n, .int .i64 (i:Int)] 62) (fun u u' kk q=>stands_kept kk (by decide) q) s2)
  have K1:=hid k1
  have JJ:=hid J
  have BB:=hid B3
  clear k1 k2 J B3 own2 own8 B2 B8 z2 z8 s2 st8'
  go_wp2_with fail
  (try simp only[Exit.inBlock,Exit.then])
  refine bodyPost_ret (results_cell_row rfl _ _ w.heap.size 30 _ (0,0) _ rfl K1.out Tryz.underlying30 rfl (show _=some 10 by kernel_rfl)) rfl ?_
  exact ⟨rfl,⟨JJ.out.stack,JJ.out.mem,JJ.out.words,JJ.out.codes,JJ.out.tree,JJ.out.insts,JJ.out.out⟩,JS.out,BB.out⟩
def posI (ch:List Nat) (I:Int):Nat:=match ch.findIdx? (fun (i:Nat)=>decide ((i:Int)=I)) with
 |some k=>k
 |none=>ch.length
theorem pos_hd {ch:List Nat} (hnd:ch.Nodup) (j:Nat) (hj:j≤ch.length):posI ch (hdI (ch.drop j))=j:=by
 by_cases hlt:j < ch.length
 ·rw[List.drop_eq_getElem_cons hlt]
  have:ch.findIdx? (fun (i:Nat)=>decide ((i:Int)=hdI (ch[j]::ch.drop (j+1))))=some j:=by
   refine idx_hit hlt (by simp[hdI]) (fun i hi=> ?_)
   have hne:¬ch[i]=ch[j]:=fun e=>by
    have:=(List.getElem_inj hnd).1 e
    omega
   rw[decide_eq_false_iff_not]
   simp only[hdI]
   omega
  unfold posI
  rw[this]
 ·obtain rfl:j=ch.length:=by omega
  rw[List.drop_length]
  have:ch.findIdx? (fun (i:Nat)=>decide ((i:Int)=hdI []))=none:=by
   rw[List.findIdx?_eq_none_iff]
   intro x hx
   simp[hdI]
  unfold posI
  rw[this]
theorem nd_take {ch:List Nat} (hnd:ch.Nodup) (j:Nat) (hj:j < ch.length):¬ch[j]∈ch.take j:=by
 intro h
 obtain ⟨i,hi,e⟩:=List.getElem_of_mem h
 rw[List.length_take] at hi
 rw[List.getElem_take] at e
 have:=(List.getElem_inj hnd).1 e
 omega
theorem one_u32 (a:Int):∀u∈[Value.int .u32 a],u.oneCell'=true:=by
 intro u hu
 simp at hu
 subst hu
 rfl
theorem slr_idxT (T:IntKind) {α:Type} {P:Program} {R:World→List Value→α→Prop} {w:World} {v:Value} {xs:List α} {sz:Nat} (h:SlR sz R w v xs) {t:TypeId} (ht:P.underlying t=some (.slice (P.elem t))) (hs:∀w,(sizeOf (P.elem t)).run P w= .ok sz w) (i:Nat) (h1:i < xs.length):
  ∃(b o:Nat) (cs:List Value),(∀w',(Instr.indexAt t v (.int T (i:Int))).run P w'= .ok (.pointer (some ⟨b,o,none⟩)) w')∧cs.length=sz∧(∀j,j < sz→w.cell? ⟨b,o+j,none⟩=cs[j]?)∧R w cs xs[i]:=by
 obtain ⟨rows,g1,g2,g3⟩:=h
 obtain ⟨ao,cap,rfl,hc,hn,hx⟩:=g1.form
 obtain ⟨hm,b,off,rfl,hcell⟩:=hx (by omega)
 obtain ⟨l1,l2⟩:=hcell i (by omega)
 refine ⟨b,off+i*sz,rows.getD i [],fun w'=> ?_,l1,fun j hj=>l2 j hj,g3 i h1⟩
 rw[run_indexAt_slice (h:=ht),if_pos ⟨by omega,by omega⟩,hs]
 simp only[Result.andThen,Int.toNat_natCast]
 congr 3
 unfold Addr.add
 split
 ·rename_i hz;rw[hz];rfl
 ·rfl
set_option maxHeartbeats 2000000 in
set_option maxRecDepth 100000 in
theorem w_palive17 (m:Mc) (v:Mv) (o:ByteArray) (k:Nat) (x:Iz) (w:World) (h:RdM w v m o) (hx:m.insts[k]? =some x) (hx1:¬x.1= -1) (hl:m.insts.length≤16):
  Calls Tryz.prog 22 #[.agg (v.cs m o), .int .u32 ((k:Int)+1)] w fun e w'=>e= .returned (.int .i64 k)∧Below w.heap.size w w':=by
 obtain ⟨vs,vm,vw,vc,vt,vi⟩:=v
 have hh:=h
 obtain ⟨hs,hm,hw,hc,ht,hi,ho⟩:=hh
 simp only at hs hm hw hc ht hi
 obtain ⟨sa,sq,rfl⟩:=rd_slice hs
 obtain ⟨ma,mq,rfl⟩:=rd_slice hm
 obtain ⟨wa,wq,rfl⟩:=slr_slice hw
 obtain ⟨ca,cq,rfl⟩:=rd_slice hc
 obtain ⟨ta,tq,rfl⟩:=slr_slice ht
 obtain ⟨ia,iq,rfl⟩:=slr_slice hi
 have bw:=box_below w (.cells #[.slice sa m.stack.length sq, .slice ma m.mem.length mq, .slice wa m.words.length wq, .slice ca m.codes.length cq, .int .u32 m.base, .slice ta m.tree.length tq, .int .i64 m.node, .slice ia m.insts.length iq, .int .i64 m.self, .string o] 30)
 have f7:=(stands_new w #[.slice sa m.stack.length sq, .slice ma m.mem.length mq, .slice wa m.words.length wq, .slice ca m.codes.length cq, .int .u32 m.base, .slice ta m.tree.length tq, .int .i64 m.node, .slice ia m.insts.length iq, .int .i64 m.self, .string o] 30).cell 7 _ rfl
 obtain ⟨hkl,hxe⟩:=List.getElem?_eq_some_iff.1 hx
 have hli:=slr_len hi uI (P:=Tryz.prog)
 obtain ⟨bi,oi,cs,rs,hcl,hcc,vc,hcs,_⟩:=slr_idxT .u32 (RdI.below hi bw) uI zI k hkl
 subst hcs
 have f0:(w.alloc (.cells #[.slice sa m.stack.length sq, .slice ma m.mem.length mq, .slice wa m.words.length wq, .slice ca m.codes.length cq, .int .u32 m.base, .slice ta m.tree.length tq, .int .i64 m.node, .slice ia m.insts.length iq, .int .i64 m.self, .string o] 30)).cell? ⟨bi,oi,none⟩=some (.int .i64 (m.insts[k]).1):=hcc 0 (by decide)
 rw[hxe] at f0
 obtain ⟨X,hX⟩:∃X,x.1=X:=⟨_,rfl⟩
 rw[hX] at f0 hx1
 have q0:((k:Int)+1==0)=false:=by rw[beq_eq_false_iff_ne];omega
 have q1:(X== -1)=false:=by simpa using hx1
 have e1:IntKind.u64.wrap ((k:Int)+1)=(k:Int)+1:=by rw[IntKind.wrap_u64];omega
 have e2:IntKind.u64.wrap (m.insts.length:Int)=(m.insts.length:Int):=by rw[IntKind.wrap_u64];omega
 have e3:IntKind.u32.wrap ((k:Int)+1 - 1)=(k:Int):=by rw[IntKind.wrap_u32];omega
 have e4:IntKind.i64.wrap (k:Int)=(k:Int):=by rw[IntKind.wrap_i64];omega
 have q2:decide ((m.insts.length:Int) < (k:Int)+1)=false:=decide_eq_false (by omega)
 simp only[Mv.cs]
 clear hs hm hw hc ht hi ho h hx hxe hcc hcl hX hx1
 go_enter Tryz.func22,Tryz.ntmps22
 go_wp2_with fail
 go_ret
 exact ⟨rfl,bw⟩
set_option maxHeartbeats 4000000 in
set_option maxRecDepth 100000 in
theorem w_pchain17 (m:Mc) (v:Mv) (o:ByteArray) (ch:List Nat) (hnd:ch.Nodup) (w:World) (h:RdM w v m o) (g:gM m) (hF:frmM m=true) (hl:m.insts.length≤16) (hne:0 < ch.length) (hcl:ch.length≤16) (hlk:∀j (hj:j < ch.length),∃x,m.insts[ch[j]]? =some x∧x.2.1=hdI (ch.drop (j+1))∧¬x.1= -1):
  Calls Tryz.prog 7 #[.agg (v.cs m o), .int .u32 (hdI ch+1)] w fun e w'=>∃v',e= .returned v'∧Rd .u32 w' v' (ch.map (fun (i:Nat)=>(i:Int)+1))∧Below w.heap.size w w':=by
 have hd0:hdI ch=(ch[0]:Nat):=by cases ch with|nil=>exact absurd hne (by simp)|cons a b=>rfl
 rw[hd0]
 obtain ⟨x0,hx0,_,hx1⟩:=hlk 0 hne
 have CA:=hid (fun W (q:Below w.heap.size w W)=>w_palive17 m v o ch[0] x0 W (h.below q) hx0 hx1 hl)
 have CF:=hid (fun W (q:Below w.heap.size w W)=>by have z:=w_p9formed' m v o W (h.below q) g;rw[hF] at z;exact z)
 have HLK:=hid hlk
 have H0:=hid hd0
 obtain ⟨vs,vm,vw,vc,vt,vi⟩:=v
 have hh:=h
 obtain ⟨hs,hm,hw,hc,ht,hi,ho⟩:=hh
 simp only at hs hm hw hc ht hi
 obtain ⟨sa,sq,rfl⟩:=rd_slice hs
 obtain ⟨ma,mq,rfl⟩:=rd_slice hm
 obtain ⟨wa,wq,rfl⟩:=slr_slice hw
 obtain ⟨ca,cq,rfl⟩:=rd_slice hc
 obtain ⟨ta,tq,rfl⟩:=slr_slice ht
 obtain ⟨ia,iq,rfl⟩:=slr_slice hi
 have bw:=box_below w (.cells #[.slice sa m.stack.length sq, .slice ma m.mem.length mq, .slice wa m.words.length wq, .slice ca m.codes.length cq, .int .u32 m.base, .slice ta m.tree.length tq, .int .i64 m.node, .slice ia m.insts.length iq, .int .i64 m.self, .string o] 30)
 have s0:=stands_new w #[.slice sa m.stack.length sq, .slice ma m.mem.length mq, .slice wa m.words.length wq, .slice ca m.codes.length cq, .int .u32 m.base, .slice ta m.tree.length tq, .int .i64 m.node, .slice ia m.insts.length iq, .int .i64 m.self, .string o] 30
 have F10:Hid (∀W,Below (w.alloc (.cells #[.slice sa m.stack.length sq, .slice ma m.mem.length mq, .slice wa m.words.length wq, .slice ca m.codes.length cq, .int .u32 m.base, .slice ta m.tree.length tq, .int .i64 m.node, .slice ia m.insts.length iq, .int .i64 m.self, .string o] 30)).heap.size (w.alloc (.cells #[.slice sa m.stack.length sq, .slice ma m.mem.length mq, .slice wa m.words.length wq, .slice ca m.codes.length cq, .int .u32 m.base, .slice ta m.tree.length tq, .int .i64 m.node, .slice ia m.insts.length iq, .int .i64 m.self, .string o] 30)) W→(W.cell? ⟨w.heap.size,0,none⟩=some (.slice sa m.stack.length sq)∧W.cell? ⟨w.heap.size,1,none⟩=some (.slice ma m.mem.length mq)∧W.cell? ⟨w.heap.size,2,none⟩=some (.slice wa m.words.length wq)∧W.cell? ⟨w.heap.size,3,none⟩=some (.slice ca m.codes.length cq)∧W.cell? ⟨w.heap.size,4,none⟩=some (.int .u32 m.base)∧W.cell? ⟨w.heap.size,5,none⟩=some (.slice ta m.tree.length tq)∧W.cell? ⟨w.heap.size,6,none⟩=some (.int .i64 m.node)∧W.cell? ⟨w.heap.size,7,none⟩=some (.slice ia m.insts.length iq)∧W.cell? ⟨w.heap.size,8,none⟩=some (.int .i64 m.self)∧W.cell? ⟨w.heap.size,9,none⟩=some (.string o))):=fun W q=>cells10 (s0.below q)
 have HRI:Hid (∀W,Below w.heap.size w W→RdI W (.slice ia m.insts.length iq) m.insts):=fun W q=>hi.below q
 simp only[Mv.cs] at CA CF ⊢
 obtain ⟨i4,hi4,hz4,hs4,hb4⟩:=info_parts infoU32
 clear hs hm hw hc ht hi ho h hx0 hx1 hlk hd0 g
 go_enter Tryz.func7,Tryz.ntmps7
 go_upto_region 1 with fail
 generalize hW1:w.alloc (.cells #[.slice sa m.stack.length sq, .slice ma m.mem.length mq, .slice wa m.words.length wq, .slice ca m.codes.length cq, .int .u32 m.base, .slice ta m.tree.length tq, .int .i64 m.node, .slice ia m.insts.length iq, .int .i64 m.self, .string o] 30)=W1 at bw s0 F10 ⊢
 clear hW1
 obtain ⟨t0,t1,t2,t3,t4,t5,t6,t7,t8,t9⟩:=F10.out W1 (Below.refl _ _)
 go_upto_region 4 with (first|(go_at_call 21;refine (CF.out _ bw).mono ?_;rintro e w1 ⟨rfl,b1⟩)|fail)
 clear t0 t1 t2 t3 t4 t5 t6 t7 t8 t9
 obtain ⟨t0,t1,t2,t3,t4,t5,t6,t7,t8,t9⟩:=F10.out w1 b1
 go_upto_region 5 with (first|(go_at_call 22;refine (CA.out _ (below_trans bw b1)).mono ?_;rintro e w2 ⟨rfl,b2⟩)|fail)
 clear t0 t1 t2 t3 t4 t5 t6 t7 t8 t9
 have b12:=below_trans b1 b2
 rw[←H0.out]
 go_loopw [5,6] (fun O I wx=>∃j:Nat,j≤ch.length∧I= .int .i64 (hdI (ch.drop j))∧wx.ownsRow W1.heap.size 26 1 O j (((ch.take j).map (fun (i:Nat)=>(i:Int)+1)).map (Value.int .u32))∧Below W1.heap.size W1 wx) (fun _ I _=>ch.length - posI ch (intOf I))
 case atStart=>exact ⟨0,by omega,rfl,World.ownsRow_nil _ _ _ _,b12⟩
 case round=>
  obtain ⟨j,hj,rfl,ho,hg⟩:=hrel
  by_cases hlt:j < ch.length
  ·have hdj:hdI (ch.drop j)=(ch[j]:Nat):=by rw[List.drop_eq_getElem_cons hlt];rfl
   obtain ⟨x,hx,hxp,_⟩:=HLK.out j hlt
   have hm:Hid (((ch.take (j+1)).map (fun (i:Nat)=>(i:Int)+1)).map (Value.int .u32)=((ch.take j).map (fun (i:Nat)=>(i:Int)+1)).map (Value.int .u32)++[.int .u32 ((ch[j]:Nat)+1)]):=by
    show _=_
    rw[List.take_succ_eq_append_getElem hlt,List.map_append,List.map_append]
    rfl
   obtain ⟨k,hk⟩:∃k,ch[j]=k:=⟨_,rfl⟩
   rw[hk] at hdj hx hm
   obtain ⟨hkl,hxe⟩:=List.getElem?_eq_some_iff.1 hx
   rw[hdj]
   have q0:((k:Int) != -1)=true:=by simp
   have cH:=w_phandle k wr (by omega)
   obtain ⟨oa,oc,rfl⟩:=own_form ho
   have ha:=alloc_row wr [.int .u32 ((k:Int)+1)] 26
   have oo:=own_belowN ho (box_below wr (.cells #[.int .u32 ((k:Int)+1)] 26))
   have hgb:=below_trans hg (box_below wr (.cells #[.int .u32 ((k:Int)+1)] 26))
   have hdj':=hid hdj
   have HX:=hid hxe
   have HP:=hid hxp
   clear hx hxe hxp hk ho hdj
   go_wp2_with (first
    |(go_at_call 18;refine cH.mono ?_;rintro e w3 ⟨rfl,hw3⟩;obtain rfl:=hw3)
    |(at_builtin;refine wpList_append_row rfl _ _ 22 rfl W1.heap.size 26 i4 _ 1 4 Tryz.underlying22 hi4 hz4 hs4 hb4 rfl (by decide) _ j _ rfl oo _ [.int .u32 ((k:Int)+1)] rfl rfl ha (one_u32 _) (by unfold maxLen;omega) (by omega) hgb.size ?_;intro v8 w8 o8 g8;have h8:=below_grown hgb g8 (fun k hk=>(oo.lt k hk).1);obtain ⟨t0,t1,t2,t3,t4,t5,t6,t7,t8,t9⟩:=F10.out w8 h8;obtain ⟨b7,o7,a7,v7,r7,y0,y1,ff⟩:=ins_at (HRI.out w8 (below_trans bw h8)) k hkl;rw[HX.out,HP.out] at y1)
    |fail)
   go_roundw
   case rel=>exact ⟨j+1,by omega,rfl,by rw[hm.out];exact o8,h8⟩
   case measure=>simp only[intOf];rw[←hdj'.out,pos_hd hnd j (by omega),pos_hd hnd (j+1) (by omega)];omega
  ·obtain rfl:j=ch.length:=by omega
   have e0:hdI (ch.drop ch.length)= -1:=by rw[List.drop_length];rfl
   rw[e0]
   have e9:ch.take ch.length=ch:=List.take_length
   rw[e9] at ho
   have hr:=(Rd_own (k:= .u32) (xs:=ch.map (fun (i:Nat)=>(i:Int)+1)) (by simpa using ho)).1
   have HR:=hid hr
   clear e9
   go_wp2_with fail
   go_ret
   exact ⟨_,rfl,HR.out,below_trans bw hg⟩
set_option maxHeartbeats 4000000 in
set_option maxRecDepth 100000 in
theorem w_pkcloseAll {W0:World} {b:Nat} {v:Mv} {m:Mc} {o:ByteArray} {n was:Int} (ch:List Nat) (w:World) (h:Kpr W0.heap.size b w v m o n was) (hb:W0.heap.size≤b) (hB:Below W0.heap.size W0 w) (hnd:ch.Nodup) (hin:∀i∈ch,i < m.insts.length) (hlk:∀j (hj:j < ch.length),∃x,m.insts[ch[j]]? =some x∧x.2.1=hdI (ch.drop (j+1))∧¬x.1= -1) (hfr:∀j (hj:j < ch.length),∀x∈relI m.insts ch j,¬x.2.1=(ch[j]:Nat)) (hby:∀x∈m.words,bytesL x.1) (hno:∀x∈m.words,¬x.1=[99,108,111,115,101]):
  Calls Tryz.prog 25 #[.pointer (some ⟨b,0,none⟩), .int .i64 (hdI ch)] w fun e w'=>e= .returned (.int .i64 0)∧(∃v',Kpr W0.heap.size b w' v' {m with insts:=relI m.insts ch ch.length} o n was)∧Below W0.heap.size W0 w':=by
 have HLK:=hid hlk
 have HFR:=hid hfr
 have HIN:=hid hin
 have HNO:=hid hno
 have HBY:=hid hby
 clear hlk hfr hin hno hby
 go_enter Tryz.func25,Tryz.ntmps25
 go_wp2_with fail
 go_loopw [1] (fun I wx=>∃(j:Nat) (v1:Mv),j≤ch.length∧I= .int .i64 (hdI (ch.drop j))∧Kpr W0.heap.size b wx v1 {m with insts:=relI m.insts ch j} o n was∧Below W0.heap.size W0 wx) (fun I _=>ch.length - posI ch (intOf I))
 case atStart=>exact ⟨0,v,by omega,rfl,h,hB⟩
 case round=>
  clear h hB
  obtain ⟨j,v1,hj,rfl,kp,hg⟩:=hrel
  by_cases hlt:j < ch.length
  ·have hdj:hdI (ch.drop j)=(ch[j]:Nat):=by rw[List.drop_eq_getElem_cons hlt];rfl
   obtain ⟨x,hx,hxp,_⟩:=HLK.out j hlt
   have hfr:=HFR.out j hlt
   have hra:=rel_at m.insts ch hnd HIN.out j (by omega) ch[j]
   rw[if_neg (nd_take hnd j hlt),hx] at hra
   have hrs:=rel_succ m.insts ch j hlt
   have hrl:=rel_len m.insts ch j
   obtain ⟨k,hk⟩:∃k,ch[j]=k:=⟨_,rfl⟩
   obtain ⟨l1,hl1⟩:∃l,relI m.insts ch j=l:=⟨_,rfl⟩
   rw[hk] at hdj hfr hra hrs
   rw[hl1] at hfr hra hrs hrl kp
   have cS:=w_pkstood (k:Int) wr kp
   have ha:l1.any (fun x=>decide (x.2.1=(k:Int)))=false:=by
    rw[List.any_eq_false]
    intro y hy
    simpa using hfr y hy
   simp only[ha] at cS
   obtain ⟨hkl,hxe⟩:=List.getElem?_eq_some_iff.1 hra
   have CM:=hid (fun W (q:Below wr.heap.size wr W)=>w_pkmethod k ⟨#[99,108,111,115,101]⟩ W (kp.below q) hkl HBY.out HNO.out)
   obtain ⟨sa,sq,ma,mq,wa,wq,ca,cq,ta,tq,ia,iq,rfl⟩:=kp.own.form
   have oI:OwI W0.heap.size wr (.slice ia l1.length iq) l1:=kp.own.insts
   obtain ⟨ics,hir⟩:=OwnR.row oI
   obtain ⟨g,icap,ei⟩:=own_some hir (by omega)
   obtain ⟨rfl,rfl⟩:=slc_inj ei
   have HBG:Hid (W0.heap.size≤g):=own_ge hir
   have CI:=hid (idx_ins g l1.length iq k hkl)
   have ci:=CI.out
   have q0:((k:Int) != -1)=true:=by simp
   rw[hdj]
   have hdj':=hid hdj
   have HX:=hid hxe
   have HP:=hid hxp
   have HRS:=hid hrs
   have KP:=hid kp
   have HK:=hid hkl
   clear hx hxe hxp hk hdj hrs hra hfr ha oI hir ei kp hl1 hrl
   go_wp2_with (first
    |(go_at_call 24;refine cS.mono ?_;rintro e w2 ⟨rfl,b2⟩)
    |(go_at_call 45;refine (CM.out _ b2).mono ?_;rintro e w3 ⟨rfl,b3⟩;have kp3:=KP.out.below (below_trans b2 b3);have hg3:=below_trans hg (below_trans b2 b3);have t7:w3.cell? ⟨b,7,none⟩=some (.slice (some ⟨g,0,none⟩) l1.length iq):=kp3.box.cell 7 _ rfl;have I3:OwI W0.heap.size w3 (.slice (some ⟨g,0,none⟩) l1.length iq) l1:=kp3.own.insts;obtain ⟨b7,o7,a7,v7,r7,y0,y1,y2,y3,ff7⟩:=ins_at (OwnR.read (by decide) I3 insO_R) k HK.out;obtain ⟨e7,e8⟩:=ptr_inj ((CI.out w3).symm.trans (r7 w3));subst e7;subst e8;rw[HX.out,HP.out] at y1;obtain ⟨cs7,hr7⟩:=OwnR.row I3;have yf:∀j,w3.frozen? ⟨g,j,none⟩=false:=fun j=>hr7.frozenAt j;obtain ⟨p1,p2⟩:=ins_put I3 k HK.out emI (.slice none 0 0) (World.ownsRow_nil _ _ _ _) ⟨#[]⟩ rfl;have P1:=hid (OwM.grewI kp3.own p2 p1);have P3:=hid (stands_kept p2 (by decide) kp3.box);have P5:=hid (below_ins hg3 HBG.out k (.int .i64 (-1)) (.int .i64 (-1)) (.string ⟨#[]⟩) (.slice none 0 0));clear p1 p2 ff7 r7 hr7 I3)
    |fail)
   go_roundw
   case rel=>exact ⟨j+1,_,by omega,rfl,⟨P3.out,by have q:=P1.out;rw[←HRS.out] at q;exact q⟩,P5.out⟩
   case measure=>simp only[intOf];rw[←hdj'.out,pos_hd hnd j (by omega),pos_hd hnd (j+1) (by omega)];omega
  ·obtain rfl:j=ch.length:=by omega
   have e0:hdI (ch.drop ch.length)= -1:=by rw[List.drop_length];rfl
   rw[e0]
   go_wp2_with fail
   go_ret
   exact ⟨rfl,⟨_,kp⟩,hg⟩
end Go.Proofs.YtlokhciaaepenaaGreatDoor
