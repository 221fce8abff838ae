import Derived.WalkMore
import Derived.BigQuiet
import Derived.Deep.RegionHeld
import Derived.Lib.Bytealg
import Derived.Lib.Strings
import Derived.Test.YtbamcchghecpeaaGreatDoorB9
set_option linter.unusedVariables false
set_option linter.unusedSimpArgs false
set_option maxRecDepth 100000
namespace Go.Proofs.YtbamcchghecpeaaGreatDoor
open Go.ChangeShapes Go.WideShapes Go.ChangeAt Go.RowKit
def StP (B:Nat) (D:Nat→Prop) (q:Nat) (wA:World) (X:Rs×Nat×Int) (n:Nat) (E:Int) (w':World):Prop:=
 Below B wA w'∧((E=0∧∃s b vf fs nxt,∃k:Nat,∃thr,RunL B D w' q s b vf fs nxt k thr∧NxtP X n s.m s.ret fs nxt thr k)∨
  (¬E=0∧∃s b vf fs,∃k:Nat,∃thr,RunL B D w' q s b vf fs (-1) k thr∧s.m.words=b.m.words∧s.m.insts=b.m.insts∧FlP X E b.m b.ret fs thr k∧4*k+2*fs.length < n))
theorem StP.of {B:Nat} {D:Nat→Prop} {q:Nat} {wA w w':World} {X:Rs×Nat×Int} {n k:Nat} {s:Sv} {o:Ot} {e:Ending} (hb:Below B wA w) (h:OtP B D q s s (k:Int) w o rtE e w') (h0:o.e=0→NxtP X n o.m o.ret o.fs o.nxt o.thr k) (h1:¬o.e=0→o.nxt= -1∧FlP X o.e s.m s.ret o.fs o.thr k∧4*k+2*o.fs.length < n):
  ∃E,e= .returned (.int .i64 E)∧StP B D q wA X n E w':=by
 obtain ⟨rfl,b2,s',vf',hr,y,z⟩:=h
 refine ⟨o.e,rfl,Below.trans hb b2, ?_⟩
 by_cases c:o.e=0
 ·obtain ⟨y1,y2⟩:=y c
  refine Or.inl ⟨c,s',s,vf',o.fs,o.nxt,k,o.thr,hr, ?_⟩
  rw[y1,y2]
  exact h0 c
 ·obtain ⟨z1,z2⟩:=z c
  obtain ⟨g1,g2,g3⟩:=h1 c
  rw[g1] at hr
  exact Or.inr ⟨c,s',s,vf',o.fs,k,o.thr,hr,z1,z2,g2,g3⟩
theorem StP.no {B:Nat} {D:Nat→Prop} {q:Nat} {wA w':World} {X:Rs×Nat×Int} {n k:Nat} {s b:Sv} {vf:Value} {fs:List Fm} {thr E:Int} (hb:Below B wA w') (h:RunL B D w' q s b vf fs (-1) k thr) (e1:s.m.words=b.m.words) (e2:s.m.insts=b.m.insts) (f:FlP X E b.m b.ret fs thr k) (hn:4*k+2*fs.length < n):∃E',Ending.returned (.int .i64 E)= .returned (.int .i64 E')∧StP B D q wA X n E' w':=
 ⟨E,rfl,hb,Or.inr ⟨f.ne,s,b,vf,fs,k,thr,h,e1,e2,f,hn⟩⟩
theorem w_begS {B:Nat} {D:Nat→Prop} {w wA:World} {q:Nat} {s:Sv} {vf:Value} {fs:List Fm} {xt thr:Int} {k:Nat} {X:Rs×Nat×Int} (h:RunL B D w q s s vf fs xt k thr) (p:WdP X xt s.m s.ret fs thr k) (hb:Below B wA w):
  Calls Tryz.prog 60 #[.pointer (some ⟨q,0,none⟩)] w fun e w'=>∃E,e= .returned (.int .i64 E)∧StP B D q wA X (4*k+2*fs.length+1) E w':=by
 cases k with
 |zero=>
  refine (w_begin0 h).mono ?_
  rintro e w' ⟨rfl,b2,h2⟩
  exact StP.no (k:=0) (Below.trans hb b2) h2 rfl rfl (beg_none p) (by omega)
 |succ k=>
  obtain ⟨x,hx⟩:=Int.eq_ofNat_of_zero_le p.x0
  subst hx
  have hl:=p.len
  have c:=w_begin x h p.inv.ok (by omega) p.inv.fok.bs.1 (by omega) (by omega) (by have:=p.x1;omega) p.dp p.ac p.xa
  have e1:((k+1:Nat):Int) - 1=(k:Int):=by omega
  rw[e1] at c
  refine c.mono ?_
  intro e w' hh
  have st:=beg_step p rfl
  exact StP.of hb hh st.1 st.2
theorem w_proS {B:Nat} {D:Nat→Prop} {w wA:World} {q:Nat} {s:Sv} {vf:Value} {f:Fm} {r:List Fm} {thr:Int} {k:Nat} {X:Rs×Nat×Int} (h:RunL B D w q s s vf (f::r) (-1) k thr) (p:OpP X s.m s.ret (f::r) thr k) (hb:Below B wA w):
  Calls Tryz.prog 62 #[.pointer (some ⟨q,0,none⟩)] w fun e w'=>∃E,e= .returned (.int .i64 E)∧StP B D q wA X (4*k+2*(r.length+1)+1) E w':=by
 have hl:=p.len
 simp only[List.length_cons] at hl
 have h64:s.m.stack.length≤64:=h64_of p.inv.ok
 have hrl:s.ret.length≤64:=p.inv.ok.ran.retL
 cases f with
 |«catch» bs hh sl=>
  refine (w_procCat h h64 hrl (by omega)).mono ?_
  intro e w' g
  have st:=catch_step p
  refine StP.of hb g ?_ ?_
  ·intro e0
   by_cases c:(s.ret.length:Int)=bs
   ·rw[if_pos c] at e0 ⊢
    exact ⟨by dsimp only;omega,Or.inl ⟨rfl,(st.1 c).1 e0⟩⟩
   ·rw[if_neg c] at e0
    simp at e0
  ·intro e0
   by_cases c:(s.ret.length:Int)=bs
   ·rw[if_pos c] at e0 ⊢
    exact ⟨rfl,(st.1 c).2 e0,by dsimp only;omega⟩
   ·rw[if_neg c] at e0 ⊢
    exact ⟨rfl,st.2 c,by simp⟩
 |meth bs sl=>
  refine (w_procMeth h (by omega)).mono ?_
  intro e w' g
  refine StP.of hb g (fun _=> ?_) (fun e0=>absurd rfl e0)
  exact ⟨by dsimp only;omega,Or.inl ⟨rfl,meth_step p⟩⟩
 |colon bs wd at_=>
  have fk:=p.inv.fok
  simp only[Fok] at fk
  obtain ⟨f1,f2,f3,f4,f5,f6,f7,f8⟩:=fk
  have hd:=p.dp
  simp only[dpF] at hd
  obtain ⟨wn,hwn⟩:=Int.eq_ofNat_of_zero_le f3
  subst hwn
  have hw:wn < s.m.words.length:=by omega
  obtain ⟨a,ha⟩:=Int.eq_ofNat_of_zero_le f6
  have ew:s.m.words.getD wn ([],0,0,0,[])=s.m.words[wn]:=by
   rw[List.getD_eq_getElem?_getD,List.getElem?_eq_getElem hw]
   rfl
  have tn:((wn:Int)).toNat=wn:=by omega
  have ta:at_.toNat=a:=by omega
  rw[tn,ew] at f5 f7
  have cd:=wd_code (m:=s.m) p.inv.ok.frm hw (by rw[ew];exact f5)
  rw[ew] at cd
  have gx:s.m.words.getD ((wn:Int)).toNat ([],0,0,0,[])=s.m.words[wn]:=by rw[tn,ew]
  by_cases c:at_=(s.m.words[wn].2.2.2.2.length:Int)
  ·refine (w_procEnd h hw c hrl (by omega) (by omega)).mono ?_
   intro e w' g
   have st:=end_step p (by rw[gx,ta];exact List.getElem?_eq_none (by omega))
   refine StP.of hb g ?_ ?_
   ·intro e0
    by_cases c:(s.ret.length:Int)=bs
    ·rw[if_pos c] at e0 ⊢
     exact ⟨by dsimp only;omega,Or.inl ⟨rfl,st.1 c⟩⟩
    ·rw[if_neg c] at e0
     simp at e0
   ·intro e0
    by_cases c:(s.ret.length:Int)=bs
    ·rw[if_pos c] at e0
     exact absurd rfl e0
    ·rw[if_neg c] at e0 ⊢
     exact ⟨rfl,st.2 c,by simp⟩
  ·have hal:a < s.m.words[wn].2.2.2.2.length:=by omega
   have hx:(s.m.words.getD ((wn:Int)).toNat ([],0,0,0,[])).2.2.2.2[at_.toNat]? =some s.m.words[wn].2.2.2.2[a]:=by rw[gx,ta,List.getElem?_eq_getElem hal]
   cases k with
   |zero=>
    refine (w_procNo h hw c (by omega)).mono ?_
    rintro e w' ⟨rfl,b2,h2⟩
    exact StP.no (k:=0) (Below.trans hb b2) h2 rfl rfl (ins_none p hx) (by simp)
   |succ k=>
    have gw:=(p.inv.ok.ran.m.words _ (List.getElem_mem hw)).ops _ (List.getElem_mem hal)
    have ok:=cd.2 _ (List.getElem_mem hal)
    unfold okO at ok
    simp only[decide_eq_true_eq] at ok
    have c2:=w_procIns h p.inv.ok hw a ha hal cd.1 (by omega) (by omega) (by omega) (by have:=f8.bs;omega) (by omega) ⟨gw.2.1,gw.2.2⟩ (fun z=>by omega) (by omega)
    have e1:((k+1:Nat):Int) - 1=(k:Int):=by omega
    rw[e1] at c2
    refine c2.mono ?_
    intro e w' g
    have st:=ins_stepI p hx gw.2.1 gw.2.2 rfl
    exact StP.of hb g st.1 st.2
structure RunP (B:Nat) (D:Nat→Prop) (w:World) (q:Nat) (s b:Sv) (vf:Value) (fs:List Fm) (nxt fuel thr:Int):Prop where
 st:Stands w q (rnC s b vf (dpF fs) nxt fuel thr) 67
 hs:StL kR D w s
 wd:WdL kR D B w s.v.vw s.m.words
 ins:InL kR D B w s.v.vi s.m.insts
 fr:w.ownsRow B 122 6 vf fs.length (fmR fs).flatten
 hq:B≤q
 hB:B≤w.heap.size
 hD:∀k,D k→B≤k∧k < w.heap.size
 tab:∀w',Below B w w'→Stk.Tab w'
theorem RunL.toP {B:Nat} {D:Nat→Prop} {w:World} {q:Nat} {s b:Sv} {vf:Value} {fs:List Fm} {nxt fuel thr:Int} (h:RunL B D w q s b vf fs nxt fuel thr):RunP B D w q s b vf fs nxt fuel thr:=⟨h.st,h.hs,h.wd,h.ins,h.fr,h.hq,h.hB,h.hD,h.tab⟩
theorem RunP.upd {B:Nat} {D:Nat→Prop} {w w':World} {q:Nat} {s s' b b':Sv} {vf:Value} {fs:List Fm} {nxt fuel thr nxt' fuel' thr':Int} (h:RunP B D w q s b vf fs nxt fuel thr) (g:w.grownBy w' (some q))
  (st:Stands w' q (rnC s' b' vf (dpF fs) nxt' fuel' thr') 67) (hs:StL kR D w' s') (hb:StL kR D w' b')
  (e1:s'.v.vw=s.v.vw) (e2:s'.m.words=s.m.words) (e3:s'.v.vi=s.v.vi) (e4:s'.m.insts=s.m.insts) (e5:b'.v.vw=s.v.vw) (e6:b'.v.vi=s.v.vi):RunL B D w' q s' b' vf fs nxt' fuel' thr':=by
 have k:=Kept.stands h.st g
 have a:Agr kR D w w':=Agr.kept k rfl
 refine ⟨st,hs, ?_, ?_,hb,e5.trans e1.symm,e6.trans e3.symm,own_kept k (by decide) h.fr,h.hq,Nat.le_trans h.hB g.size,fun k hk=>⟨(h.hD k hk).1,Nat.lt_of_lt_of_le (h.hD k hk).2 g.size⟩,fun w2 b2=>h.tab w2 (Below.trans (gb_below' g h.hq h.hB) b2)⟩
 ·rw[e1,e2]
  exact h.wd.kept k a (by decide)
 ·rw[e3,e4]
  exact h.ins.kept k a (by decide)
theorem RunP.agr {B:Nat} {D:Nat→Prop} {w w':World} {q:Nat} {s b:Sv} {vf:Value} {fs:List Fm} {nxt fuel thr:Int} (h:RunP B D w q s b vf fs nxt fuel thr) (g:w.grownBy w' (some q)):Agr kR D w w':=Agr.kept (Kept.stands h.st g) rfl
theorem RunP.low {B:Nat} {D:Nat→Prop} {w w':World} {q:Nat} {s b:Sv} {vf:Value} {fs:List Fm} {nxt fuel thr:Int} (h:RunP B D w q s b vf fs nxt fuel thr) (g:w.grownBy w' (some q)):Below B w w':=gb_below' g h.hq h.hB
theorem RunP.keep {B:Nat} {D:Nat→Prop} {w:World} {q:Nat} {s b:Sv} {vf:Value} {fs:List Fm} {nxt fuel thr:Int} (h:RunP B D w q s b vf fs nxt fuel thr):RunL B D (((((((((((w.setCell ⟨q,11,none⟩ s.v.vs).setCell ⟨q,12,none⟩ s.v.vm).setCell ⟨q,13,none⟩ s.v.vw).setCell ⟨q,14,none⟩ s.v.vc).setCell ⟨q,15,none⟩ (.int .u32 s.m.base)).setCell ⟨q,16,none⟩ s.v.vt).setCell ⟨q,17,none⟩ (.int .i64 s.m.node)).setCell ⟨q,18,none⟩ s.v.vi).setCell ⟨q,19,none⟩ (.int .i64 s.m.self)).setCell ⟨q,20,none⟩ (.string s.o)).setCell ⟨q,21,none⟩ s.vr) q s s vf fs nxt fuel thr∧Below B w (((((((((((w.setCell ⟨q,11,none⟩ s.v.vs).setCell ⟨q,12,none⟩ s.v.vm).setCell ⟨q,13,none⟩ s.v.vw).setCell ⟨q,14,none⟩ s.v.vc).setCell ⟨q,15,none⟩ (.int .u32 s.m.base)).setCell ⟨q,16,none⟩ s.v.vt).setCell ⟨q,17,none⟩ (.int .i64 s.m.node)).setCell ⟨q,18,none⟩ s.v.vi).setCell ⟨q,19,none⟩ (.int .i64 s.m.self)).setCell ⟨q,20,none⟩ (.string s.o)).setCell ⟨q,21,none⟩ s.vr):=by
 have h0:=h.st.set 11 s.v.vs
 have h1:=h0.set 12 s.v.vm
 have h2:=h1.set 13 s.v.vw
 have h3:=h2.set 14 s.v.vc
 have h4:=h3.set 15 (.int .u32 s.m.base)
 have h5:=h4.set 16 s.v.vt
 have h6:=h5.set 17 (.int .i64 s.m.node)
 have h7:=h6.set 18 s.v.vi
 have h8:=h7.set 19 (.int .i64 s.m.self)
 have h9:=h8.set 20 (.string s.o)
 have h10:=h9.set 21 s.vr
 have g:w.grownBy (((((((((((w.setCell ⟨q,11,none⟩ s.v.vs).setCell ⟨q,12,none⟩ s.v.vm).setCell ⟨q,13,none⟩ s.v.vw).setCell ⟨q,14,none⟩ s.v.vc).setCell ⟨q,15,none⟩ (.int .u32 s.m.base)).setCell ⟨q,16,none⟩ s.v.vt).setCell ⟨q,17,none⟩ (.int .i64 s.m.node)).setCell ⟨q,18,none⟩ s.v.vi).setCell ⟨q,19,none⟩ (.int .i64 s.m.self)).setCell ⟨q,20,none⟩ (.string s.o)).setCell ⟨q,21,none⟩ s.vr) (some q):=gb_set (gb_set (gb_set (gb_set (gb_set (gb_set (gb_set (gb_set (gb_set (gb_set (gb_set (gb_refl w _) 11 _) 12 _) 13 _) 14 _) 15 _) 16 _) 17 _) 18 _) 19 _) 20 _) 21 _
 exact ⟨h.upd (s':=s) (b':=s) g (by simpa only[rnC,List.setIfInBounds_toArray,List.set_cons_zero,List.set_cons_succ] using h10) (h.hs.agr (h.agr g)) (h.hs.agr (h.agr g)) rfl rfl rfl rfl rfl rfl,h.low g⟩
theorem RunL.back {B:Nat} {D:Nat→Prop} {w:World} {q:Nat} {s b:Sv} {vf:Value} {fs:List Fm} {nxt fuel thr:Int} (h:RunL B D w q s b vf fs nxt fuel thr) (e1:s.m.words=b.m.words) (e2:s.m.insts=b.m.insts):RunL B D (((((((((((w.setCell ⟨q,0,none⟩ b.v.vs).setCell ⟨q,1,none⟩ b.v.vm).setCell ⟨q,2,none⟩ b.v.vw).setCell ⟨q,3,none⟩ b.v.vc).setCell ⟨q,4,none⟩ (.int .u32 b.m.base)).setCell ⟨q,5,none⟩ b.v.vt).setCell ⟨q,6,none⟩ (.int .i64 b.m.node)).setCell ⟨q,7,none⟩ b.v.vi).setCell ⟨q,8,none⟩ (.int .i64 b.m.self)).setCell ⟨q,9,none⟩ (.string b.o)).setCell ⟨q,10,none⟩ b.vr) q b b vf fs nxt fuel thr∧Below B w (((((((((((w.setCell ⟨q,0,none⟩ b.v.vs).setCell ⟨q,1,none⟩ b.v.vm).setCell ⟨q,2,none⟩ b.v.vw).setCell ⟨q,3,none⟩ b.v.vc).setCell ⟨q,4,none⟩ (.int .u32 b.m.base)).setCell ⟨q,5,none⟩ b.v.vt).setCell ⟨q,6,none⟩ (.int .i64 b.m.node)).setCell ⟨q,7,none⟩ b.v.vi).setCell ⟨q,8,none⟩ (.int .i64 b.m.self)).setCell ⟨q,9,none⟩ (.string b.o)).setCell ⟨q,10,none⟩ b.vr):=by
 have h0:=h.st.set 0 b.v.vs
 have h1:=h0.set 1 b.v.vm
 have h2:=h1.set 2 b.v.vw
 have h3:=h2.set 3 b.v.vc
 have h4:=h3.set 4 (.int .u32 b.m.base)
 have h5:=h4.set 5 b.v.vt
 have h6:=h5.set 6 (.int .i64 b.m.node)
 have h7:=h6.set 7 b.v.vi
 have h8:=h7.set 8 (.int .i64 b.m.self)
 have h9:=h8.set 9 (.string b.o)
 have h10:=h9.set 10 b.vr
 have g:w.grownBy (((((((((((w.setCell ⟨q,0,none⟩ b.v.vs).setCell ⟨q,1,none⟩ b.v.vm).setCell ⟨q,2,none⟩ b.v.vw).setCell ⟨q,3,none⟩ b.v.vc).setCell ⟨q,4,none⟩ (.int .u32 b.m.base)).setCell ⟨q,5,none⟩ b.v.vt).setCell ⟨q,6,none⟩ (.int .i64 b.m.node)).setCell ⟨q,7,none⟩ b.v.vi).setCell ⟨q,8,none⟩ (.int .i64 b.m.self)).setCell ⟨q,9,none⟩ (.string b.o)).setCell ⟨q,10,none⟩ b.vr) (some q):=gb_set (gb_set (gb_set (gb_set (gb_set (gb_set (gb_set (gb_set (gb_set (gb_set (gb_set (gb_refl w _) 0 _) 1 _) 2 _) 3 _) 4 _) 5 _) 6 _) 7 _) 8 _) 9 _) 10 _
 exact ⟨h.upd (s':=b) (b':=b) g (by simpa only[rnC,List.setIfInBounds_toArray,List.set_cons_zero,List.set_cons_succ] using h10) (h.hb.agr (h.agr g)) (h.hb.agr (h.agr g)) h.bw e1.symm h.bi e2.symm h.bw h.bi,h.low g⟩
def svF (s:Sv):Prop:=∃a0 n0 c0 a1 n1 c1 a2 n2 c2 a3 n3 c3 a5 n5 c5 a7 n7 c7 a10 n10 c10,s.v.vs= .slice a0 n0 c0∧s.v.vm= .slice a1 n1 c1∧s.v.vw= .slice a2 n2 c2∧s.v.vc= .slice a3 n3 c3∧s.v.vt= .slice a5 n5 c5∧s.v.vi= .slice a7 n7 c7∧s.vr= .slice a10 n10 c10
theorem svF_of {B:Nat} {D:Nat→Prop} {w:World} {s:Sv} (h:StL kR D w s) (hw:∃a n c,s.v.vw= .slice a n c) (hi:∃a n c,s.v.vi= .slice a n c):svF s:=by
 obtain ⟨a0,c0,e0⟩:=rd_slice h.stack.now
 obtain ⟨a1,c1,e1⟩:=rd_slice h.mem.now
 obtain ⟨a3,c3,e3⟩:=rd_slice h.codes.now
 obtain ⟨a5,c5,e5⟩:=slr_slice h.tree.now
 obtain ⟨a10,c10,e10⟩:=rd_slice h.ret.now
 obtain ⟨a2,n2,c2,e2⟩:=hw
 obtain ⟨a7,n7,c7,e7⟩:=hi
 exact ⟨a0,_,c0,a1,_,c1,a2,n2,c2,a3,_,c3,a5,_,c5,a7,n7,c7,a10,_,c10,e0,e1,e2,e3,e5,e7,e10⟩
theorem RunP.fS {B:Nat} {D:Nat→Prop} {w:World} {q:Nat} {s b:Sv} {vf:Value} {fs:List Fm} {nxt fuel thr:Int} (h:RunP B D w q s b vf fs nxt fuel thr):svF s:=by
 obtain ⟨a2,c2,e2⟩:=slr_slice h.wd.read
 obtain ⟨a7,c7,e7⟩:=slr_slice h.ins.read
 exact svF_of (B:=B) h.hs ⟨_,_,_,e2⟩ ⟨_,_,_,e7⟩
theorem RunL.fB {B:Nat} {D:Nat→Prop} {w:World} {q:Nat} {s b:Sv} {vf:Value} {fs:List Fm} {nxt fuel thr:Int} (h:RunL B D w q s b vf fs nxt fuel thr):svF b:=by
 obtain ⟨a2,c2,e2⟩:=slr_slice h.wd.read
 obtain ⟨a7,c7,e7⟩:=slr_slice h.ins.read
 exact svF_of (B:=B) h.hb ⟨_,_,_,h.bw.trans e2⟩ ⟨_,_,_,h.bi.trans e7⟩
def AtR (q:Nat) (V3:Value) (a:Act):Prop:=∃u1 u4 u5 u6 u7 u8 u9 u10 u11 u12 u13 u14 u15 u16 u17 u18 u19 u20 u21 u22 u23 u24 u25 u26 u27 u28 u29 u30 u31 u32 u33 u34 u35 u36 u37 u38 u39 u40 u41 u42 u43 u44 u45 u46 u47 u48 u49 u50 u51 u52 u53 u54:Value,a={tmps:=#[.pointer (some ⟨q,0,none⟩),u1, .int .i64 0,V3,u4,u5,u6,u7,u8,u9,u10,u11,u12,u13,u14,u15,u16,u17,u18,u19,u20,u21,u22,u23,u24,u25,u26,u27,u28,u29,u30,u31,u32,u33,u34,u35,u36,u37,u38,u39,u40,u41,u42,u43,u44,u45,u46,u47,u48,u49,u50,u51,u52,u53,u54],defers:=[]}
def J0 (B:Nat) (D:Nat→Prop) (q:Nat) (wA:World) (X:Rs×Nat×Int) (n:Nat) (a:Act) (w:World):Prop:=
 ∃V3,AtR q V3 a∧∃s b vf fs xt,∃k:Nat,∃thr,RunP B D w q s b vf fs xt k thr∧WdP X xt s.m s.ret fs thr k∧Below B wA w∧4*k+2*fs.length+1=n
def J1 (B:Nat) (D:Nat→Prop) (q:Nat) (wA:World) (X:Rs×Nat×Int) (n:Nat) (a:Act) (w:World):Prop:=
 ∃e,AtR q (.int .i64 e) a∧∃s b vf fs,∃k:Nat,∃thr,RunL B D w q s b vf fs (-1) k thr∧s.m.words=b.m.words∧s.m.insts=b.m.insts∧FlP X e b.m b.ret fs thr k∧Below B wA w∧4*k+2*fs.length=n
def J2 (B:Nat) (D:Nat→Prop) (q:Nat) (wA:World) (X:Rs×Nat×Int) (n:Nat) (a:Act) (w:World):Prop:=
 ∃V3,AtR q V3 a∧∃s b vf fs,∃k:Nat,∃thr,RunL B D w q s b vf fs (-1) k thr∧OpP X s.m s.ret fs thr k∧Below B wA w∧4*k+2*fs.length+1=n
def JR (B:Nat) (D:Nat→Prop) (q:Nat) (wA:World) (X:Rs×Nat×Int):Nat→Nat→Act→World→Prop
 |0=>J0 B D q wA X
 |1=>J1 B D q wA X
 |2=>J2 B D q wA X
 |_=>fun _ _ _=>False
def PassAt (P:Program) (c:Code) (J:Nat→Nat→Act→World→Prop) (Q:Exit→Act→World→Prop) (l:Nat):Prop:=
 ∀n a w,J l n a w→∃rest,findLabel c l=some (.seq .skip rest)∧rest.wp P (jumpTo (fun l' a' w'=>∃m,m < n∧J l' m a' w') Q) a w
theorem wp_scope3 {P:Program} {a:Act} {w:World} {Q:Exit→Act→World→Prop} {c:Code} (J:Nat→Nat→Act→World→Prop) (only:∀l n a w,J l n a w→l=0∨l=1∨l=2)
  (h2:PassAt P c J Q 2) (h1:PassAt P c J Q 1) (h0:PassAt P c J Q 2→PassAt P c J Q 0) (first:PassAt P c J Q 0→c.wp P (jumpTo (fun l a w=>∃n,J l n a w) Q) a w):(Code.scope c).wp P Q a w:=by
 refine wp_scope_many J (first (h0 h2)) ?_
 intro l n a w hJ
 have key:∀l,PassAt P c J Q l→J l n a w→∃rest,findLabel c l=some rest∧rest.wp P (jumpTo (fun l' a' w'=>∃m,m < n∧J l' m a' w') Q) a w:=by
  intro l hp hJ
  obtain ⟨r,hr,hw⟩:=hp n a w hJ
  exact ⟨_,hr,wp_seq (wp_skip hw)⟩
 rcases only l n a w hJ with rfl|rfl|rfl
 ·exact key 0 (h0 h2) hJ
 ·exact key 1 h1 hJ
 ·exact key 2 h2 hJ
theorem wp_of_pass {P:Program} {c rest:Code} {J:Nat→Nat→Act→World→Prop} {Q:Exit→Act→World→Prop} {l n:Nat} (m:Nat) {a:Act} {w:World} (hp:PassAt P c J Q l) (hf:findLabel c l=some (.seq .skip rest)) (hm:m≤n) (hJ:J l m a w):rest.wp P (jumpTo (fun l' a' w'=>∃m',m' < n∧J l' m' a' w') Q) a w:=by
 obtain ⟨r,hr,hw⟩:=hp m a w hJ
 rw[hf] at hr
 injection hr with hr
 injection hr with _ hr
 subst hr
 refine wp_mono hw ?_
 intro e a' w' hq
 cases e with
 |goto l'=>
  obtain ⟨m',h1,h2⟩:=hq
  exact ⟨m',by omega,h2⟩
 |normal=>exact hq
 |exit id=>exact hq
 |ret=>exact hq
 |panic ch=>exact hq
 |outgrown=>exact hq
theorem wp_of_first {P:Program} {c rest:Code} {J:Nat→Nat→Act→World→Prop} {Q:Exit→Act→World→Prop} {l:Nat} (m:Nat) {a:Act} {w:World} (hp:PassAt P c J Q l) (hf:findLabel c l=some (.seq .skip rest)) (hJ:J l m a w):rest.wp P (jumpTo (fun l' a' w'=>∃m',J l' m' a' w') Q) a w:=by
 refine wp_mono (wp_of_pass m hp hf (Nat.le_refl m) hJ) ?_
 intro e a' w' hq
 cases e with
 |goto l'=>
  obtain ⟨m',h1,h2⟩:=hq
  exact ⟨m',h2⟩
 |normal=>exact hq
 |exit id=>exact hq
 |ret=>exact hq
 |panic ch=>exact hq
 |outgrown=>exact hq
theorem jr_only {B:Nat} {D:Nat→Prop} {q:Nat} {wA:World} {X:Rs×Nat×Int}:∀l n a w,JR B D q wA X l n a w→l=0∨l=1∨l=2
 |0,_,_,_,_=>Or.inl rfl
 |1,_,_,_,_=>Or.inr (Or.inl rfl)
 |2,_,_,_,_=>Or.inr (Or.inr rfl)
 |(_+3),_,_,_,h=>h.elim
def FinP (B:Nat) (D:Nat→Prop) (q:Nat) (wA:World) (X:Rs×Nat×Int):Ending→World→Prop:=fun e w'=>
 Below B wA w'∧e= .returned (.int .i64 X.2.2)∧∃s b vf fs nxt fuel thr,RunL B D w' q s b vf fs nxt fuel thr∧(X.2.2=0→s.m=X.1.m∧fuel=X.2.1)∧(X.2.2=28→thr=X.1.n)
set_option maxHeartbeats 4000000 in
theorem w_run {B:Nat} {D:Nat→Prop} {w:World} {q:Nat} {s b:Sv} {vf:Value} {fs:List Fm} {xt:Int} {k:Nat} {thr:Int} {X:Rs×Nat×Int} (h:RunP B D w q s b vf fs xt (k:Int) thr) (p:WdP X xt s.m s.ret fs thr k):
  Calls Tryz.prog 41 #[.pointer (some ⟨q,0,none⟩)] w (FinP B D q w X):=by
 have HP:=hid (And.intro h p)
 clear h p
 go_enter Tryz.func41,Tryz.ntmps41
 go_wp2_with fail
 refine wp_scope3 (JR B D q w X) jr_only ?_ ?_ ?_ ?_
 ·
  intro n a w1 hJ
  obtain ⟨V3,⟨u1,u4,u5,u6,u7,u8,u9,u10,u11,u12,u13,u14,u15,u16,u17,u18,u19,u20,u21,u22,u23,u24,u25,u26,u27,u28,u29,u30,u31,u32,u33,u34,u35,u36,u37,u38,u39,u40,u41,u42,u43,u44,u45,u46,u47,u48,u49,u50,u51,u52,u53,u54,rfl⟩,s1,b1,vf1,fs1,k1,thr1,h1,p1,hb1,hn1⟩:=hJ
  refine ⟨_,rfl, ?_⟩
  obtain ⟨KK,hKK⟩:∃KK,KK=(fun l' a' w'=>∃m,m < n∧JR B D q w X l' m a' w'):=⟨_,rfl⟩
  rw[←hKK]
  have HK:=hid hKK
  clear hKK HP
  cases fs1 with
  |nil=>
   have f22:=h1.c22
   obtain ⟨a,c,e0⟩:=own_form h1.fr
   rw[e0] at f22
   have hlen:=len_fm a 0 c
   have cl:=w_level h1 (by simp) p1.inv.ok.ran.retL
   obtain ⟨Y,hY⟩:∃Y:Int,(if (s1.ret.length:Int)=bsF [] then 0 else 12)=Y:=⟨_,rfl⟩
   rw[hY] at cl
   have HY:=hid (And.intro hY (And.intro h1 (And.intro p1 hb1)))
   clear hY h1 p1 hb1 e0 hn1
   go_wp2_with (go_at_call 61;refine cl.mono ?_;rintro e w2 ⟨rfl,b2⟩)
   simp only[jumpTo]
   go_ret
   obtain ⟨hY,h1,p1,hb1⟩:=HY.out
   have lx:=last_step p1
   subst lx
   have h2:=h1.below b2
   have eY:(if (s1.ret.length:Int)=0 then (0:Int) else 12)=Y:=hY
   refine ⟨Below.trans hb1 (h1.low (gb_of b2)),by rw[eY];rfl,s1,b1,vf1,[], -1,k1,thr1,h2,fun z=>⟨rfl,rfl⟩,fun z=>rfl⟩
  |cons f r=>
   obtain ⟨g,cap,hv, -, -, -⟩:=h1.top
   obtain ⟨LN,hLN⟩:∃n:Int,((r.length+1:Nat):Int)=n:=⟨_,rfl⟩
   have hlen:∀ty w',(Builtin.len_ #[65] ty #[vf1]).run Tryz.prog w'= .ok (.int .i64 LN) w':=fun ty w'=>by
    rw[hv,←hLN]
    simp[Builtin.len_,run_underlying uFr,goInt]
   have hLN0:0 < LN:=by omega
   have f22:=h1.c22
   obtain ⟨a0,n0,c0,a1,n1,c1,a2,n2,c2,a3,n3,c3,a5,n5,c5,a7,n7,c7,a10,n10,c10,e0,e1,e2,e3,e5,e7,e10⟩:=h1.toP.fS
   have f0:w1.cell? ⟨q,0,none⟩=some s1.v.vs:=h1.st.cell 0 _ rfl
   have f1:w1.cell? ⟨q,1,none⟩=some s1.v.vm:=h1.st.cell 1 _ rfl
   have f2:w1.cell? ⟨q,2,none⟩=some s1.v.vw:=h1.st.cell 2 _ rfl
   have f3:w1.cell? ⟨q,3,none⟩=some s1.v.vc:=h1.st.cell 3 _ rfl
   have f4:w1.cell? ⟨q,4,none⟩=some (.int .u32 s1.m.base):=h1.st.cell 4 _ rfl
   have f5:w1.cell? ⟨q,5,none⟩=some s1.v.vt:=h1.st.cell 5 _ rfl
   have f6:w1.cell? ⟨q,6,none⟩=some (.int .i64 s1.m.node):=h1.st.cell 6 _ rfl
   have f7:w1.cell? ⟨q,7,none⟩=some s1.v.vi:=h1.st.cell 7 _ rfl
   have f8:w1.cell? ⟨q,8,none⟩=some (.int .i64 s1.m.self):=h1.st.cell 8 _ rfl
   have f9:w1.cell? ⟨q,9,none⟩=some (.string s1.o):=h1.st.cell 9 _ rfl
   have f10:w1.cell? ⟨q,10,none⟩=some s1.vr:=h1.st.cell 10 _ rfl
   have g11:w1.cell? ⟨q,11,none⟩=some b1.v.vs:=h1.st.cell 11 _ rfl
   have g12:w1.cell? ⟨q,12,none⟩=some b1.v.vm:=h1.st.cell 12 _ rfl
   have g13:w1.cell? ⟨q,13,none⟩=some b1.v.vw:=h1.st.cell 13 _ rfl
   have g14:w1.cell? ⟨q,14,none⟩=some b1.v.vc:=h1.st.cell 14 _ rfl
   have g15:w1.cell? ⟨q,15,none⟩=some (.int .u32 b1.m.base):=h1.st.cell 15 _ rfl
   have g16:w1.cell? ⟨q,16,none⟩=some b1.v.vt:=h1.st.cell 16 _ rfl
   have g17:w1.cell? ⟨q,17,none⟩=some (.int .i64 b1.m.node):=h1.st.cell 17 _ rfl
   have g18:w1.cell? ⟨q,18,none⟩=some b1.v.vi:=h1.st.cell 18 _ rfl
   have g19:w1.cell? ⟨q,19,none⟩=some (.int .i64 b1.m.self):=h1.st.cell 19 _ rfl
   have g20:w1.cell? ⟨q,20,none⟩=some (.string b1.o):=h1.st.cell 20 _ rfl
   have g21:w1.cell? ⟨q,21,none⟩=some b1.vr:=h1.st.cell 21 _ rfl
   have z11:=h1.st.free 11
   have z12:=h1.st.free 12
   have z13:=h1.st.free 13
   have z14:=h1.st.free 14
   have z15:=h1.st.free 15
   have z16:=h1.st.free 16
   have z17:=h1.st.free 17
   have z18:=h1.st.free 18
   have z19:=h1.st.free 19
   have z20:=h1.st.free 20
   have z21:=h1.st.free 21
   have SV:=h1.toP.keep
   rw[e0] at f0
   rw[e1] at f1
   rw[e2] at f2
   rw[e3] at f3
   rw[e5] at f5
   rw[e7] at f7
   rw[e10] at f10
   simp only[e0,e1,e2,e3,e5,e7,e10] at SV
   have SV:=hid SV
   have EV:=hid (And.intro e0 (And.intro e1 (And.intro e2 (And.intro e3 (And.intro e5 (And.intro e7 e10))))))
   clear e0 e1 e2 e3 e5 e7 e10
   have HR:=hid (And.intro h1 (And.intro p1 (And.intro hb1 hn1)))
   clear hv hLN hb1 hn1 h1 p1
   go_upto_region 9 with fail
   clear f0 g11 z11 f1 g12 z12 f2 g13 z13 f3 g14 z14 f4 g15 z15 f5 g16 z16 f6 g17 z17 f7 g18 z18 f8 g19 z19 f9 g20 z20 f10 g21 z21 f22 hlen
   generalize (((((((((((w1.setCell ⟨q,11,none⟩ (.slice a0 n0 c0)).setCell ⟨q,12,none⟩ (.slice a1 n1 c1)).setCell ⟨q,13,none⟩ (.slice a2 n2 c2)).setCell ⟨q,14,none⟩ (.slice a3 n3 c3)).setCell ⟨q,15,none⟩ (.int .u32 s1.m.base)).setCell ⟨q,16,none⟩ (.slice a5 n5 c5)).setCell ⟨q,17,none⟩ (.int .i64 s1.m.node)).setCell ⟨q,18,none⟩ (.slice a7 n7 c7)).setCell ⟨q,19,none⟩ (.int .i64 s1.m.self)).setCell ⟨q,20,none⟩ (.string s1.o)).setCell ⟨q,21,none⟩ (.slice a10 n10 c10))=w2 at SV ⊢
   have cp:=w_proS SV.out.1 HR.out.2.1 (Below.trans HR.out.2.2.1 SV.out.2)
   go_upto_region 10 with (go_at_call 62;refine cp.mono ?_;rintro e w3 ⟨E,rfl,st⟩;have ST:=hid st;clear st)
   obtain ⟨b3,hc⟩:=ST.out
   clear ST
   rcases hc with ⟨rfl,s3,b4,vf3,fs3,nxt3,k3,thr3,h3,hlt,⟨rfl,op⟩|⟨hne,wp⟩⟩|⟨hE,s3,b4,vf3,fs3,k3,thr3,h3,e1,e2,fl,hlt⟩
   ·have f24:=h3.c24
    have H3:=hid (And.intro h3 (And.intro hlt (And.intro op b3)))
    clear h3 hlt op b3
    go_wp2_with fail
    have hn1:=HR.out.2.2.2
    simp only[List.length_cons] at hn1
    refine wp_goto ?_
    show KK 2 _ _
    rw[HK.out]
    obtain ⟨h3,hlt,op,b3⟩:=H3.out
    exact ⟨4*k3+2*fs3.length+1,by omega,_,⟨_,_,_,_,_,_,_,_,_,_,_,_,_,_,_,_,_,_,_,_,_,_,_,_,_,_,_,_,_,_,_,_,_,_,_,_,_,_,_,_,_,_,_,_,_,_,_,_,_,_,_,_,rfl⟩,s3,b4,vf3,fs3,k3,thr3,h3,op,b3,rfl⟩
   ·have f24:=h3.c24
    have H3:=hid (And.intro h3 (And.intro hlt (And.intro wp b3)))
    clear h3 hlt wp b3
    go_wp2_with fail
    have hn1:=HR.out.2.2.2
    simp only[List.length_cons] at hn1
    refine wp_goto ?_
    show KK 0 _ _
    rw[HK.out]
    obtain ⟨h3,hlt,wp,b3⟩:=H3.out
    exact ⟨4*k3+2*fs3.length+1,by omega,_,⟨_,_,_,_,_,_,_,_,_,_,_,_,_,_,_,_,_,_,_,_,_,_,_,_,_,_,_,_,_,_,_,_,_,_,_,_,_,_,_,_,_,_,_,_,_,_,_,_,_,_,_,_,rfl⟩,s3,b4,vf3,fs3,nxt3,k3,thr3,h3.toP,wp,b3,rfl⟩
   ·have H3:=hid (And.intro h3 (And.intro hlt (And.intro e1 (And.intro e2 (And.intro fl b3)))))
    clear h3 hlt e1 e2 fl b3
    go_wp2_with fail
    have hn1:=HR.out.2.2.2
    simp only[List.length_cons] at hn1
    refine wp_goto ?_
    show KK 1 _ _
    rw[HK.out]
    obtain ⟨h3,hlt,e1,e2,fl,b3⟩:=H3.out
    exact ⟨4*k3+2*fs3.length,by omega,E,⟨_,_,_,_,_,_,_,_,_,_,_,_,_,_,_,_,_,_,_,_,_,_,_,_,_,_,_,_,_,_,_,_,_,_,_,_,_,_,_,_,_,_,_,_,_,_,_,_,_,_,_,_,rfl⟩,s3,b4,vf3,fs3,k3,thr3,h3,e1,e2,fl,b3,rfl⟩
 ·
  intro n a w1 hJ
  obtain ⟨e,⟨u1,u4,u5,u6,u7,u8,u9,u10,u11,u12,u13,u14,u15,u16,u17,u18,u19,u20,u21,u22,u23,u24,u25,u26,u27,u28,u29,u30,u31,u32,u33,u34,u35,u36,u37,u38,u39,u40,u41,u42,u43,u44,u45,u46,u47,u48,u49,u50,u51,u52,u53,u54,rfl⟩,s1,b1,vf1,fs1,k1,thr1,h1,ew,ei,p1,hb1,hn1⟩:=hJ
  refine ⟨_,rfl, ?_⟩
  obtain ⟨KK,hKK⟩:∃KK,KK=(fun l' a' w'=>∃m,m < n∧JR B D q w X l' m a' w'):=⟨_,rfl⟩
  rw[←hKK]
  have HK:=hid hKK
  clear hKK HP
  obtain ⟨a0,n0,c0,a1,n1,c1,a2,n2,c2,a3,n3,c3,a5,n5,c5,a7,n7,c7,a10,n10,c10,e0,e1,e2,e3,e5,e7,e10⟩:=h1.fB
  have f11:=h1.c11
  have f12:=h1.c12
  have f13:=h1.c13
  have f14:=h1.c14
  have f15:=h1.c15
  have f16:=h1.c16
  have f17:=h1.c17
  have f18:=h1.c18
  have f19:=h1.c19
  have f20:=h1.c20
  have f21:=h1.c21
  have g0:=h1.c0
  have g1:=h1.c1
  have g2:=h1.c2
  have g3:=h1.c3
  have g4:=h1.c4
  have g5:=h1.c5
  have g6:=h1.c6
  have g7:=h1.c7
  have g8:=h1.c8
  have g9:=h1.c9
  have g10:=h1.c10
  have z0:=h1.st.free 0
  have z1:=h1.st.free 1
  have z2:=h1.st.free 2
  have z3:=h1.st.free 3
  have z4:=h1.st.free 4
  have z5:=h1.st.free 5
  have z6:=h1.st.free 6
  have z7:=h1.st.free 7
  have z8:=h1.st.free 8
  have z9:=h1.st.free 9
  have z10:=h1.st.free 10
  have SV:=h1.back ew ei
  rw[e0] at f11
  rw[e1] at f12
  rw[e2] at f13
  rw[e3] at f14
  rw[e5] at f16
  rw[e7] at f18
  rw[e10] at f21
  simp only[e0,e1,e2,e3,e5,e7,e10] at SV
  have SV:=hid SV
  clear e0 e1 e2 e3 e5 e7 e10
  have HR:=hid (And.intro h1 (And.intro p1 (And.intro hb1 hn1)))
  clear hb1 hn1 h1 p1 ew ei
  go_upto_region 13 with fail
  clear f11 g0 z0 f12 g1 z1 f13 g2 z2 f14 g3 z3 f15 g4 z4 f16 g5 z5 f17 g6 z6 f18 g7 z7 f19 g8 z8 f20 g9 z9 f21 g10 z10
  generalize (((((((((((w1.setCell ⟨q,0,none⟩ (.slice a0 n0 c0)).setCell ⟨q,1,none⟩ (.slice a1 n1 c1)).setCell ⟨q,2,none⟩ (.slice a2 n2 c2)).setCell ⟨q,3,none⟩ (.slice a3 n3 c3)).setCell ⟨q,4,none⟩ (.int .u32 b1.m.base)).setCell ⟨q,5,none⟩ (.slice a5 n5 c5)).setCell ⟨q,6,none⟩ (.int .i64 b1.m.node)).setCell ⟨q,7,none⟩ (.slice a7 n7 c7)).setCell ⟨q,8,none⟩ (.int .i64 b1.m.self)).setCell ⟨q,9,none⟩ (.string b1.o)).setCell ⟨q,10,none⟩ (.slice a10 n10 c10))=w2 at SV ⊢
  by_cases he:e=11
  ·subst he
   have cc:=w_caught0 q w2
   go_wp2_with (go_at_call 63;refine cc.mono ?_;rintro e3 w3 ⟨rfl,rfl⟩)
   simp only[jumpTo]
   go_ret
   obtain ⟨h1,p1,hb1,hn1⟩:=HR.out
   have eX:=fail_fuel p1
   exact ⟨Below.trans hb1 SV.out.2,by rw[eX];rfl,b1,b1,vf1,fs1, -1,k1,thr1,SV.out.1,fun z=>by omega,fun z=>by omega⟩
  ·obtain ⟨x,hx⟩:∃x,catO e thr1 fs1 b1.m b1.ret=x:=⟨_,rfl⟩
   have cc:=w_caught SV.out.1 HR.out.2.1.inv (by have:=HR.out.2.1.len;omega) HR.out.2.1.dp e HR.out.2.1.er he
   rw[hx] at cc
   have fl:=fail_step HR.out.2.1 he hx
   have HE:=hid he
   cases x with
   |none=>
    have HF:Hid (X.2.2=e∧X.1.n=thr1):=hid fl
    clear fl hx he
    go_wp2_with (go_at_call 63;refine cc.mono ?_;rintro e3 w3 ⟨b3,rfl,s3,vf3,h3⟩;have H3:=hid (And.intro b3 h3);clear b3 h3)
    simp only[jumpTo]
    go_ret
    obtain ⟨h1,p1,hb1,hn1⟩:=HR.out
    have eX:=HF.out
    exact ⟨Below.trans hb1 (Below.trans SV.out.2 H3.out.1),by rw[eX.1];rfl,s3,b1,vf3,[], -1,k1,thr1,H3.out.2,fun z=>absurd (eX.1.symm.trans z) p1.ne,fun z=>eX.2.symm⟩
   |some y=>
    obtain ⟨m',ret',r'⟩:=y
    have HF:Hid (OpP X m' ret' r' thr1 k1∧r'.length < fs1.length∧m'.words=b1.m.words∧m'.insts=b1.m.insts):=hid fl
    clear fl hx he
    go_wp2_with (go_at_call 63;refine cc.mono ?_;rintro e3 w3 ⟨b3,rfl,s3,vf3,h3,q1,q2⟩;have H3:=hid (And.intro b3 (And.intro h3 (And.intro q1 q2)));clear b3 h3 q1 q2)
    refine wp_goto ?_
    show KK 2 _ _
    rw[HK.out]
    obtain ⟨h1,p1,hb1,hn1⟩:=HR.out
    obtain ⟨b3,h3,q1,q2⟩:=H3.out
    obtain ⟨op,lt, -, -⟩:=HF.out
    rw[←q1,←q2] at op
    exact ⟨4*k1+2*r'.length+1,by omega,_,⟨_,_,_,_,_,_,_,_,_,_,_,_,_,_,_,_,_,_,_,_,_,_,_,_,_,_,_,_,_,_,_,_,_,_,_,_,_,_,_,_,_,_,_,_,_,_,_,_,_,_,_,_,rfl⟩,s3,b1,vf3,r',k1,thr1,h3,op,Below.trans hb1 (Below.trans SV.out.2 b3),rfl⟩
 ·
  intro hopen n a w1 hJ
  obtain ⟨V3,⟨u1,u4,u5,u6,u7,u8,u9,u10,u11,u12,u13,u14,u15,u16,u17,u18,u19,u20,u21,u22,u23,u24,u25,u26,u27,u28,u29,u30,u31,u32,u33,u34,u35,u36,u37,u38,u39,u40,u41,u42,u43,u44,u45,u46,u47,u48,u49,u50,u51,u52,u53,u54,rfl⟩,s1,b1,vf1,fs1,xt1,k1,thr1,h1,p1,hb1,hn1⟩:=hJ
  refine ⟨_,rfl, ?_⟩
  obtain ⟨KK,hKK⟩:∃KK,KK=(fun l' a' w'=>∃m,m < n∧JR B D q w X l' m a' w'):=⟨_,rfl⟩
  rw[←hKK]
  have HK:=hid hKK
  have HO:=hid hopen
  clear hKK HP hopen
  obtain ⟨a0,n0,c0,a1,n1,c1,a2,n2,c2,a3,n3,c3,a5,n5,c5,a7,n7,c7,a10,n10,c10,e0,e1,e2,e3,e5,e7,e10⟩:=h1.fS
  have f0:w1.cell? ⟨q,0,none⟩=some s1.v.vs:=h1.st.cell 0 _ rfl
  have f1:w1.cell? ⟨q,1,none⟩=some s1.v.vm:=h1.st.cell 1 _ rfl
  have f2:w1.cell? ⟨q,2,none⟩=some s1.v.vw:=h1.st.cell 2 _ rfl
  have f3:w1.cell? ⟨q,3,none⟩=some s1.v.vc:=h1.st.cell 3 _ rfl
  have f4:w1.cell? ⟨q,4,none⟩=some (.int .u32 s1.m.base):=h1.st.cell 4 _ rfl
  have f5:w1.cell? ⟨q,5,none⟩=some s1.v.vt:=h1.st.cell 5 _ rfl
  have f6:w1.cell? ⟨q,6,none⟩=some (.int .i64 s1.m.node):=h1.st.cell 6 _ rfl
  have f7:w1.cell? ⟨q,7,none⟩=some s1.v.vi:=h1.st.cell 7 _ rfl
  have f8:w1.cell? ⟨q,8,none⟩=some (.int .i64 s1.m.self):=h1.st.cell 8 _ rfl
  have f9:w1.cell? ⟨q,9,none⟩=some (.string s1.o):=h1.st.cell 9 _ rfl
  have f10:w1.cell? ⟨q,10,none⟩=some s1.vr:=h1.st.cell 10 _ rfl
  have g11:w1.cell? ⟨q,11,none⟩=some b1.v.vs:=h1.st.cell 11 _ rfl
  have g12:w1.cell? ⟨q,12,none⟩=some b1.v.vm:=h1.st.cell 12 _ rfl
  have g13:w1.cell? ⟨q,13,none⟩=some b1.v.vw:=h1.st.cell 13 _ rfl
  have g14:w1.cell? ⟨q,14,none⟩=some b1.v.vc:=h1.st.cell 14 _ rfl
  have g15:w1.cell? ⟨q,15,none⟩=some (.int .u32 b1.m.base):=h1.st.cell 15 _ rfl
  have g16:w1.cell? ⟨q,16,none⟩=some b1.v.vt:=h1.st.cell 16 _ rfl
  have g17:w1.cell? ⟨q,17,none⟩=some (.int .i64 b1.m.node):=h1.st.cell 17 _ rfl
  have g18:w1.cell? ⟨q,18,none⟩=some b1.v.vi:=h1.st.cell 18 _ rfl
  have g19:w1.cell? ⟨q,19,none⟩=some (.int .i64 b1.m.self):=h1.st.cell 19 _ rfl
  have g20:w1.cell? ⟨q,20,none⟩=some (.string b1.o):=h1.st.cell 20 _ rfl
  have g21:w1.cell? ⟨q,21,none⟩=some b1.vr:=h1.st.cell 21 _ rfl
  have z11:=h1.st.free 11
  have z12:=h1.st.free 12
  have z13:=h1.st.free 13
  have z14:=h1.st.free 14
  have z15:=h1.st.free 15
  have z16:=h1.st.free 16
  have z17:=h1.st.free 17
  have z18:=h1.st.free 18
  have z19:=h1.st.free 19
  have z20:=h1.st.free 20
  have z21:=h1.st.free 21
  have SV:=h1.keep
  rw[e0] at f0
  rw[e1] at f1
  rw[e2] at f2
  rw[e3] at f3
  rw[e5] at f5
  rw[e7] at f7
  rw[e10] at f10
  simp only[e0,e1,e2,e3,e5,e7,e10] at SV
  have SV:=hid SV
  have EV:=hid (And.intro e0 (And.intro e1 (And.intro e2 (And.intro e3 (And.intro e5 (And.intro e7 e10))))))
  clear e0 e1 e2 e3 e5 e7 e10
  have HR:=hid (And.intro h1 (And.intro p1 (And.intro hb1 hn1)))
  clear hb1 hn1 h1 p1
  go_upto_region 3 with fail
  clear f0 g11 z11 f1 g12 z12 f2 g13 z13 f3 g14 z14 f4 g15 z15 f5 g16 z16 f6 g17 z17 f7 g18 z18 f8 g19 z19 f9 g20 z20 f10 g21 z21
  generalize (((((((((((w1.setCell ⟨q,11,none⟩ (.slice a0 n0 c0)).setCell ⟨q,12,none⟩ (.slice a1 n1 c1)).setCell ⟨q,13,none⟩ (.slice a2 n2 c2)).setCell ⟨q,14,none⟩ (.slice a3 n3 c3)).setCell ⟨q,15,none⟩ (.int .u32 s1.m.base)).setCell ⟨q,16,none⟩ (.slice a5 n5 c5)).setCell ⟨q,17,none⟩ (.int .i64 s1.m.node)).setCell ⟨q,18,none⟩ (.slice a7 n7 c7)).setCell ⟨q,19,none⟩ (.int .i64 s1.m.self)).setCell ⟨q,20,none⟩ (.string s1.o)).setCell ⟨q,21,none⟩ (.slice a10 n10 c10))=w2 at SV ⊢
  have cp:=w_begS SV.out.1 HR.out.2.1 (Below.trans HR.out.2.2.1 SV.out.2)
  go_upto_region 4 with (go_at_call 60;refine cp.mono ?_;rintro e w3 ⟨E,rfl,st⟩;have ST:=hid st;clear st)
  obtain ⟨b3,hc⟩:=ST.out
  clear ST
  rcases hc with ⟨rfl,s3,b4,vf3,fs3,nxt3,k3,thr3,h3,hlt,⟨rfl,op⟩|⟨hne,wp⟩⟩|⟨hE,s3,b4,vf3,fs3,k3,thr3,h3,e1,e2,fl,hlt⟩
  ·have f24:=h3.c24
   have H3:=hid (And.intro h3 (And.intro hlt (And.intro op b3)))
   clear h3 hlt op b3
   go_wp2_with fail
   rename_i hK
   refine wp_label ?_
   refine hK _ _ ?_
   rw[HK.out]
   obtain ⟨h3,hlt,op,b3⟩:=H3.out
   have hn1:=HR.out.2.2.2
   exact wp_of_pass (4*k3+2*fs3.length+1) HO.out rfl (by omega) ⟨_,⟨_,_,_,_,_,_,_,_,_,_,_,_,_,_,_,_,_,_,_,_,_,_,_,_,_,_,_,_,_,_,_,_,_,_,_,_,_,_,_,_,_,_,_,_,_,_,_,_,_,_,_,_,rfl⟩,s3,b4,vf3,fs3,k3,thr3,h3,op,b3,rfl⟩
  ·have f24:=h3.c24
   have H3:=hid (And.intro h3 (And.intro hlt (And.intro wp b3)))
   clear h3 hlt wp b3
   go_wp2_with fail
   have hn1:=HR.out.2.2.2
   refine wp_goto ?_
   show KK 0 _ _
   rw[HK.out]
   obtain ⟨h3,hlt,wp,b3⟩:=H3.out
   exact ⟨4*k3+2*fs3.length+1,by omega,_,⟨_,_,_,_,_,_,_,_,_,_,_,_,_,_,_,_,_,_,_,_,_,_,_,_,_,_,_,_,_,_,_,_,_,_,_,_,_,_,_,_,_,_,_,_,_,_,_,_,_,_,_,_,rfl⟩,s3,b4,vf3,fs3,nxt3,k3,thr3,h3.toP,wp,b3,rfl⟩
  ·have H3:=hid (And.intro h3 (And.intro hlt (And.intro e1 (And.intro e2 (And.intro fl b3)))))
   clear h3 hlt e1 e2 fl b3
   go_wp2_with fail
   have hn1:=HR.out.2.2.2
   refine wp_goto ?_
   show KK 1 _ _
   rw[HK.out]
   obtain ⟨h3,hlt,e1,e2,fl,b3⟩:=H3.out
   exact ⟨4*k3+2*fs3.length,by omega,E,⟨_,_,_,_,_,_,_,_,_,_,_,_,_,_,_,_,_,_,_,_,_,_,_,_,_,_,_,_,_,_,_,_,_,_,_,_,_,_,_,_,_,_,_,_,_,_,_,_,_,_,_,_,rfl⟩,s3,b4,vf3,fs3,k3,thr3,h3,e1,e2,fl,b3,rfl⟩
 ·intro hword
  have HO:=hid hword
  clear hword
  go_wp2_with fail
  rename_i hK
  refine wp_label ?_
  refine hK _ _ ?_
  exact wp_of_first (4*k+2*fs.length+1) HO.out rfl ⟨_,⟨_,_,_,_,_,_,_,_,_,_,_,_,_,_,_,_,_,_,_,_,_,_,_,_,_,_,_,_,_,_,_,_,_,_,_,_,_,_,_,_,_,_,_,_,_,_,_,_,_,_,_,_,rfl⟩,s,b,vf,fs,xt,k,thr,HP.out.1,HP.out.2,Below.refl _ _,rfl⟩
theorem emp_is {s:ByteArray} (h:s=⟨#[]⟩):s.toList.isEmpty=true:=by subst h;decide+kernel
set_option maxHeartbeats 4000000 in
set_option maxRecDepth 100000 in
theorem w_pwof (x:Wd) (nm:ByteArray) (vc vt:Value) (words:Int) (t:List Nd) (w:World) (e1:strOfNums x.1=nm) (hc:RdO w vc x.2.2.2.2) (ht:RdT w vt t) (bx:bytesL x.1) (lx:x.1.length≤maxLen) (hu:∀y∈x.2.2.2.2,0≤y.2∧y.2 < 4294967296) (hN:0≤x.2.2.2.1∧x.2.2.2.1 < 4294967296):
  Calls Tryz.prog 106 #[.agg #[.string nm, .int .i64 x.2.1, .int .i64 x.2.2.1, .int .u32 x.2.2.2.1,vc], .int .i64 words,vt] w fun e w'=>e= .returned (.bool (wofF x words t))∧Below w.heap.size w w':=by
 obtain ⟨x1,x2,x3,x4,x5⟩:=x
 simp only at e1 hc bx lx hu hN ⊢
 have hL:L nm=x1:=by rw[←e1];exact LB_nums _ bx
 have hs:nm.size≤maxLen:=by rw[←L_len,hL];exact lx
 have cn:=fun W=>w_p9named' nm W hs
 have cs:=fun W (g:Below w.heap.size w W)=>w_p9sound' vc x5 words W (RdO.below hc g) hu
 have cb:=fun W=>w_pnob x2 t.length W
 have cl:=fun c W=>w_pbelow x4 c W hN.1 hN.2
 rw[hL] at cn
 have hla:=slr_len hc uO (P:=Tryz.prog)
 have hlt:=slr_len ht uN (P:=Tryz.prog)
 have hm:=slr_max ht
 unfold maxLen at hm
 obtain ⟨ca,cq,rfl⟩:=slr_slice hc
 obtain ⟨n5,hn5⟩:∃n,x5.length=n:=⟨_,rfl⟩
 rw[hn5] at hla hc cs ⊢
 have bw:=box_below w (.cells #[.string nm, .int .i64 x2, .int .i64 x3, .int .u32 x4, .slice ca n5 cq] 59)
 have st:=stands_new w #[.string nm, .int .i64 x2, .int .i64 x3, .int .u32 x4, .slice ca n5 cq] 59
 have f0:=st.cell 0 _ rfl
 have f1:=st.cell 1 _ rfl
 have f2:=st.cell 2 _ rfl
 have f3:=st.cell 3 _ rfl
 have f4:=st.cell 4 _ rfl
 have csb:=cs _ bw
 obtain ⟨R,hR⟩:∃R,wofF (x1,x2,x3,x4,x5) words t=R:=⟨_,rfl⟩
 rw[hR]
 unfold wofF at hR
 simp only at hR
 have hname:((decide (x1=[])||namF x1)=true∧(nm.toList.isEmpty=true∨nm.toList.isEmpty=false∧namF x1=true))∨((decide (x1=[])||namF x1)=false∧nm.toList.isEmpty=false∧namF x1=false):=by
  by_cases g:nm=⟨#[]⟩
  ·left
   have:x1=[]:=by rw[←hL,g];decide+kernel
   exact ⟨by simp[this],Or.inl (emp_is g)⟩
  ·have g2:¬x1=[]:=fun q=>g (L_nil (by rw[hL];exact q))
   cases g3:namF x1
   ·right
    exact ⟨by simp[g2],emp_no g,rfl⟩
   ·left
    exact ⟨by simp,Or.inr ⟨emp_no g,rfl⟩⟩
 have HT:=hid ht
 clear hL e1 bx lx hu ht cs st
 rcases hname with ⟨hn,hname⟩|⟨hn,q0,q1⟩
 ·rw[hn,Bool.true_and] at hR
  by_cases hnd: -1≤x2∧x2 < (t.length:Int)
  ·rw[decide_eq_true hnd,Bool.true_and] at hR
   simp only[decide_eq_true hnd] at cb
   by_cases hK2:x3=2
   ·subst hK2
    rw[if_pos rfl,decide_eq_true (by omega:(2:Int)≤2∧(2:Int)≤7),Bool.true_and] at hR
    by_cases h4:x4=0
    ·have q4:(x4==0)=true:=by simpa using h4
     rw[decide_eq_true h4,Bool.true_and] at hR
     subst hR
     clear h4
     rcases hname with q0|⟨q0,q1⟩
     ·skip
      clear hn5 HT
      go_enter Tryz.func106,Tryz.ntmps106
      go_wp2_with (first|(go_at_call 71;refine (cb _).mono ?_;rintro e r2 ⟨rfl,hw2⟩;obtain rfl:=hw2.symm)|(go_at_call 173;refine csb.mono ?_;rintro e r3 ⟨rfl,b3⟩))
      go_ret
      exact ⟨rfl,below_trans bw b3⟩
     ·skip
      simp only[q1] at cn
      clear q1
      clear hn5 HT
      go_enter Tryz.func106,Tryz.ntmps106
      go_wp2_with (first|(go_at_call 172;refine (cn _).mono ?_;rintro e r1 ⟨rfl,hw1⟩;obtain rfl:=hw1.symm)|(go_at_call 71;refine (cb _).mono ?_;rintro e r2 ⟨rfl,hw2⟩;obtain rfl:=hw2.symm)|(go_at_call 173;refine csb.mono ?_;rintro e r3 ⟨rfl,b3⟩))
      go_ret
      exact ⟨rfl,below_trans bw b3⟩
    ·have q4:(x4==0)=false:=by simpa using h4
     rw[decide_eq_false h4,Bool.false_and] at hR
     subst hR
     clear h4
     rcases hname with q0|⟨q0,q1⟩
     ·skip
      clear hn5 HT
      go_enter Tryz.func106,Tryz.ntmps106
      go_wp2_with (first|(go_at_call 71;refine (cb _).mono ?_;rintro e r2 ⟨rfl,hw2⟩;obtain rfl:=hw2.symm))
      go_ret
      exact ⟨rfl,bw⟩
     ·skip
      simp only[q1] at cn
      clear q1
      clear hn5 HT
      go_enter Tryz.func106,Tryz.ntmps106
      go_wp2_with (first|(go_at_call 172;refine (cn _).mono ?_;rintro e r1 ⟨rfl,hw1⟩;obtain rfl:=hw1.symm)|(go_at_call 71;refine (cb _).mono ?_;rintro e r2 ⟨rfl,hw2⟩;obtain rfl:=hw2.symm))
      go_ret
      exact ⟨rfl,bw⟩
   ·rw[if_neg hK2] at hR
    have qK:(x3 !=2)=true:=by simpa using hK2
    have qK2:(x3==2)=false:=by simpa using hK2
    by_cases h5:(0:Int) < n5
    ·have hE:x5≠[]:=by intro g;rw[g] at hn5;simp at hn5;omega
     have hF:R=false:=by rw[←hR,decide_eq_false hE];simp
     subst hF
     clear hE
     rcases hname with q0|⟨q0,q1⟩
     ·skip
      clear hR hn5 HT
      go_enter Tryz.func106,Tryz.ntmps106
      go_wp2_with (first|(go_at_call 71;refine (cb _).mono ?_;rintro e r2 ⟨rfl,hw2⟩;obtain rfl:=hw2.symm))
      go_ret
      exact ⟨rfl,bw⟩
     ·skip
      simp only[q1] at cn
      clear q1
      clear hR hn5 HT
      go_enter Tryz.func106,Tryz.ntmps106
      go_wp2_with (first|(go_at_call 172;refine (cn _).mono ?_;rintro e r1 ⟨rfl,hw1⟩;obtain rfl:=hw1.symm)|(go_at_call 71;refine (cb _).mono ?_;rintro e r2 ⟨rfl,hw2⟩;obtain rfl:=hw2.symm))
      go_ret
      exact ⟨rfl,bw⟩
    ·have hE:x5=[]:=List.eq_nil_of_length_eq_zero (by omega)
     rw[decide_eq_true hE,Bool.and_true] at hR
     have hz5:n5=0:=by omega
     subst hz5
     clear hE h5
     have hcs:x3=3∨x3=4∨x3=5∨x3=6∨x3=7∨(x3 < 2∨7 < x3):=by omega
     rcases hcs with rfl|rfl|rfl|rfl|rfl|hcs
     ·have hF:R=true:=by rw[←hR];simp
      subst hF
      rcases hname with q0|⟨q0,q1⟩
      ·skip
       clear hR hn5 HT hK2
       go_enter Tryz.func106,Tryz.ntmps106
       go_wp2_with (first|(go_at_call 71;refine (cb _).mono ?_;rintro e r2 ⟨rfl,hw2⟩;obtain rfl:=hw2.symm))
       go_ret
       exact ⟨rfl,bw⟩
      ·skip
       simp only[q1] at cn
       clear q1
       clear hR hn5 HT hK2
       go_enter Tryz.func106,Tryz.ntmps106
       go_wp2_with (first|(go_at_call 172;refine (cn _).mono ?_;rintro e r1 ⟨rfl,hw1⟩;obtain rfl:=hw1.symm)|(go_at_call 71;refine (cb _).mono ?_;rintro e r2 ⟨rfl,hw2⟩;obtain rfl:=hw2.symm))
       go_ret
       exact ⟨rfl,bw⟩
     ·have hF:R=true:=by rw[←hR];simp
      subst hF
      rcases hname with q0|⟨q0,q1⟩
      ·skip
       clear hR hn5 HT hK2
       go_enter Tryz.func106,Tryz.ntmps106
       go_wp2_with (first|(go_at_call 71;refine (cb _).mono ?_;rintro e r2 ⟨rfl,hw2⟩;obtain rfl:=hw2.symm))
       go_ret
       exact ⟨rfl,bw⟩
      ·skip
       simp only[q1] at cn
       clear q1
       clear hR hn5 HT hK2
       go_enter Tryz.func106,Tryz.ntmps106
       go_wp2_with (first|(go_at_call 172;refine (cn _).mono ?_;rintro e r1 ⟨rfl,hw1⟩;obtain rfl:=hw1.symm)|(go_at_call 71;refine (cb _).mono ?_;rintro e r2 ⟨rfl,hw2⟩;obtain rfl:=hw2.symm))
       go_ret
       exact ⟨rfl,bw⟩
     ·have hF:R=true:=by rw[←hR];simp
      subst hF
      rcases hname with q0|⟨q0,q1⟩
      ·skip
       clear hR hn5 HT hK2
       go_enter Tryz.func106,Tryz.ntmps106
       go_wp2_with (first|(go_at_call 71;refine (cb _).mono ?_;rintro e r2 ⟨rfl,hw2⟩;obtain rfl:=hw2.symm))
       go_ret
       exact ⟨rfl,bw⟩
      ·skip
       simp only[q1] at cn
       clear q1
       clear hR hn5 HT hK2
       go_enter Tryz.func106,Tryz.ntmps106
       go_wp2_with (first|(go_at_call 172;refine (cn _).mono ?_;rintro e r1 ⟨rfl,hw1⟩;obtain rfl:=hw1.symm)|(go_at_call 71;refine (cb _).mono ?_;rintro e r2 ⟨rfl,hw2⟩;obtain rfl:=hw2.symm))
       go_ret
       exact ⟨rfl,bw⟩
     ·have hF:R=decide (x4 < words):=by rw[←hR];simp
      subst hF
      rcases hname with q0|⟨q0,q1⟩
      ·skip
       clear hR hn5 HT hK2
       go_enter Tryz.func106,Tryz.ntmps106
       go_wp2_with (first|(go_at_call 71;refine (cb _).mono ?_;rintro e r2 ⟨rfl,hw2⟩;obtain rfl:=hw2.symm)|(go_at_call 174;refine (cl _ _).mono ?_;rintro e r4 ⟨rfl,hw4⟩;obtain rfl:=hw4.symm))
       go_ret
       exact ⟨rfl,bw⟩
      ·skip
       simp only[q1] at cn
       clear q1
       clear hR hn5 HT hK2
       go_enter Tryz.func106,Tryz.ntmps106
       go_wp2_with (first|(go_at_call 172;refine (cn _).mono ?_;rintro e r1 ⟨rfl,hw1⟩;obtain rfl:=hw1.symm)|(go_at_call 71;refine (cb _).mono ?_;rintro e r2 ⟨rfl,hw2⟩;obtain rfl:=hw2.symm)|(go_at_call 174;refine (cl _ _).mono ?_;rintro e r4 ⟨rfl,hw4⟩;obtain rfl:=hw4.symm))
       go_ret
       exact ⟨rfl,bw⟩
     ·by_cases h2:x2= -1
      ·have hF:R=false:=by rw[←hR,h2];simp
       subst hF
       have q2:(x2 != -1)=false:=by simp[h2]
       clear h2
       rcases hname with q0|⟨q0,q1⟩
       ·skip
        clear hR hn5 HT hK2 hnd
        go_enter Tryz.func106,Tryz.ntmps106
        go_wp2_with (first|(go_at_call 71;refine (cb _).mono ?_;rintro e r2 ⟨rfl,hw2⟩;obtain rfl:=hw2.symm))
        go_quiet (fail)
        go_wp2_with fail
        go_ret
        exact ⟨rfl,below_drewN bw _⟩
       ·skip
        simp only[q1] at cn
        clear q1
        clear hR hn5 HT hK2 hnd
        go_enter Tryz.func106,Tryz.ntmps106
        go_wp2_with (first|(go_at_call 172;refine (cn _).mono ?_;rintro e r1 ⟨rfl,hw1⟩;obtain rfl:=hw1.symm)|(go_at_call 71;refine (cb _).mono ?_;rintro e r2 ⟨rfl,hw2⟩;obtain rfl:=hw2.symm))
        go_quiet (fail)
        go_wp2_with fail
        go_ret
        exact ⟨rfl,below_drewN bw _⟩
      ·obtain ⟨j,rfl⟩:∃j:Nat,x2=(j:Int):=⟨x2.toNat,by omega⟩
       have hj:j < t.length:=by omega
       have hjt:(j:Int) < (t.length:Int):=by omega
       obtain ⟨bn,on,nn,vu,vp,vc2,rn,fn0,fn1,fn2,fn3,fn4,en,hun,hpn,hcn⟩:=nod_at (RdT.below HT.out bw) j hj
       have hlc:=rd_len hcn uU (P:=Tryz.prog)
       obtain ⟨na,nq,rfl⟩:=rd_slice hcn
       have hF:R=decide (x4 < (t[j].2.2.2.2.length:Int)):=by
        rw[←hR,Int.toNat_natCast,List.getD_eq_getElem?_getD,List.getElem?_eq_getElem hj,Option.getD_some]
        simp
       subst hF
       have q2:((j:Int) != -1)=true:=by rw[bne_iff_ne];omega
       clear h2 en
       rcases hname with q0|⟨q0,q1⟩
       ·skip
        clear hR hn5 HT hK2 hnd hun hpn hcn
        go_enter Tryz.func106,Tryz.ntmps106
        go_wp2_with (first|(go_at_call 71;refine (cb _).mono ?_;rintro e r2 ⟨rfl,hw2⟩;obtain rfl:=hw2.symm))
        go_quiet (first|(go_at_call 174;exact Calls.quiet_of_same (cl _ _)))
        go_wp2_with fail
        go_ret
        exact ⟨rfl,below_drewN bw _⟩
       ·skip
        simp only[q1] at cn
        clear q1
        clear hR hn5 HT hK2 hnd hun hpn hcn
        go_enter Tryz.func106,Tryz.ntmps106
        go_wp2_with (first|(go_at_call 172;refine (cn _).mono ?_;rintro e r1 ⟨rfl,hw1⟩;obtain rfl:=hw1.symm)|(go_at_call 71;refine (cb _).mono ?_;rintro e r2 ⟨rfl,hw2⟩;obtain rfl:=hw2.symm))
        go_quiet (first|(go_at_call 174;exact Calls.quiet_of_same (cl _ _)))
        go_wp2_with fail
        go_ret
        exact ⟨rfl,below_drewN bw _⟩
     ·have hF:R=false:=by rw[←hR,decide_eq_false (by omega:¬(2≤x3∧x3≤7))];simp
      subst hF
      have y3:(x3==3)=false:=by rw[beq_eq_false_iff_ne];omega
      have y4:(x3==4)=false:=by rw[beq_eq_false_iff_ne];omega
      have y5:(x3==5)=false:=by rw[beq_eq_false_iff_ne];omega
      have y6:(x3==6)=false:=by rw[beq_eq_false_iff_ne];omega
      have y7:(x3==7)=false:=by rw[beq_eq_false_iff_ne];omega
      rcases hname with q0|⟨q0,q1⟩
      ·skip
       clear hR hn5 HT hK2 hcs
       go_enter Tryz.func106,Tryz.ntmps106
       go_wp2_with (first|(go_at_call 71;refine (cb _).mono ?_;rintro e r2 ⟨rfl,hw2⟩;obtain rfl:=hw2.symm))
       go_ret
       exact ⟨rfl,bw⟩
      ·skip
       simp only[q1] at cn
       clear q1
       clear hR hn5 HT hK2 hcs
       go_enter Tryz.func106,Tryz.ntmps106
       go_wp2_with (first|(go_at_call 172;refine (cn _).mono ?_;rintro e r1 ⟨rfl,hw1⟩;obtain rfl:=hw1.symm)|(go_at_call 71;refine (cb _).mono ?_;rintro e r2 ⟨rfl,hw2⟩;obtain rfl:=hw2.symm))
       go_ret
       exact ⟨rfl,bw⟩
  ·rw[decide_eq_false hnd] at hR
   have hF:R=false:=by rw[←hR];simp
   subst hF
   simp only[decide_eq_false hnd] at cb
   rcases hname with q0|⟨q0,q1⟩
   ·skip
    clear hR hn5 HT
    go_enter Tryz.func106,Tryz.ntmps106
    go_wp2_with (first|(go_at_call 71;refine (cb _).mono ?_;rintro e r2 ⟨rfl,hw2⟩;obtain rfl:=hw2.symm))
    go_ret
    exact ⟨rfl,bw⟩
   ·skip
    simp only[q1] at cn
    clear q1
    clear hR hn5 HT
    go_enter Tryz.func106,Tryz.ntmps106
    go_wp2_with (first|(go_at_call 172;refine (cn _).mono ?_;rintro e r1 ⟨rfl,hw1⟩;obtain rfl:=hw1.symm)|(go_at_call 71;refine (cb _).mono ?_;rintro e r2 ⟨rfl,hw2⟩;obtain rfl:=hw2.symm))
    go_ret
    exact ⟨rfl,bw⟩
 ·have hF:R=false:=by rw[←hR,hn];simp
  subst hF
  simp only[q1] at cn
  clear hR hn5 HT q1
  go_enter Tryz.func106,Tryz.ntmps106
  go_wp2_with (first|(go_at_call 172;refine (cn _).mono ?_;rintro e r1 ⟨rfl,hw1⟩;obtain rfl:=hw1.symm))
  go_ret
  exact ⟨rfl,bw⟩
theorem prmW_eq (x:Wd) (p:List Int×Int):(x=prmW p)↔(x.2.2.1=1∧x.1=p.1∧x.2.2.2.1=p.2∧x.2.1= -1∧x.2.2.2.2=[]):=by
 obtain ⟨x1,x2,x3,x4,x5⟩:=x
 unfold prmW
 simp only[Prod.mk.injEq]
 constructor
 ·rintro ⟨a,b,c,d,e⟩
  exact ⟨c,a,d,b,e⟩
 ·rintro ⟨c,a,d,b,e⟩
  exact ⟨a,b,c,d,e⟩
set_option maxHeartbeats 4000000 in
set_option maxRecDepth 100000 in
theorem w_pisprim (x:Wd) (p:List Int×Int) (nm pn:ByteArray) (vc:Value) (w:World) (e1:strOfNums x.1=nm) (e2:strOfNums p.1=pn) (hc:RdO w vc x.2.2.2.2) (b1:bytesL x.1) (b2:bytesL p.1) (hN:0≤x.2.2.2.1∧x.2.2.2.1 < 4294967296) (hP:0≤p.2∧p.2 < 65536):
  Calls Tryz.prog 105 #[.agg #[.string nm, .int .i64 x.2.1, .int .i64 x.2.2.1, .int .u32 x.2.2.2.1,vc], .agg #[.string pn, .int .i64 p.2]] w fun e w'=>e= .returned (.bool (decide (x=prmW p)))∧Below w.heap.size w w':=by
 have hE:decide (x=prmW p)=(decide (x.2.2.1=1)&&(decide (x.1=p.1)&&(decide (x.2.2.2.1=p.2)&&(decide (x.2.1= -1)&&decide (x.2.2.2.2=[]))))):=by
  rw[Bool.eq_iff_iff,decide_eq_true_eq,prmW_eq]
  simp only[Bool.and_eq_true,decide_eq_true_eq]
 rw[hE]
 clear hE
 have hq:=str_eq8 nm pn _ _ b1 b2 e1 e2
 obtain ⟨x1,x2,x3,x4,x5⟩:=x
 obtain ⟨p1,p2⟩:=p
 simp only at e1 hc b1 b2 hN hP hq ⊢
 have hla:=slr_len hc uO (P:=Tryz.prog)
 obtain ⟨ca,cq,rfl⟩:=slr_slice hc
 obtain ⟨n5,hn5⟩:∃n,x5.length=n:=⟨_,rfl⟩
 rw[hn5] at hla hc ⊢
 have hw4:=u32_i64 x4 hN.1 hN.2
 have hE5:decide (x5=[])=((n5:Int)==0):=by
  subst hn5
  cases x5 with
  |nil=>rfl
  |cons a r=>
   have:((((a::r).length:Nat):Int)==0)=false:=by rw[beq_eq_false_iff_ne];simp;omega
   rw[this]
   simp
 rw[hE5]
 have bb1:=box_below w (.cells #[.string nm, .int .i64 x2, .int .i64 x3, .int .u32 x4, .slice ca n5 cq] 59)
 have bb2:=box_below (w.alloc (.cells #[.string nm, .int .i64 x2, .int .i64 x3, .int .u32 x4, .slice ca n5 cq] 59)) (.cells #[.string pn, .int .i64 p2] 83)
 have st:=(stands_new w #[.string nm, .int .i64 x2, .int .i64 x3, .int .u32 x4, .slice ca n5 cq] 59).below bb2
 have sp:=stands_new (w.alloc (.cells #[.string nm, .int .i64 x2, .int .i64 x3, .int .u32 x4, .slice ca n5 cq] 59)) #[.string pn, .int .i64 p2] 83
 rw[size_al] at sp
 have f0:=st.cell 0 _ rfl
 have f1:=st.cell 1 _ rfl
 have f2:=st.cell 2 _ rfl
 have f3:=st.cell 3 _ rfl
 have f4:=st.cell 4 _ rfl
 have g0:=sp.cell 0 _ rfl
 have g1:=sp.cell 1 _ rfl
 have bw:=below_trans bb1 bb2
 clear bb1 bb2 st sp hE5 hn5 e1 e2 b1 b2 hc
 by_cases h3:x3=1
 ·have q3:(x3==1)=true:=by simpa using h3
  rw[decide_eq_true h3,Bool.true_and]
  clear h3
  by_cases h1:x1=p1
  ·rw[decide_eq_true h1] at hq ⊢
   rw[Bool.true_and]
   clear h1
   by_cases h4:x4=p2
   ·have q4:(x4==p2)=true:=by simpa using h4
    rw[decide_eq_true h4,Bool.true_and]
    clear h4
    by_cases h2:x2= -1
    ·have q2:(x2== -1)=true:=by simpa using h2
     rw[decide_eq_true h2,Bool.true_and]
     clear h2
     go_enter Tryz.func105,Tryz.ntmps105
     go_wp2_with fail
     go_ret
     exact ⟨rfl,bw⟩
    ·have q2:(x2== -1)=false:=by simpa using h2
     rw[decide_eq_false h2,Bool.false_and]
     clear h2
     go_enter Tryz.func105,Tryz.ntmps105
     go_wp2_with fail
     go_ret
     exact ⟨rfl,bw⟩
   ·have q4:(x4==p2)=false:=by simpa using h4
    rw[decide_eq_false h4,Bool.false_and]
    clear h4
    go_enter Tryz.func105,Tryz.ntmps105
    go_wp2_with fail
    go_ret
    exact ⟨rfl,bw⟩
  ·rw[decide_eq_false h1] at hq ⊢
   rw[Bool.false_and]
   clear h1
   go_enter Tryz.func105,Tryz.ntmps105
   go_wp2_with fail
   go_ret
   exact ⟨rfl,bw⟩
 ·have q3:(x3==1)=false:=by simpa using h3
  rw[decide_eq_false h3,Bool.false_and]
  clear h3
  go_enter Tryz.func105,Tryz.ntmps105
  go_wp2_with fail
  go_ret
  exact ⟨rfl,bw⟩
theorem prm_byt9:∀p∈prmL,bytesL p.1:=by
 have h:prmL.all (fun p=>p.1.all (fun c=>decide (0≤c∧c < 256)))=true:=by decide+kernel
 intro p hp c hc
 have:=List.all_eq_true.1 (List.all_eq_true.1 h p hp) c hc
 simpa using this
structure okV (x:Wd):Prop where
 byt:bytesL x.1
 len:x.1.length≤maxLen
 ops:∀y∈x.2.2.2.2,0≤y.2∧y.2 < 4294967296
 num:0≤x.2.2.2.1∧x.2.2.2.1 < 4294967296
theorem wdp_len {ws:List Wd} {t:List Nd} (h:¬(111≤ws.length∧ws.length≤640)):wdsF ws t=false:=by
 unfold wdsF
 rw[decide_eq_false h,Bool.false_and]
theorem wdp_prm {ws:List Wd} {t:List Nd} {k:Nat} (hw:k < ws.length) (hk:k < prmL.length) (h:¬ws[k]=prmW prmL[k]):wdsF ws t=false:=by
 unfold wdsF
 have:¬ws.take 111=prmL.map prmW:=by
  intro e
  have e1:(ws.take 111)[k]? =(prmL.map prmW)[k]? :=by rw[e]
  rw[List.getElem?_take,if_pos (by rw[prm_len] at hk;exact hk),List.getElem?_map,List.getElem?_eq_getElem hk,List.getElem?_eq_getElem hw] at e1
  simp at e1
  exact h e1
 rw[decide_eq_false this,Bool.false_and,Bool.and_false]
theorem wdp_bad {ws:List Wd} {t:List Nd} {k:Nat} (hk:k < (ws.drop 111).length) (h:wofF (ws.drop 111)[k] ws.length t=false):wdsF ws t=false:=by
 unfold wdsF
 have:(ws.drop 111).all (fun w=>wofF w ws.length t)=false:=by
  rw[List.all_eq_false]
  exact ⟨_,List.getElem_mem hk,by rw[h];decide⟩
 rw[this,Bool.and_false,Bool.and_false]
theorem wdp_yes {ws:List Wd} {t:List Nd} (h0:111≤ws.length∧ws.length≤640) (h1:∀k (hw:k < ws.length) (hk:k < prmL.length),ws[k]=prmW prmL[k]) (h2:∀k (hk:k < (ws.drop 111).length),wofF (ws.drop 111)[k] ws.length t=true):wdsF ws t=true:=by
 unfold wdsF
 have e1:ws.take 111=prmL.map prmW:=by
  apply List.ext_getElem
  ·rw[List.length_take,List.length_map,prm_len]
   omega
  ·intro i a b
   rw[List.getElem_take,List.getElem_map]
   exact h1 i (by simp at a;omega) (by simpa using b)
 have e2:(ws.drop 111).all (fun w=>wofF w ws.length t)=true:=by
  rw[List.all_eq_true]
  intro x hx
  obtain ⟨k,hk,rfl⟩:=List.getElem_of_mem hx
  exact h2 k hk
 rw[decide_eq_true h0,decide_eq_true e1,e2]
 rfl
set_option maxHeartbeats 4000000 in
set_option maxRecDepth 100000 in
theorem w_pwords (vw vt:Value) (ws:List Wd) (t:List Nd) (w:World) (h:RdW w vw ws) (ht:RdT w vt t) (gx:∀x∈ws,okV x):
  Calls Tryz.prog 72 #[vw,vt] w fun e w'=>e= .returned (.bool (wdsF ws t))∧Below w.heap.size w w':=by
 have hla:=slr_len h uW (P:=Tryz.prog)
 have hm:=slr_max h
 unfold maxLen at hm
 by_cases h1:(ws.length:Int) < 111
 ·have hf:=hid (wdp_len (ws:=ws) (t:=t) (by omega))
  have q1:decide ((ws.length:Int) < 111)=true:=decide_eq_true h1
  go_enter Tryz.func72,Tryz.ntmps72
  go_wp2_with fail
  go_ret
  exact ⟨ret_b hf.out.symm,Below.refl _ _⟩
 ·have q1:decide ((ws.length:Int) < 111)=false:=decide_eq_false h1
  by_cases h2:(640:Int) < ws.length
  ·have hf:=hid (wdp_len (ws:=ws) (t:=t) (by omega))
   have q2:decide ((640:Int) < ws.length)=true:=decide_eq_true h2
   go_enter Tryz.func72,Tryz.ntmps72
   go_wp2_with fail
   go_ret
   exact ⟨ret_b hf.out.symm,Below.refl _ _⟩
  ·have q2:decide ((640:Int) < ws.length)=false:=decide_eq_false h2
   have hlen:Hid (111≤ws.length∧ws.length≤640):=⟨by omega,by omega⟩
   have pl:(prmL.length:Int)=111:=by rw[prm_len];rfl
   obtain ⟨vh,hh,hhR⟩:=slr_tail h uW zW 111 (by omega)
   have hh':∀w',(Instr.slice 24 vw (some (.int .i64 111)) none none).run Tryz.prog w'= .ok vh w':=hh
   obtain ⟨tl,htl⟩:∃tl,ws.drop 111=tl:=⟨_,rfl⟩
   have hBad:Hid (∀k (hk:k < tl.length),wofF tl[k] ws.length t=false→wdsF ws t=false):=by
    show ∀k _,_
    intro k hk
    subst htl
    exact wdp_bad hk
   have hYes:Hid ((∀k (hw:k < ws.length) (hk:k < prmL.length),ws[k]=prmW prmL[k])→(∀k (hk:k < tl.length),wofF tl[k] ws.length t=true)→wdsF ws t=true):=by
    show _→_
    subst htl
    exact wdp_yes hlen.out
   have hTm:Hid (∀x∈tl,okV x):=by
    show ∀x∈tl,_
    subst htl
    exact fun x hx=>gx x (List.mem_of_mem_drop hx)
   have hTn:(tl.length:Int)≤640:=by rw[←htl,List.length_drop];omega
   rw[htl] at hhR
   have hlh:=slr_len hhR uW (P:=Tryz.prog)
   clear hh htl
   go_enter Tryz.func72,Tryz.ntmps72
   go_wp2_with (go_at_call 104;refine (w_p9primsO _).mono ?_;rintro e q1 ⟨u1,rfl,p1,b1⟩;have p1R:=p1.read (R:=prmR) (by decide) (fun _ _ q=>q);have hlp:=slr_len p1R uM (P:=Tryz.prog);rw[pl] at hlp)
   go_loopw [19] (fun I wx=>∃k:Nat,(k:Int)≤111∧I= .int .i64 k∧Hid (∀j (g:j < k) (hw:j < ws.length) (hj:j < prmL.length),ws[j]=prmW prmL[j])∧Below q1.heap.size q1 wx) (fun I _=>(111 - intOf I).toNat)
   case atStart=>exact ⟨0,by omega,rfl,hid (fun j g=>by omega),Below.refl _ _⟩
   case round=>
    obtain ⟨k,hk,rfl,hok,hbq⟩:=hrel
    have hb:=below_trans b1 hbq
    by_cases hlt:(k:Int) < 111
    ·have hkl:k < prmL.length:=by omega
     have hkw:k < ws.length:=by omega
     have hkwi:(k:Int) < ws.length:=by omega
     obtain ⟨bp,op,pn,rp,p0,p1c,ep⟩:=prm_cell (p1R.below hbq (prmR_below hbq)) k hkl
     obtain ⟨b2,o2,nm,vc,r2,f0,f1,f2,f3,f4,e2,hc2⟩:=wrd_at (RdW.below h hb) k hkw
     have hcd:=List.all_eq_true.1 prm_codes _ (List.getElem_mem hkl)
     rw[decide_eq_true_eq] at hcd
     have gk:=gx _ (List.getElem_mem hkw)
     have ci:=fun W (g:Below wr.heap.size wr W)=>w_pisprim ws[k] prmL[k] nm pn vc W e2 ep (RdO.below hc2 g) gk.byt (prm_byt9 _ (List.getElem_mem hkl)) gk.num hcd
     obtain ⟨ca,cq,rfl⟩:=slr_slice hc2
     have bad:=fun g=>hid (wdp_prm (ws:=ws) (t:=t) hkw hkl g)
     obtain ⟨D,hD⟩:∃D,decide (ws[k]=prmW prmL[k])=D:=⟨_,rfl⟩
     simp only[hD] at ci
     obtain ⟨c,hc⟩:∃c,prmL[k].2=c:=⟨_,rfl⟩
     obtain ⟨X1,hX1⟩:∃X,ws[k].2.1=X:=⟨_,rfl⟩
     obtain ⟨X2,hX2⟩:∃X,ws[k].2.2.1=X:=⟨_,rfl⟩
     obtain ⟨X3,hX3⟩:∃X,ws[k].2.2.2.1=X:=⟨_,rfl⟩
     rw[hc] at p1c
     rw[hX1] at f1
     rw[hX2] at f2
     rw[hX3] at f3
     simp only[hc,hX1,hX2,hX3] at ci
     have st:=stands_new wr #[.string pn, .int .i64 c] 83
     have hbx:=box_below wr (.cells #[.string pn, .int .i64 c] 83)
     have CI:=hid ci
     have HB:=hid hb
     have HQ:=hid hbq
     have FW:Hid (∀W,Below wr.heap.size wr W→W.cell? ⟨b2,o2,none⟩=some (.string nm)∧W.cell? ⟨b2,o2+1,none⟩=some (.int .i64 X1)∧W.cell? ⟨b2,o2+2,none⟩=some (.int .i64 X2)∧W.cell? ⟨b2,o2+3,none⟩=some (.int .u32 X3)∧W.cell? ⟨b2,o2+4,none⟩=some (.slice ca ws[k].2.2.2.2.length cq)):=fun W g=>⟨below_cell g f0,below_cell g f1,below_cell g f2,below_cell g f3,below_cell g f4⟩
     clear hc hX1 hX2 hX3 ci hc2 e2 ep gk hcd f0 f1 f2 f3 f4 hb hbq
     cases D
     ·have hf:=bad (of_decide_eq_false hD)
      clear hD bad hok
      go_wp2_with fail
      generalize wr.alloc (.cells #[.string pn, .int .i64 c] 83)=w1 at st hbx ⊢
      have Z:Hid (∀W,Below w1.heap.size w1 W→(W.cell? ⟨wr.heap.size,0,none⟩=some (.string pn)∧W.cell? ⟨wr.heap.size,1,none⟩=some (.int .i64 c))∧(W.cell? ⟨b2,o2,none⟩=some (.string nm)∧W.cell? ⟨b2,o2+1,none⟩=some (.int .i64 X1)∧W.cell? ⟨b2,o2+2,none⟩=some (.int .i64 X2)∧W.cell? ⟨b2,o2+3,none⟩=some (.int .u32 X3)∧W.cell? ⟨b2,o2+4,none⟩=some (.slice ca ws[k].2.2.2.2.length cq))):=fun W g=>⟨⟨(st.below g).cell 0 _ rfl,(st.below g).cell 1 _ rfl⟩,FW.out W (below_trans hbx g)⟩
      have hrd:Hid (Below w1.heap.size w1 w1.drew):=below_drewN (Below.refl _ _) 1
      have B0:=hid hbx
      clear st hbx FW
      go_region_held (fun W=>(W.cell? ⟨wr.heap.size,0,none⟩=some (.string pn)∧W.cell? ⟨wr.heap.size,1,none⟩=some (.int .i64 c))∧(W.cell? ⟨b2,o2,none⟩=some (.string nm)∧W.cell? ⟨b2,o2+1,none⟩=some (.int .i64 X1)∧W.cell? ⟨b2,o2+2,none⟩=some (.int .i64 X2)∧W.cell? ⟨b2,o2+3,none⟩=some (.int .u32 X3)∧W.cell? ⟨b2,o2+4,none⟩=some (.slice ca ws[k].2.2.2.2.length cq))) (first|with_reducible exact Z.out _ hrd.out|with_reducible exact Z.out _ R2.out)
       (first
        |(go_at_call 105;refine (CI.out _ (below_trans B0.out hrd.out)).mono ?_;rintro e w2 ⟨rfl,d2⟩;have R2:Hid (Below w1.heap.size w1 w2):=below_trans hrd.out d2;clear d2))
      go_wp2_with fail
      go_ret
      exact ⟨ret_b hf.out.symm,below_trans HB.out (below_trans B0.out R2.out)⟩
     ·have hok2:Hid (∀j (g:j < k+1) (hw:j < ws.length) (hj:j < prmL.length),ws[j]=prmW prmL[j]):=by
       show ∀j _ _ _,_
       intro j g hw hj
       by_cases hjk:j < k
       ·exact hok.out j hjk hw hj
       ·have:j=k:=by omega
        subst this
        exact of_decide_eq_true hD
      clear hD bad hok
      go_wp2_with fail
      generalize wr.alloc (.cells #[.string pn, .int .i64 c] 83)=w1 at st hbx ⊢
      have Z:Hid (∀W,Below w1.heap.size w1 W→(W.cell? ⟨wr.heap.size,0,none⟩=some (.string pn)∧W.cell? ⟨wr.heap.size,1,none⟩=some (.int .i64 c))∧(W.cell? ⟨b2,o2,none⟩=some (.string nm)∧W.cell? ⟨b2,o2+1,none⟩=some (.int .i64 X1)∧W.cell? ⟨b2,o2+2,none⟩=some (.int .i64 X2)∧W.cell? ⟨b2,o2+3,none⟩=some (.int .u32 X3)∧W.cell? ⟨b2,o2+4,none⟩=some (.slice ca ws[k].2.2.2.2.length cq))):=fun W g=>⟨⟨(st.below g).cell 0 _ rfl,(st.below g).cell 1 _ rfl⟩,FW.out W (below_trans hbx g)⟩
      have hrd:Hid (Below w1.heap.size w1 w1.drew):=below_drewN (Below.refl _ _) 1
      have B0:=hid hbx
      clear st hbx FW
      go_region_held (fun W=>(W.cell? ⟨wr.heap.size,0,none⟩=some (.string pn)∧W.cell? ⟨wr.heap.size,1,none⟩=some (.int .i64 c))∧(W.cell? ⟨b2,o2,none⟩=some (.string nm)∧W.cell? ⟨b2,o2+1,none⟩=some (.int .i64 X1)∧W.cell? ⟨b2,o2+2,none⟩=some (.int .i64 X2)∧W.cell? ⟨b2,o2+3,none⟩=some (.int .u32 X3)∧W.cell? ⟨b2,o2+4,none⟩=some (.slice ca ws[k].2.2.2.2.length cq))) (first|with_reducible exact Z.out _ hrd.out|with_reducible exact Z.out _ R2.out)
       (first
        |(go_at_call 105;refine (CI.out _ (below_trans B0.out hrd.out)).mono ?_;rintro e w2 ⟨rfl,d2⟩;have R2:Hid (Below w1.heap.size w1 w2):=below_trans hrd.out d2;clear d2))
      go_wp2_with fail
      go_roundw
      case rel=>exact ⟨k+1,by omega,by go_num,hok2,below_trans HQ.out (below_trans B0.out R2.out)⟩
      case measure=>simp[intOf];omega
    ·have hok1:Hid (∀j (hw:j < ws.length) (hj:j < prmL.length),ws[j]=prmW prmL[j]):=fun j hw hj=>hok.out j (by omega) hw hj
     obtain ⟨w0,hw0⟩:∃w0,w0=wr:=⟨_,rfl⟩
     subst hw0
     have hb0:=hb
     clear hok hbq hb
     go_wp2_with fail
     go_loopw [35] (fun I wx=>∃k:Nat,(k:Int)≤tl.length∧I= .int .i64 k∧Hid (∀j (g:j < k) (hj:j < tl.length),wofF tl[j] ws.length t=true)∧Below w.heap.size w wx) (fun I _=>(tl.length - intOf I).toNat)
     case atStart=>exact ⟨0,by omega,rfl,hid (fun j g=>by omega),hb0⟩
     case round=>
      obtain ⟨i,hi,rfl,hoi,hb⟩:=hrel
      by_cases hlti:(i:Int) < tl.length
      ·have hil:i < tl.length:=by omega
       obtain ⟨b2,o2,nm,vc,r2,f0,f1,f2,f3,f4,e2,hc2⟩:=wrd_at (RdW.below hhR hb) i hil
       have gk:=hTm.out _ (List.getElem_mem hil)
       have ci:=fun W (g:Below wr.heap.size wr W)=>w_pwof tl[i] nm vc vt ws.length t W e2 (RdO.below hc2 g) (ht.below (below_trans hb g)) gk.byt gk.len gk.ops gk.num
       obtain ⟨ca,cq,rfl⟩:=slr_slice hc2
       have bad:=fun g=>hid (hBad.out i hil g)
       obtain ⟨D,hD⟩:∃D,wofF tl[i] ws.length t=D:=⟨_,rfl⟩
       simp only[hD] at ci
       obtain ⟨X1,hX1⟩:∃X,tl[i].2.1=X:=⟨_,rfl⟩
       obtain ⟨X2,hX2⟩:∃X,tl[i].2.2.1=X:=⟨_,rfl⟩
       obtain ⟨X3,hX3⟩:∃X,tl[i].2.2.2.1=X:=⟨_,rfl⟩
       obtain ⟨n5,hn5⟩:∃X,tl[i].2.2.2.2.length=X:=⟨_,rfl⟩
       rw[hX1] at f1
       rw[hX2] at f2
       rw[hX3] at f3
       rw[hn5] at f4
       simp only[hX1,hX2,hX3,hn5] at ci
       have hbx:=box_below wr (.cells #[.string nm, .int .i64 X1, .int .i64 X2, .int .u32 X3, .slice ca n5 cq] 59)
       have cw:=ci _ hbx
       clear hX1 hX2 hX3 hn5 ci hc2 e2 gk
       cases D
       ·have hf:=bad hD
        clear hD bad hoi
        go_wp2_with (go_at_call 106;refine cw.mono ?_;rintro e w2 ⟨rfl,d2⟩)
        go_ret
        exact ⟨ret_b hf.out.symm,below_trans hb (below_trans hbx d2)⟩
       ·have hoi2:Hid (∀j (g:j < i+1) (hj:j < tl.length),wofF tl[j] ws.length t=true):=by
         show ∀j _ _,_
         intro j g hj
         by_cases hjk:j < i
         ·exact hoi.out j hjk hj
         ·have:j=i:=by omega
          subst this
          exact hD
        clear hD bad hoi
        go_wp2_with (go_at_call 106;refine cw.mono ?_;rintro e w2 ⟨rfl,d2⟩)
        go_roundw
        case rel=>exact ⟨i+1,by omega,by go_num,hoi2,below_trans hb (below_trans hbx d2)⟩
        case measure=>simp[intOf];omega
      ·have hf:=hid (hYes.out hok1.out (fun j hj=>hoi.out j (by omega) hj))
       clear hoi
       go_wp2_with fail
       go_ret
       exact ⟨ret_b hf.out.symm,hb⟩
set_option maxHeartbeats 1000000 in
set_option maxRecDepth 100000 in
theorem w_pcodes1 (x c:Int) (B:Nat) (W:World) (hs:W.cell? ⟨B,0,none⟩=some (.int .i64 c)):
  Calls Tryz.prog 108 #[.int .i64 x, .pointer (some ⟨B,0,none⟩)] W fun e w'=>e= .returned (.bool (!decide (-1≤x∧x < c)))∧w'=W:=by
 have cb:=fun W=>w_pnob x c W
 obtain ⟨D,hD⟩:∃D,decide (-1≤x∧x < c)=D:=⟨_,rfl⟩
 simp only[hD] at cb ⊢
 clear hD
 go_enter Tryz.func108,Tryz.ntmps108
 go_wp2_with (go_at_call 71;refine (cb _).mono ?_;rintro e w1 ⟨rfl,hw1⟩;obtain rfl:=hw1.symm)
 go_ret
 exact ⟨rfl,rfl⟩
set_option maxHeartbeats 2000000 in
set_option maxRecDepth 100000 in
theorem w_pindexJ (v:Value) (l:List Int) (c:Int) (B:Nat) (w:World) (h:Rd .i64 w v l) (hs:w.cell? ⟨B,0,none⟩=some (.int .i64 c)) (hm:(l.length:Int)≤2048):
  Calls Tryz.prog 175 #[v, .func (.func 108) #[] #[.pointer (some ⟨B,0,none⟩)]] w fun e w'=>e= .returned (.int .i64 (fdI (l.findIdx? (fun x=> !decide (-1≤x∧x < c)))))∧w'=w:=by
 have eg:∀args w,(callFunc 108 args).run Tryz.prog w= .ok (.enter 108 args) w:=enters_of Tryz.func108 (by kernel_rfl) rfl
 have hl:=rd_len h uJ (P:=Tryz.prog)
 obtain ⟨R,hR⟩:∃R,fdI (l.findIdx? (fun x=> !decide (-1≤x∧x < c)))=R:=⟨_,rfl⟩
 rw[hR]
 have HR:=hid hR
 clear hR
 go_enter Tryz.func175,Tryz.ntmps175
 go_wp2_with fail
 go_loopw [8] (fun I wx=>∃k:Nat,(k:Int)≤l.length∧I= .int .i64 k∧Hid ((l.take k).findIdx? (fun x=> !decide (-1≤x∧x < c))=none)∧wx=w) (fun I _=>(l.length - intOf I).toNat)
 case atStart=>exact ⟨0,by omega,rfl,hid rfl,rfl⟩
 case round=>
  obtain ⟨k,hk,rfl,ht,hw⟩:=hrel
  obtain rfl:=hw.symm
  by_cases hlt:(k:Int) < l.length
  ·have hkl:k < l.length:=by omega
   obtain ⟨ad,r1,f1⟩:=rd_idx h uJ zJ (k:Int) (by omega) hlt
   rw[Int.toNat_natCast,List.getD_eq_getElem?_getD,List.getElem?_eq_getElem hkl,Option.getD_some] at f1
   have hit:=fix_hit (fun x=> !decide (-1≤x∧x < c)) l k hkl ht.out
   have miss:=fix_take (fun x=> !decide (-1≤x∧x < c)) l k hkl ht.out
   obtain ⟨X,hX⟩:∃X,l[k]=X:=⟨_,rfl⟩
   rw[hX] at f1 hit miss
   have hc:=fun W (g:W=w)=>w_pcodes1 X c B W (by rw[g];exact hs)
   cases hx:(!decide (-1≤X∧X < c))
   ·simp only[hx] at hc
    have ht2:=hid (miss hx)
    clear hx hit miss hX ht HR
    go_wp2_with (go_at_fn 108;refine (hc _ rfl).mono ?_;rintro e w1 ⟨rfl,hw1⟩;obtain rfl:=hw1.symm)
    go_roundw
    case rel=>exact ⟨k+1,by omega,by go_num,ht2,trivial⟩
    case measure=>simp[intOf];omega
   ·simp only[hx] at hc
    have hRk:Hid (R=(k:Int)):=by show _=_;rw[←HR.out,hit hx];rfl
    clear hx hit miss hX ht HR
    go_wp2_with (go_at_fn 108;refine (hc _ rfl).mono ?_;rintro e w1 ⟨rfl,hw1⟩;obtain rfl:=hw1.symm)
    go_ret
    rw[hRk.out]
    exact ⟨rfl,rfl⟩
  ·have hRn:Hid (R= -1):=by
    show _=_
    have:=ht.out
    rw[List.take_of_length_le (by omega)] at this
    rw[←HR.out,this]
    rfl
   clear ht HR
   go_wp2_with fail
   go_ret
   rw[hRn.out]
   exact ⟨rfl,rfl⟩
theorem fdI_all {l:List Int} {p:Int→Bool}:(!decide ((0:Int)≤fdI (l.findIdx? (fun x=> !p x))))=l.all p:=by
 cases h:l.findIdx? (fun x=> !p x) with
 |none=>
  rw[List.findIdx?_eq_none_iff] at h
  have:l.all p=true:=List.all_eq_true.2 fun x hx=>by have:=h x hx;simpa using this
  rw[this]
  rfl
 |some k=>
  obtain ⟨hk,h1,_⟩:=List.findIdx?_eq_some_iff_getElem.1 h
  have:l.all p=false:=List.all_eq_false.2 ⟨_,List.getElem_mem hk,by simpa using h1⟩
  rw[this,decide_eq_true (show (0:Int)≤fdI (some k) from Int.natCast_nonneg k)]
  rfl
set_option maxHeartbeats 1000000 in
set_option maxRecDepth 100000 in
theorem w_pcontJ (v:Value) (l:List Int) (c:Int) (B:Nat) (w:World) (h:Rd .i64 w v l) (hs:w.cell? ⟨B,0,none⟩=some (.int .i64 c)) (hm:(l.length:Int)≤2048):
  Calls Tryz.prog 107 #[v, .func (.func 108) #[] #[.pointer (some ⟨B,0,none⟩)]] w fun e w'=>e= .returned (.bool (decide ((0:Int)≤fdI (l.findIdx? (fun x=> !decide (-1≤x∧x < c))))))∧w'=w:=by
 have hc:=w_pindexJ v l c B w h hs hm
 obtain ⟨F,hF⟩:∃F,fdI (l.findIdx? (fun x=> !decide (-1≤x∧x < c)))=F:=⟨_,rfl⟩
 rw[hF] at hc ⊢
 clear hF
 go_enter Tryz.func107,Tryz.ntmps107
 go_wp2_with (go_at_call 175;refine hc.mono ?_;rintro e w1 ⟨rfl,hw1⟩;obtain rfl:=hw1.symm)
 go_ret
 exact ⟨rfl,rfl⟩
set_option maxHeartbeats 1000000 in
set_option maxRecDepth 100000 in
theorem w_pcodes (v:Value) (l:List Int) (n:Nat) (w:World) (h:Rd .i64 w v l):
  Calls Tryz.prog 73 #[v, .int .i64 n] w fun e w'=>e= .returned (.bool (cdsF l n))∧Below w.heap.size w w':=by
 have hmf:∀(fn:Fn) (first cap:Array Value) (w:World),(Instr.makeFunc fn first cap).run Tryz.prog w= .ok (.func fn first cap) w:=fun _ _ _ _=>rfl
 have hl:=rd_len h uJ (P:=Tryz.prog)
 have bw:=box_below w (.cells #[.int .i64 n] 3)
 have z0:=(stands_new w #[.int .i64 n] 3).cell 0 _ rfl
 by_cases h1:(2048:Int) < l.length
 ·have hf:Hid (cdsF l n=false):=by show _=_;unfold cdsF;rw[decide_eq_false (by omega),Bool.false_and]
  go_enter Tryz.func73,Tryz.ntmps73
  go_wp2_with fail
  go_ret
  exact ⟨ret_b hf.out.symm,bw⟩
 ·have hf:Hid (cdsF l n= !decide ((0:Int)≤fdI (l.findIdx? (fun x=> !decide (-1≤x∧x < (n:Int)))))):=by
   show _=_
   unfold cdsF
   rw[decide_eq_true (by omega),Bool.true_and,fdI_all]
  have hc:=w_pcontJ v l n w.heap.size _ (h.below bw) z0 (by omega)
  obtain ⟨F,hF⟩:∃F,decide ((0:Int)≤fdI (l.findIdx? (fun x=> !decide (-1≤x∧x < (n:Int)))))=F:=⟨_,rfl⟩
  rw[hF] at hf hc
  clear hF
  go_enter Tryz.func73,Tryz.ntmps73
  go_wp2_with (go_at_call 107;refine hc.mono ?_;rintro e w1 ⟨rfl,hw1⟩;obtain rfl:=hw1.symm)
  go_ret
  exact ⟨ret_b hf.out.symm,bw⟩
def parF9 (l:List Iz) (a:Int):Int:=(l.getD a.toNat (-1, -1,[],[])).2.1
def noaF (l:List Iz) (p:Int):Bool:=decide (-1≤p∧p < l.length)&&(decide (p= -1)||decide (¬(l.getD p.toNat (-1, -1,[],[])).1= -1))
def grF (l:List Iz):Nat→Int→Bool
 |0,a=>false
 |f+1,a=>noaF l (parF9 l a)&&(decide (parF9 l a= -1)||grF l f (parF9 l a))
def frI (x:Iz):Bool:=decide (x=(-1, -1,[],[]))
def alI (t:List Nd) (x:Iz):Bool:=decide (0≤x.1∧x.1 < t.length)&&(decide (x.2.2.2.length=(t.getD x.1.toNat ([],[],0,[],[])).2.2.2.2.length)&&(decide (x.2.2.1.length≤256)&&decide (¬(47:Int)∈x.2.2.1)))
def okZ9 (t:List Nd) (x:Iz):Bool:=frI x||alI t x
def paK (l:List Iz) (p:Int):Bool:=decide (p= -1)||alvF l p
theorem okI_parts (l:List Iz) (t:List Nd) (x:Iz):okI l t x=(okZ9 t x&&paK l x.2.1):=by
 unfold okI okZ9 paK frI alI
 by_cases h:x.1= -1
 ·rw[if_pos h]
  by_cases h2:x=(-1, -1,[],[])
  ·subst h2
   simp
  ·have:¬(0≤x.1∧x.1 < t.length):=by omega
   simp[h2,this]
 ·rw[if_neg h]
  have:¬x=(-1, -1,[],[]):=fun e=>h (by rw[e])
  simp[this,Bool.and_assoc]
theorem okZ9_node {t:List Nd} {x:Iz} (h:okZ9 t x=true):x.1= -1∧x.2.1= -1∨0≤x.1:=by
 unfold okZ9 frI alI at h
 simp only[Bool.or_eq_true,decide_eq_true_eq,Bool.and_eq_true] at h
 rcases h with h|h
 ·left
  rw[h]
  exact ⟨rfl,rfl⟩
 ·right
  exact h.1.1
theorem noa_paK {l:List Iz} {t:List Nd} (h:l.all (okZ9 t)=true) (p:Int):noaF l p=paK l p:=by
 unfold noaF paK alvF
 by_cases h1:p= -1
 ·subst h1
  simp
  omega
 ·by_cases h2:0≤p∧p < l.length
  ·have hl:p.toNat < l.length:=by omega
   have hk:=okZ9_node (List.all_eq_true.1 h _ (List.getElem_mem hl))
   rw[List.getD_eq_getElem?_getD,List.getElem?_eq_getElem hl]
   simp only[Option.getD_some]
   have e1:decide (-1≤p∧p < l.length)=true:=by simp;omega
   have e2:decide (0≤p∧p < (l.length:Int))=true:=by simp;omega
   rw[e1,e2]
   simp only[Bool.true_and]
   congr 1
   rw[decide_eq_decide]
   omega
  ·have e1:decide (-1≤p∧p < l.length)=false:=by simp;omega
   have e2:decide (0≤p∧p < (l.length:Int))=false:=by simp;omega
   rw[e1,e2]
   simp[h1]
theorem chn_neg (l:List Iz) (k:Nat) (a:Int) (h:a < 0):chnF l k a=true:=by
 cases k <;> simp[chnF,h]
theorem chn_more (l:List Iz):∀(k:Nat) (a:Int),chnF l k a=true→chnF l (k+1) a=true
 |0,a,h=>by
  have:a < 0:=by simpa [chnF] using h
  exact chn_neg l 1 a this
 |k+1,a,h=>by
  rw[chnF,Bool.or_eq_true] at h ⊢
  rcases h with h|h
  ·exact Or.inl h
  ·exact Or.inr (chn_more l k _ h)
theorem chn_le (l:List Iz) (k m:Nat) (a:Int) (hkm:k≤m) (h:chnF l k a=true):chnF l m a=true:=by
 obtain ⟨d,rfl⟩:=Nat.exists_eq_add_of_le hkm
 induction d with
 |zero=>exact h
 |succ d ih=>exact chn_more l (k+d) a (ih (by omega))
theorem gr_chn (l:List Iz):∀(f:Nat) (a:Int),grF l (f+1) a=true→chnF l f (parF9 l a)=true
 |0,a,h=>by
  simp only[grF,Bool.and_eq_true,Bool.or_eq_true,decide_eq_true_eq] at h
  rcases h.2 with h|h
  ·rw[h]
   rfl
  ·cases h
 |f+1,a,h=>by
  rw[grF,Bool.and_eq_true,Bool.or_eq_true,decide_eq_true_eq] at h
  rcases h.2 with h|h
  ·rw[h]
   exact chn_neg _ _ _ (by omega)
  ·rw[chnF,Bool.or_eq_true]
   exact Or.inr (gr_chn l f _ h)
theorem gr_noa {l:List Iz} {f:Nat} {a:Int} (h:grF l (f+1) a=true):noaF l (parF9 l a)=true:=by
 rw[grF,Bool.and_eq_true] at h
 exact h.1
theorem chn_gr {l:List Iz} (hp:∀a:Int,0≤a→a < l.length→noaF l (parF9 l a)=true):∀(f:Nat) (a:Int),0≤a→a < l.length→chnF l f (parF9 l a)=true→grF l (f+1) a=true
 |0,a,h0,h1,h=>by
  have hn:=hp a h0 h1
  have hn2:=hn
  simp only[noaF,Bool.and_eq_true,decide_eq_true_eq] at hn2
  have:parF9 l a < 0:=by simpa [chnF] using h
  rw[grF,hn,decide_eq_true (show parF9 l a= -1 by omega)]
  rfl
 |f+1,a,h0,h1,h=>by
  have hn:=hp a h0 h1
  have hn2:=hn
  simp only[noaF,Bool.and_eq_true,decide_eq_true_eq] at hn2
  rw[grF,hn,Bool.true_and,Bool.or_eq_true,decide_eq_true_eq]
  rw[chnF,Bool.or_eq_true,decide_eq_true_eq] at h
  by_cases hm:parF9 l a= -1
  ·exact Or.inl hm
  ·right
   rcases h with h|h
   ·omega
   ·exact chn_gr hp f _ (by omega) (by omega) h
theorem cnt_lt {α:Type} (p q:α→Bool):∀(l:List α),(∀x∈l,p x=true→q x=true)→(∃x∈l,q x=true∧p x=false)→l.countP p < l.countP q
 |[],_,h=>by
  obtain ⟨x,hx,_⟩:=h
  cases hx
 |y::l,hs,h=>by
  have hle:l.countP p≤l.countP q:=List.countP_mono_left (fun x hx hp=>hs x (by simp[hx]) hp)
  by_cases hy:q y=true∧p y=false
  ·rw[List.countP_cons,List.countP_cons,hy.1,hy.2]
   simp
   omega
  ·have hy2:=hs y (by simp)
   obtain ⟨x,hx,hx1,hx2⟩:=h
   rcases List.mem_cons.1 hx with rfl|hx
   ·exact absurd ⟨hx1,hx2⟩ hy
   ·have:=cnt_lt p q l (fun x hx hp=>hs x (by simp[hx]) hp) ⟨x,hx,hx1,hx2⟩
    rw[List.countP_cons,List.countP_cons]
    have he:p y=q y:=by
     cases h1:p y <;> cases h2:q y <;> simp_all
    rw[he]
    omega
theorem chn_stable {l:List Iz} (hp:∀a:Int,0≤a→a < l.length→ -1≤parF9 l a∧parF9 l a < l.length) (k:Nat) (hs:∀a:Int,0≤a→a < l.length→chnF l (k+1) a=chnF l k a):∀(d:Nat) (a:Int),0≤a→a < l.length→chnF l (k+d) a=chnF l k a
 |0,a,h0,h1=>rfl
 |d+1,a,h0,h1=>by
  rw[←hs a h0 h1,←Nat.add_assoc]
  rw[chnF,chnF]
  have hq:=hp a h0 h1
  congr 1
  show chnF l (k+d) (parF9 l a)=chnF l k (parF9 l a)
  by_cases hn:parF9 l a < 0
  ·rw[chn_neg _ _ _ hn,chn_neg _ _ _ hn]
  ·exact chn_stable hp k hs d _ (by omega) hq.2
theorem chn_count {l:List Iz} (hp:∀a:Int,0≤a→a < l.length→ -1≤parF9 l a∧parF9 l a < l.length):∀k:Nat,k≤(List.range l.length).countP (fun (j:Nat)=>chnF l k (j:Int))∨∀a:Int,0≤a→a < l.length→chnF l (k+1) a=chnF l k a
 |0=>Or.inl (Nat.zero_le _)
 |k+1=>by
  by_cases hs:∀a:Int,0≤a→a < l.length→chnF l (k+1) a=chnF l k a
  ·right
   intro a h0 h1
   have e1:=chn_stable hp k hs 2 a h0 h1
   have e2:=chn_stable hp k hs 1 a h0 h1
   rw[show k+1+1=k+2 by omega,e1,e2]
  ·rcases chn_count hp k with h|h
   ·left
    have hex:∃a:Int,(0≤a∧a < l.length)∧¬chnF l (k+1) a=chnF l k a:=by
     apply Classical.byContradiction
     intro hn
     apply hs
     intro a h0 h1
     apply Classical.byContradiction
     intro hne
     exact hn ⟨a,⟨h0,h1⟩,hne⟩
    obtain ⟨a,⟨h0,h1⟩,hne⟩:=hex
    have hf:chnF l k a=false:=by
     cases hc:chnF l k a
     ·rfl
     ·rw[hc,chn_more l k a hc] at hne
      exact absurd rfl hne
    have ht:chnF l (k+1) a=true:=by
     rw[hf] at hne
     simpa using hne
    have:=cnt_lt (fun (j:Nat)=>chnF l k (j:Int)) (fun (j:Nat)=>chnF l (k+1) (j:Int)) (List.range l.length) (fun x _ hx=>chn_more l k _ hx) ⟨a.toNat,by simp;omega,by
     have e:((a.toNat:Nat):Int)=a:=by omega
     simp only[e]
     exact ⟨ht,hf⟩⟩
    omega
   ·exact absurd h hs
theorem chn_enough {l:List Iz} (hp:∀a:Int,0≤a→a < l.length→ -1≤parF9 l a∧parF9 l a < l.length) (K:Nat) (a:Int) (h0:0≤a) (h1:a < l.length) (h:chnF l K a=true):chnF l l.length a=true:=by
 by_cases hK:K≤l.length
 ·exact chn_le l K l.length a hK h
 ·rcases chn_count hp l.length with hc|hs
  ·have hle:=List.countP_le_length (p:=fun (j:Nat)=>chnF l l.length (j:Int)) (l:=List.range l.length)
   rw[List.length_range] at hle
   have he:(List.range l.length).countP (fun (j:Nat)=>chnF l l.length (j:Int))=(List.range l.length).length:=by rw[List.length_range];omega
   have:=List.countP_eq_length.1 he a.toNat (by simp;omega)
   have e:((a.toNat:Nat):Int)=a:=by omega
   simpa only[e] using this
  ·obtain ⟨d,rfl⟩:=Nat.exists_eq_add_of_le (show l.length≤K by omega)
   rw[chn_stable hp l.length hs d a h0 h1] at h
   exact h
def inpF (l:List Iz) (t:List Nd):Bool:=decide (l.length≤16)&&(l.all (okZ9 t)&&(List.range l.length).all (fun (j:Nat)=>grF l l.length (j:Int)))
theorem insF_as (l:List Iz) (t:List Nd):insF l t=inpF l t:=by
 unfold insF inpF
 by_cases hl:l.length≤16
 ·rw[decide_eq_true hl,Bool.true_and,Bool.true_and]
  cases hA:l.all (okZ9 t)
  ·rw[Bool.false_and]
   rw[List.all_eq_false] at hA
   obtain ⟨x,hx,hx2⟩:=hA
   have:l.all (okI l t)=false:=by
    rw[List.all_eq_false]
    refine ⟨x,hx, ?_⟩
    rw[okI_parts]
    simp at hx2
    simp[hx2]
   rw[this,Bool.false_and]
  ·rw[Bool.true_and,Bool.eq_iff_iff]
   have par_at:∀(j:Nat) (hj:j < l.length),parF9 l (j:Int)=l[j].2.1:=by
    intro j hj
    unfold parF9
    rw[Int.toNat_natCast,List.getD_eq_getElem?_getD,List.getElem?_eq_getElem hj]
    rfl
   constructor
   ·intro h
    rw[Bool.and_eq_true,List.all_eq_true,List.all_eq_true] at h
    have hpn:∀a:Int,0≤a→a < l.length→noaF l (parF9 l a)=true:=by
     intro a h0 h1
     have hj:a.toNat < l.length:=by omega
     have e:a=((a.toNat:Nat):Int):=by omega
     rw[e,par_at _ hj,noa_paK hA]
     have:=h.1 _ (List.getElem_mem hj)
     rw[okI_parts,Bool.and_eq_true] at this
     exact this.2
    have hpr:∀a:Int,0≤a→a < l.length→ -1≤parF9 l a∧parF9 l a < l.length:=by
     intro a h0 h1
     have:=hpn a h0 h1
     simp only[noaF,Bool.and_eq_true,decide_eq_true_eq] at this
     exact this.1
    rw[List.all_eq_true]
    intro j hj
    rw[List.mem_range] at hj
    have hc:=h.2 _ (List.getElem_mem hj)
    rw[←par_at j hj] at hc
    have hc2:chnF l 18 (j:Int)=true:=by
     rw[chnF,Bool.or_eq_true]
     exact Or.inr hc
    have hc3:=chn_enough hpr 18 (j:Int) (by omega) (by omega) hc2
    obtain ⟨n,hn⟩:∃n,l.length=n+1:=⟨l.length - 1,by omega⟩
    have hg:=chn_gr hpn n (j:Int) (by omega) (by omega) (by
     rw[hn,chnF,Bool.or_eq_true,decide_eq_true_eq] at hc3
     rcases hc3 with hc3|hc3
     ·omega
     ·exact hc3)
    rw[hn]
    exact hg
   ·intro h
    rw[List.all_eq_true] at h
    rw[Bool.and_eq_true,List.all_eq_true,List.all_eq_true]
    constructor
    ·intro x hx
     obtain ⟨j,hj,rfl⟩:=List.getElem_of_mem hx
     have hg:=h j (List.mem_range.2 hj)
     obtain ⟨n,hn⟩:∃n,l.length=n+1:=⟨l.length - 1,by omega⟩
     rw[hn] at hg
     have:=gr_noa hg
     rw[par_at j hj,noa_paK hA] at this
     rw[okI_parts,this,List.all_eq_true.1 hA _ (List.getElem_mem hj)]
     rfl
    ·intro x hx
     obtain ⟨j,hj,rfl⟩:=List.getElem_of_mem hx
     have hg:=h j (List.mem_range.2 hj)
     obtain ⟨n,hn⟩:∃n,l.length=n+1:=⟨l.length - 1,by omega⟩
     rw[hn] at hg
     have:=gr_chn l n _ hg
     rw[par_at j hj] at this
     exact chn_le l n 17 _ (by omega) this
 ·rw[decide_eq_false hl,Bool.false_and,Bool.false_and]
set_option maxHeartbeats 1000000 in
set_option maxRecDepth 100000 in
theorem w_slix47 (s:ByteArray) (w:World):
  Calls Tryz.prog 276 #[.string s, .string ⟨#[47]⟩] w fun e w'=>∃i,e= .returned (.int .i64 i)∧AtB (L s) 47 i∧w'=w:=by
 go_enter Tryz.func276,Tryz.ntmps276
 go_wp2_with (go_at_call 294;refine (w_slib s 47 _ (by decide) (by decide)).mono ?_;rintro e w1 ⟨i,rfl,hi,rfl⟩)
 ·have h:([47]==s.toList)=true:=by assumption
  go_ret
  have e:s.data.toList=[47]:=by rw[←ByteArray.toList_eq];exact (beq_iff_eq.1 h).symm
  refine ⟨_,rfl,Or.inr ⟨0,rfl, ?_, ?_,fun x hx=>by simp at hx⟩,rfl⟩
  ·simp[L,e]
  ·simp[L,e]
 ·go_ret
  exact ⟨i,rfl,hi,rfl⟩
set_option maxHeartbeats 1000000 in
set_option maxRecDepth 100000 in
theorem w_six47 (s:ByteArray) (w:World):
  Calls Tryz.prog 239 #[.string s, .string ⟨#[47]⟩] w fun e w'=>∃i,e= .returned (.int .i64 i)∧AtB (L s) 47 i∧w'=w:=by
 go_enter Tryz.func239,Tryz.ntmps239
 go_wp2_with (go_at_call 276;refine (w_slix47 s _).mono ?_;rintro e w1 ⟨i,rfl,hi,rfl⟩)
 go_ret
 exact ⟨i,rfl,hi,rfl⟩
set_option maxHeartbeats 1000000 in
set_option maxRecDepth 100000 in
theorem w_cont47 (s:ByteArray) (w:World):
  Calls Tryz.prog 176 #[.string s, .string ⟨#[47]⟩] w fun e w'=>e= .returned (.bool (!((L s).all (fun c=>decide (¬c=47)))))∧w'=w:=by
 go_enter Tryz.func176,Tryz.ntmps176
 go_wp2_with (go_at_call 239;refine (w_six47 s _).mono ?_;rintro e w1 ⟨i,rfl,hi,rfl⟩)
 go_ret
 refine ⟨?_,rfl⟩
 rcases hi with ⟨rfl,h2⟩|⟨k,rfl,h2,h3,h4⟩
 ·have:(L s).all (fun c=>decide (¬c=47))=true:=List.all_eq_true.2 fun x hx=>decide_eq_true (h2 x hx)
  rw[this];rfl
 ·have:(L s).all (fun c=>decide (¬c=47))=false:=by
   rw[h3];simp
  rw[this]
  have:decide ((k:Int)≥0)=true:=decide_eq_true (by omega)
  first|rw[this];rfl|simp
theorem frI_parts (x:Iz):frI x=(decide (x.1= -1)&&(decide (x.2.1= -1)&&(decide (x.2.2.1=[])&&decide (x.2.2.2=[])))):=by
 unfold frI
 obtain ⟨a,b,c,d⟩:=x
 rw[Bool.eq_iff_iff]
 simp only[decide_eq_true_eq,Bool.and_eq_true,Prod.mk.injEq]
theorem emp_dec {s:ByteArray} {l:List Int} (h:L s=l):decide (l=[])=s.toList.isEmpty:=by
 by_cases g:s=⟨#[]⟩
 ·subst g
  have e1:l=[]:=by rw[←h];decide+kernel
  rw[decide_eq_true e1]
  decide+kernel
 ·rw[emp_no g,decide_eq_false_iff_not]
  intro e
  exact g (L_nil (by rw[h];exact e))
theorem len_dec {α:Type} [DecidableEq α] (l:List α) (n:Nat) (h:l.length=n):decide (l=[])=((n:Int)==0):=by
 subst h
 cases l with
 |nil=>rfl
 |cons a r=>
  have:((((a::r).length:Nat):Int)==0)=false:=by rw[beq_eq_false_iff_ne];simp;omega
  rw[this]
  simp
set_option maxHeartbeats 2000000 in
set_option maxRecDepth 100000 in
theorem w_pisfree (x:Iz) (ar:ByteArray) (vc:Value) (w:World) (e1:strOfNums x.2.2.1=ar) (hc:Rd .u32 w vc x.2.2.2) (bx:bytesL x.2.2.1):
  Calls Tryz.prog 109 #[.agg #[.int .i64 x.1, .int .i64 x.2.1, .string ar,vc]] w fun e w'=>e= .returned (.bool (frI x))∧Below w.heap.size w w':=by
 rw[frI_parts]
 obtain ⟨x1,x2,x3,x4⟩:=x
 simp only at e1 hc bx ⊢
 have hL:L ar=x3:=by rw[←e1];exact LB_nums _ bx
 rw[emp_dec hL]
 have hla:=rd_len hc uU (P:=Tryz.prog)
 obtain ⟨ca,cq,rfl⟩:=rd_slice hc
 obtain ⟨n4,hn4⟩:∃n,x4.length=n:=⟨_,rfl⟩
 rw[len_dec x4 n4 hn4]
 rw[hn4] at hla ⊢
 have bw:=box_below w (.cells #[.int .i64 x1, .int .i64 x2, .string ar, .slice ca n4 cq] 62)
 have st:=stands_new w #[.int .i64 x1, .int .i64 x2, .string ar, .slice ca n4 cq] 62
 have f0:=st.cell 0 _ rfl
 have f1:=st.cell 1 _ rfl
 have f2:=st.cell 2 _ rfl
 have f3:=st.cell 3 _ rfl
 clear hn4 hL e1 bx st hc
 by_cases h1:x1= -1
 ·have q1:(x1== -1)=true:=by simpa using h1
  rw[decide_eq_true h1,Bool.true_and]
  clear h1
  by_cases h2:x2= -1
  ·have q2:(x2== -1)=true:=by simpa using h2
   rw[decide_eq_true h2,Bool.true_and]
   clear h2
   cases q3:ar.toList.isEmpty
   ·rw[Bool.false_and]
    go_enter Tryz.func109,Tryz.ntmps109
    go_wp2_with fail
    go_ret
    exact ⟨rfl,bw⟩
   ·rw[Bool.true_and]
    go_enter Tryz.func109,Tryz.ntmps109
    go_wp2_with fail
    go_ret
    exact ⟨rfl,bw⟩
  ·have q2:(x2== -1)=false:=by simpa using h2
   rw[decide_eq_false h2,Bool.false_and]
   clear h2
   go_enter Tryz.func109,Tryz.ntmps109
   go_wp2_with fail
   go_ret
   exact ⟨rfl,bw⟩
 ·have q1:(x1== -1)=false:=by simpa using h1
  rw[decide_eq_false h1,Bool.false_and]
  clear h1
  go_enter Tryz.func109,Tryz.ntmps109
  go_wp2_with fail
  go_ret
  exact ⟨rfl,bw⟩
theorem no_slash (l:List Int):l.all (fun c=>decide (¬c=47))=decide (¬(47:Int)∈l):=by
 rw[Bool.eq_iff_iff,List.all_eq_true,decide_eq_true_eq]
 constructor
 ·intro h g
  have:=h 47 g
  simp at this
 ·intro h x hx
  rw[decide_eq_true_eq]
  intro e
  exact h (by rw[←e];exact hx)
set_option maxHeartbeats 2000000 in
set_option maxRecDepth 100000 in
theorem w_pisalive (x:Iz) (ar:ByteArray) (vc vt:Value) (t:List Nd) (w:World) (e1:strOfNums x.2.2.1=ar) (hc:Rd .u32 w vc x.2.2.2) (bx:bytesL x.2.2.1) (ht:RdT w vt t):
  Calls Tryz.prog 110 #[.agg #[.int .i64 x.1, .int .i64 x.2.1, .string ar,vc],vt] w fun e w'=>e= .returned (.bool (alI t x))∧Below w.heap.size w w':=by
 obtain ⟨R,hR⟩:∃R,alI t x=R:=⟨_,rfl⟩
 rw[hR]
 unfold alI at hR
 obtain ⟨x1,x2,x3,x4⟩:=x
 simp only at e1 hc bx hR ⊢
 have hL:L ar=x3:=by rw[←e1];exact LB_nums _ bx
 have hsz:(x3.length:Int)=ar.size:=by rw[←hL,L_len]
 have hla:=rd_len hc uU (P:=Tryz.prog)
 have hlt:=slr_len ht uN (P:=Tryz.prog)
 have cC:=fun W=>w_cont47 ar W
 rw[hL,no_slash] at cC
 obtain ⟨S,hS⟩:∃S,decide (¬(47:Int)∈x3)=S:=⟨_,rfl⟩
 rw[hS] at hR cC
 obtain ⟨ca,cq,rfl⟩:=rd_slice hc
 obtain ⟨n4,hn4⟩:∃n,x4.length=n:=⟨_,rfl⟩
 rw[hn4] at hla hR ⊢
 have bw:=box_below w (.cells #[.int .i64 x1, .int .i64 x2, .string ar, .slice ca n4 cq] 62)
 have st:=stands_new w #[.int .i64 x1, .int .i64 x2, .string ar, .slice ca n4 cq] 62
 have f0:=st.cell 0 _ rfl
 have f2:=st.cell 2 _ rfl
 have f3:=st.cell 3 _ rfl
 have HT:=hid ht
 clear hn4 hL e1 bx st hc ht hS
 by_cases h0:x1 < 0
 ·have q0:decide (x1 < 0)=true:=decide_eq_true h0
  have hF:R=false:=by rw[←hR,decide_eq_false (by omega),Bool.false_and]
  subst hF
  clear hR HT
  go_enter Tryz.func110,Tryz.ntmps110
  go_wp2_with fail
  go_quiet (fail)
  go_wp2_with fail
  go_ret
  exact ⟨rfl,below_drewN bw _⟩
 ·have q0:decide (x1 < 0)=false:=decide_eq_false h0
  by_cases h1:(t.length:Int)≤x1
  ·have q1:decide ((t.length:Int)≤x1)=true:=decide_eq_true h1
   have hF:R=false:=by rw[←hR,decide_eq_false (by omega),Bool.false_and]
   subst hF
   clear hR HT
   go_enter Tryz.func110,Tryz.ntmps110
   go_wp2_with fail
   go_quiet (fail)
   go_wp2_with fail
   go_ret
   exact ⟨rfl,below_drewN bw _⟩
  ·have q1:decide ((t.length:Int)≤x1)=false:=decide_eq_false h1
   obtain ⟨j,rfl⟩:∃j:Nat,x1=(j:Int):=⟨x1.toNat,by omega⟩
   have hj:j < t.length:=by omega
   have hjt:(j:Int) < (t.length:Int):=by omega
   obtain ⟨bn,on,nn,vu,vp,vc2,rn,fn0,fn1,fn2,fn3,fn4,en,hun,hpn,hcn⟩:=nod_at (RdT.below HT.out bw) j hj
   have hlc:=rd_len hcn uU (P:=Tryz.prog)
   obtain ⟨na,nq,rfl⟩:=rd_slice hcn
   rw[decide_eq_true (by omega),Bool.true_and,Int.toNat_natCast,List.getD_eq_getElem?_getD,List.getElem?_eq_getElem hj,Option.getD_some] at hR
   obtain ⟨k4,hk4⟩:∃k,t[j].2.2.2.2.length=k:=⟨_,rfl⟩
   rw[hk4] at hR hlc fn4
   clear en hun hpn hcn hk4 HT
   by_cases h2:n4=k4
   ·have q2:((n4:Int) !=(k4:Int))=false:=by simp[h2]
    rw[decide_eq_true h2,Bool.true_and] at hR
    have f2d:=fun n=>below_cell (below_drewN (Below.refl _ (w.alloc (.cells #[.int .i64 (j:Int), .int .i64 x2, .string ar, .slice ca n4 cq] 62))) n) f2
    by_cases h3:(ar.size:Int)≤256
    ·have q3:decide ((ar.size:Int)≤256)=true:=decide_eq_true h3
     have hF:R=S:=by rw[←hR,decide_eq_true (by omega),Bool.true_and]
     subst hF
     clear hR h2 hsz
     go_enter Tryz.func110,Tryz.ntmps110
     go_wp2_with fail
     go_quiet (fail)
     go_wp2_with (go_at_call 176;refine (cC _).mono ?_;rintro e w1 ⟨rfl,hw1⟩;obtain rfl:=hw1.symm)
     go_ret
     exact ⟨by simp,below_drewN bw _⟩
    ·have q3:decide ((ar.size:Int)≤256)=false:=decide_eq_false h3
     have hF:R=false:=by rw[←hR,decide_eq_false (by omega),Bool.false_and]
     subst hF
     clear hR h2 hsz
     go_enter Tryz.func110,Tryz.ntmps110
     go_wp2_with fail
     go_quiet (fail)
     go_wp2_with fail
     go_ret
     exact ⟨rfl,below_drewN bw _⟩
   ·have q2:((n4:Int) !=(k4:Int))=true:=by simpa using (by omega:¬(n4:Int)=(k4:Int))
    have hF:R=false:=by rw[←hR,decide_eq_false h2,Bool.false_and]
    subst hF
    clear hR h2
    go_enter Tryz.func110,Tryz.ntmps110
    go_wp2_with fail
    go_quiet (fail)
    go_wp2_with fail
    go_ret
    exact ⟨rfl,below_drewN bw _⟩
set_option maxHeartbeats 1000000 in
set_option maxRecDepth 100000 in
theorem w_pnoal (v:Value) (l:List Iz) (p:Int) (w:World) (h:RdI w v l):
  Calls Tryz.prog 75 #[v, .int .i64 p] w fun e w'=>e= .returned (.bool (noaF l p))∧w'=w:=by
 have hla:=slr_len h uI (P:=Tryz.prog)
 have cb:=fun W=>w_pnob p l.length W
 obtain ⟨R,hR⟩:∃R,noaF l p=R:=⟨_,rfl⟩
 rw[hR]
 unfold noaF at hR
 by_cases h0: -1≤p∧p < (l.length:Int)
 ·simp only[decide_eq_true h0] at cb
  rw[decide_eq_true h0,Bool.true_and] at hR
  by_cases h1:p= -1
  ·have q1:(p== -1)=true:=by simpa using h1
   rw[decide_eq_true h1,Bool.true_or] at hR
   subst hR
   clear h1 h0
   go_enter Tryz.func75,Tryz.ntmps75
   go_wp2_with (go_at_call 71;refine (cb _).mono ?_;rintro e w1 ⟨rfl,hw1⟩;obtain rfl:=hw1.symm)
   go_ret
   exact ⟨rfl,rfl⟩
  ·obtain ⟨j,rfl⟩:∃j:Nat,p=(j:Int):=⟨p.toNat,by omega⟩
   have hj:j < l.length:=by omega
   have hj2:(j:Int) < l.length:=by omega
   obtain ⟨b1,o1,ar,vc,r1,f0,f1,f2,f3,e1,hc⟩:=ins_at h j hj
   rw[decide_eq_false h1,Bool.false_or,Int.toNat_natCast,List.getD_eq_getElem?_getD,List.getElem?_eq_getElem hj,Option.getD_some] at hR
   have q1:((j:Int)== -1)=false:=by rw[beq_eq_false_iff_ne];omega
   obtain ⟨X,hX⟩:∃X,l[j].1=X:=⟨_,rfl⟩
   rw[hX] at f0 hR
   have hE:R=(X != -1):=by
    rw[←hR,Bool.eq_iff_iff,decide_eq_true_eq,bne_iff_ne]
   subst hE
   clear h1 h0 hX hR e1 hc
   go_enter Tryz.func75,Tryz.ntmps75
   go_wp2_with (go_at_call 71;refine (cb _).mono ?_;rintro e w1 ⟨rfl,hw1⟩;obtain rfl:=hw1.symm)
   go_ret
   exact ⟨rfl,rfl⟩
 ·simp only[decide_eq_false h0] at cb
  rw[decide_eq_false h0,Bool.false_and] at hR
  subst hR
  clear h0
  go_enter Tryz.func75,Tryz.ntmps75
  go_wp2_with (go_at_call 71;refine (cb _).mono ?_;rintro e w1 ⟨rfl,hw1⟩;obtain rfl:=hw1.symm)
  go_ret
  exact ⟨rfl,rfl⟩
set_option maxHeartbeats 2000000 in
set_option maxRecDepth 100000 in
theorem w_pground (v:Value) (l:List Iz) (i:Nat) (w:World) (h:RdI w v l) (hi:i < l.length):
  Calls Tryz.prog 111 #[v, .int .i64 i] w fun e w'=>e= .returned (.bool (grF l l.length i))∧w'=w:=by
 have hla:=slr_len h uI (P:=Tryz.prog)
 have hm:=slr_max h
 unfold maxLen at hm
 obtain ⟨R,hR⟩:∃R,grF l l.length i=R:=⟨_,rfl⟩
 rw[hR]
 have HR:=hid hR
 clear hR
 go_enter Tryz.func111,Tryz.ntmps111
 go_wp2_with fail
 go_loopw [1,7] (fun A I wx=>∃(a k:Nat),(k:Int)≤l.length∧A= .int .i64 a∧I= .int .i64 k∧(a:Int) < l.length∧Hid (grF l (l.length - k) a=R)∧wx=w) (fun A I _=>(l.length - intOf I).toNat)
 case atStart=>exact ⟨i,0,by omega,rfl,rfl,by omega,HR,rfl⟩
 case round=>
  obtain ⟨a,k,hk,rfl,rfl,ha,ht,hw⟩:=hrel
  obtain rfl:=hw.symm
  by_cases hlt:(k:Int) < l.length
  ·have hal:a < l.length:=by omega
   obtain ⟨b1,o1,ar,vc,r1,f0,f1,f2,f3,e1,hc⟩:=ins_at h a hal
   obtain ⟨f,hf⟩:∃f,l.length - k=f+1:=⟨l.length - k - 1,by omega⟩
   have hk1:l.length - (k+1)=f:=by omega
   have ht1:=ht.out
   rw[hf,grF] at ht1
   have hp:parF9 l (a:Int)=l[a].2.1:=by
    unfold parF9
    rw[Int.toNat_natCast,List.getD_eq_getElem?_getD,List.getElem?_eq_getElem hal]
    rfl
   rw[hp] at ht1
   obtain ⟨P,hP⟩:∃P,l[a].2.1=P:=⟨_,rfl⟩
   rw[hP] at ht1 f1
   have cn:=fun W (g:W=w)=>w_pnoal v l P W (by rw[g];exact h)
   cases hn:noaF l P
   ·rw[hn,Bool.false_and] at ht1
    simp only[hn] at cn
    subst ht1
    clear ht hn hP hp hf hk1 HR e1 hc
    go_wp2_with (go_at_call 75;refine (cn _ rfl).mono ?_;rintro e w1 ⟨rfl,hw1⟩;obtain rfl:=hw1.symm)
    go_ret
    exact ⟨rfl,rfl⟩
   ·rw[hn,Bool.true_and] at ht1
    simp only[hn] at cn
    have hr: -1≤P∧P < (l.length:Int):=by
     simp only[noaF,Bool.and_eq_true,decide_eq_true_eq] at hn
     exact hn.1
    by_cases h1:P= -1
    ·have q1:(P== -1)=true:=by simpa using h1
     rw[decide_eq_true h1,Bool.true_or] at ht1
     subst ht1
     clear ht hn hP hp hf hk1 HR e1 hc h1
     go_wp2_with (go_at_call 75;refine (cn _ rfl).mono ?_;rintro e w1 ⟨rfl,hw1⟩;obtain rfl:=hw1.symm)
     go_ret
     exact ⟨rfl,rfl⟩
    ·have q1:(P== -1)=false:=by simpa using h1
     rw[decide_eq_false h1,Bool.false_or] at ht1
     obtain ⟨j,rfl⟩:∃j:Nat,P=(j:Int):=⟨P.toNat,by omega⟩
     have ht2:Hid (grF l (l.length - (k+1)) (j:Int)=R):=by show _=_;rw[hk1];exact ht1
     have hjl:(j:Int) < l.length:=hr.2
     clear ht hn hP hp hf hk1 HR e1 hc h1 ht1 hr
     go_wp2_with (go_at_call 75;refine (cn _ rfl).mono ?_;rintro e w1 ⟨rfl,hw1⟩;obtain rfl:=hw1.symm)
     go_roundw
     case rel=>exact ⟨j,k+1,by omega,rfl,by go_num,hjl,ht2,trivial⟩
     case measure=>simp[intOf];omega
  ·have hE:R=false:=by
    rw[←ht.out,show l.length - k=0 by omega]
    rfl
   subst hE
   clear ht HR
   go_wp2_with fail
   go_ret
   exact ⟨rfl,rfl⟩
theorem inp_len {l:List Iz} {t:List Nd} (h:¬l.length≤16):insF l t=false:=by
 rw[insF_as]
 unfold inpF
 rw[decide_eq_false h,Bool.false_and]
theorem inp_bad {l:List Iz} {t:List Nd} {k:Nat} (hk:k < l.length) (h:okZ9 t l[k]=false):insF l t=false:=by
 rw[insF_as]
 unfold inpF
 have:l.all (okZ9 t)=false:=List.all_eq_false.2 ⟨_,List.getElem_mem hk,by rw[h];decide⟩
 rw[this,Bool.false_and,Bool.and_false]
theorem inp_gr {l:List Iz} {t:List Nd} {k:Nat} (hk:k < l.length) (h:grF l l.length k=false):insF l t=false:=by
 rw[insF_as]
 unfold inpF
 have:(List.range l.length).all (fun (j:Nat)=>grF l l.length (j:Int))=false:=List.all_eq_false.2 ⟨k,List.mem_range.2 hk,by rw[h];decide⟩
 rw[this,Bool.and_false,Bool.and_false]
theorem inp_yes {l:List Iz} {t:List Nd} (h0:l.length≤16) (h1:∀k (hk:k < l.length),okZ9 t l[k]=true) (h2:∀k,k < l.length→grF l l.length (k:Nat)=true):insF l t=true:=by
 rw[insF_as]
 unfold inpF
 have e1:l.all (okZ9 t)=true:=List.all_eq_true.2 fun x hx=>by
  obtain ⟨k,hk,rfl⟩:=List.getElem_of_mem hx
  exact h1 k hk
 have e2:(List.range l.length).all (fun (j:Nat)=>grF l l.length (j:Int))=true:=List.all_eq_true.2 fun j hj=>h2 j (List.mem_range.1 hj)
 rw[decide_eq_true h0,e1,e2]
 rfl
set_option maxHeartbeats 4000000 in
set_option maxRecDepth 100000 in
theorem w_pinsts (v vt:Value) (l:List Iz) (t:List Nd) (w:World) (h:RdI w v l) (ht:RdT w vt t) (bx:∀x∈l,bytesL x.2.2.1):
  Calls Tryz.prog 74 #[v,vt] w fun e w'=>e= .returned (.bool (insF l t))∧Below w.heap.size w w':=by
 have hla:=slr_len h uI (P:=Tryz.prog)
 have hm:=slr_max h
 unfold maxLen at hm
 by_cases h16:(16:Int) < l.length
 ·have hf:=hid (inp_len (l:=l) (t:=t) (by omega))
  go_enter Tryz.func74,Tryz.ntmps74
  go_wp2_with fail
  go_ret
  exact ⟨ret_b hf.out.symm,Below.refl _ _⟩
 ·have hlen:Hid (l.length≤16):=by show _≤_;omega
  go_enter Tryz.func74,Tryz.ntmps74
  go_wp2_with fail
  go_loopw [13] (fun I wx=>∃k:Nat,(k:Int)≤l.length∧I= .int .i64 k∧Hid (∀j (g:j < k) (hj:j < l.length),okZ9 t l[j]=true)∧Below w.heap.size w wx) (fun I _=>(l.length - intOf I).toNat)
  case atStart=>exact ⟨0,by omega,rfl,hid (fun j g=>by omega),Below.refl _ _⟩
  case round=>
   obtain ⟨k,hk,rfl,hok,hb⟩:=hrel
   by_cases hlt:(k:Int) < l.length
   ·have hkl:k < l.length:=by omega
    obtain ⟨b1,o1,ar,vc,r1,f0,f1,f2,f3,e1,hc⟩:=ins_at (RdI.below h hb) k hkl
    have bk:=bx _ (List.getElem_mem hkl)
    have cf:=fun W (g:Below wr.heap.size wr W)=>w_pisfree l[k] ar vc W e1 (hc.below g) bk
    have ca:=fun W (g:Below wr.heap.size wr W)=>w_pisalive l[k] ar vc vt t W e1 (hc.below g) bk (ht.below (below_trans hb g))
    have bad:=fun g=>hid (inp_bad (l:=l) (t:=t) hkl g)
    have hokE:okZ9 t l[k]=(frI l[k]||alI t l[k]):=rfl
    obtain ⟨X1,hX1⟩:∃X,l[k].1=X:=⟨_,rfl⟩
    obtain ⟨X2,hX2⟩:∃X,l[k].2.1=X:=⟨_,rfl⟩
    obtain ⟨n4,hn4⟩:∃X,l[k].2.2.2.length=X:=⟨_,rfl⟩
    obtain ⟨a4,q4,rfl⟩:=rd_slice hc
    rw[hX1] at f0
    rw[hX2] at f1
    rw[hn4] at f3
    simp only[hX1,hX2,hn4] at cf ca
    have st:=stands_new wr #[.int .i64 X1, .int .i64 X2, .string ar, .slice a4 n4 q4] 62
    have hbx:=box_below wr (.cells #[.int .i64 X1, .int .i64 X2, .string ar, .slice a4 n4 q4] 62)
    have cfb:=cf _ hbx
    have HC:=hid hc
    clear hX1 hX2 hn4 cf hc e1 HC
    cases hF:frI l[k]
    ·rw[hF] at cfb hokE
     rw[Bool.false_or] at hokE
     cases hA:alI t l[k]
     ·have hf:=bad (by rw[hokE,hA])
      simp only[hA] at ca
      clear hF hA bad hok hokE
      go_wp2_with (first
       |(go_at_call 109;refine cfb.mono ?_;rintro e w1 ⟨rfl,d1⟩;have y:=st.below d1;have y0:=y.cell 0 _ rfl;have y1:=y.cell 1 _ rfl;have y2:=y.cell 2 _ rfl;have y3:=y.cell 3 _ rfl)
       |(go_at_call 110;refine (ca _ (below_trans hbx d1)).mono ?_;rintro e w2 ⟨rfl,d2⟩))
      go_ret
      exact ⟨ret_b hf.out.symm,below_trans hb (below_trans hbx (below_trans d1 d2))⟩
     ·have hok2:Hid (∀j (g:j < k+1) (hj:j < l.length),okZ9 t l[j]=true):=by
       show ∀j _ _,_
       intro j g hj
       by_cases hjk:j < k
       ·exact hok.out j hjk hj
       ·have:j=k:=by omega
        subst this
        rw[hokE,hA]
      simp only[hA] at ca
      clear hF hA bad hok hokE
      go_wp2_with (first
       |(go_at_call 109;refine cfb.mono ?_;rintro e w1 ⟨rfl,d1⟩;have y:=st.below d1;have y0:=y.cell 0 _ rfl;have y1:=y.cell 1 _ rfl;have y2:=y.cell 2 _ rfl;have y3:=y.cell 3 _ rfl)
       |(go_at_call 110;refine (ca _ (below_trans hbx d1)).mono ?_;rintro e w2 ⟨rfl,d2⟩))
      go_roundw
      case rel=>exact ⟨k+1,by omega,by go_num,hok2,below_trans hb (below_trans hbx (below_trans d1 d2))⟩
      case measure=>simp[intOf];omega
    ·rw[hF] at cfb hokE
     have hok2:Hid (∀j (g:j < k+1) (hj:j < l.length),okZ9 t l[j]=true):=by
      show ∀j _ _,_
      intro j g hj
      by_cases hjk:j < k
      ·exact hok.out j hjk hj
      ·have:j=k:=by omega
       subst this
       rw[hokE,Bool.true_or]
     clear hF bad hok hokE ca
     go_wp2_with (first
      |(go_at_call 109;refine cfb.mono ?_;rintro e w1 ⟨rfl,d1⟩;have y:=st.below d1;have y0:=y.cell 0 _ rfl;have y1:=y.cell 1 _ rfl;have y2:=y.cell 2 _ rfl;have y3:=y.cell 3 _ rfl))
     go_roundw
     case rel=>exact ⟨k+1,by omega,by go_num,hok2,below_trans hb (below_trans hbx d1)⟩
     case measure=>simp[intOf];omega
   ·have hok1:Hid (∀j (hj:j < l.length),okZ9 t l[j]=true):=fun j hj=>hok.out j (by omega) hj
    obtain ⟨w0,hw0⟩:∃w0,w0=wr:=⟨_,rfl⟩
    subst hw0
    have hb0:=hb
    clear hok hb
    go_wp2_with fail
    go_loopw [29] (fun I wx=>∃k:Nat,(k:Int)≤l.length∧I= .int .i64 k∧Hid (∀j (g:j < k) (hj:j < l.length),grF l l.length (j:Nat)=true)∧Below w.heap.size w wx) (fun I _=>(l.length - intOf I).toNat)
    case atStart=>exact ⟨0,by omega,rfl,hid (fun j g=>by omega),hb0⟩
    case round=>
     obtain ⟨i,hi,rfl,hoi,hb⟩:=hrel
     by_cases hlti:(i:Int) < l.length
     ·have hil:i < l.length:=by omega
      have cg:=w_pground v l i wr (RdI.below h hb) hil
      cases hG:grF l l.length (i:Nat)
      ·have hf:=hid (inp_gr (t:=t) hil hG)
       rw[hG] at cg
       clear hG hoi
       go_wp2_with (go_at_call 111;refine cg.mono ?_;rintro e w1 ⟨rfl,hw1⟩;obtain rfl:=hw1.symm)
       go_ret
       exact ⟨ret_b hf.out.symm,hb⟩
      ·have hoi2:Hid (∀j (g:j < i+1) (hj:j < l.length),grF l l.length (j:Nat)=true):=by
        show ∀j _ _,_
        intro j g hj
        by_cases hjk:j < i
        ·exact hoi.out j hjk hj
        ·have:j=i:=by omega
         subst this
         exact hG
       rw[hG] at cg
       clear hG hoi
       go_wp2_with (go_at_call 111;refine cg.mono ?_;rintro e w1 ⟨rfl,hw1⟩;obtain rfl:=hw1.symm)
       go_roundw
       case rel=>exact ⟨i+1,by omega,by go_num,hoi2,hb⟩
       case measure=>simp[intOf];omega
     ·have hf:=hid (inp_yes (t:=t) hlen.out hok1.out (fun j hj=>hoi.out j (by omega) hj))
      clear hoi
      go_wp2_with fail
      go_ret
      exact ⟨ret_b hf.out.symm,hb⟩
theorem uA9:Tryz.prog.underlying 23=some (.slice (Tryz.prog.elem 23)):=by kernel_rfl
theorem gW.ok {x:Wd} (h:gW x):okV x:=⟨h.byt,h.len,fun y hy=>(h.ops y hy).2,h.num⟩
theorem mch_cells9 {q:World} {b:Nat} {v:Mv} {m:Mc} {o:ByteArray} {T:TypeId} (h:Stands q b (v.cs m o) T):
  q.cell? ⟨b,0,none⟩=some v.vs∧q.cell? ⟨b,1,none⟩=some v.vm∧q.cell? ⟨b,2,none⟩=some v.vw∧q.cell? ⟨b,3,none⟩=some v.vc∧q.cell? ⟨b,4,none⟩=some (.int .u32 m.base)∧q.cell? ⟨b,5,none⟩=some v.vt∧q.cell? ⟨b,6,none⟩=some (.int .i64 m.node)∧q.cell? ⟨b,7,none⟩=some v.vi∧q.cell? ⟨b,8,none⟩=some (.int .i64 m.self)∧q.cell? ⟨b,9,none⟩=some (.string o):=
 ⟨h.cell 0 _ rfl,h.cell 1 _ rfl,h.cell 2 _ rfl,h.cell 3 _ rfl,h.cell 4 _ rfl,h.cell 5 _ rfl,h.cell 6 _ rfl,h.cell 7 _ rfl,h.cell 8 _ rfl,h.cell 9 _ rfl⟩
theorem frm_as (m:Mc):frmM m=(decide (m.stack.length≤64)&&(decide (m.mem.length≤4096)&&(decide (m.out.length≤1024)&&(decide (2≤m.base)&&(decide (m.base≤36)&&(frmT m.tree&&(decide (-1≤m.node∧m.node < m.tree.length)&&(wdsF m.words m.tree&&(cdsF m.codes m.words.length&&(insF m.insts m.tree&&noaF m.insts m.self)))))))))):=by
 have hI:(insF m.insts m.tree&&(decide (m.self= -1)||alvF m.insts m.self))=(insF m.insts m.tree&&noaF m.insts m.self):=by
  cases h:insF m.insts m.tree
  ·rfl
  ·rw[Bool.true_and,Bool.true_and]
   rw[insF_as] at h
   unfold inpF at h
   simp only[Bool.and_eq_true] at h
   exact (noa_paK h.2.1 m.self).symm
 unfold frmM
 rw[Bool.eq_iff_iff]
 simp only[Bool.and_eq_true,decide_eq_true_eq]
 have hI2:(insF m.insts m.tree=true∧(decide (m.self= -1)||alvF m.insts m.self)=true)↔(insF m.insts m.tree=true∧noaF m.insts m.self=true):=by
  rw[←Bool.and_eq_true,←Bool.and_eq_true,hI]
 constructor
 ·rintro ⟨⟨a1,a2,a3,a4,a5⟩,a6,a7,a8,a9,a10,a11⟩
  have:=hI2.1 ⟨a8,a9⟩
  exact ⟨a1,a2,a5,a3,a4,a6,a7,a10,a11,this.1,this.2⟩
 ·rintro ⟨a1,a2,a5,a3,a4,a6,a7,a10,a11,a8,a9⟩
  have:=hI2.2 ⟨a8,a9⟩
  exact ⟨⟨a1,a2,a3,a4,a5⟩,a6,a7,this.1,this.2,a10,a11⟩
set_option maxHeartbeats 8000000 in
set_option maxRecDepth 100000 in
theorem w_p9formed' (m:Mc) (v:Mv) (o:ByteArray) (w:World) (h:RdM w v m o) (g:gM m):
  Calls Tryz.prog 52 #[.agg (v.cs m o)] w fun e w'=>e= .returned (.bool (frmM m))∧Below w.heap.size w w':=by
 have st:=stands_new w (v.cs m o) 30
 have bw:=box_below w (.cells (v.cs m o) 30)
 have K:=fun q (g:Below (w.alloc (.cells (v.cs m o) 30)).heap.size (w.alloc (.cells (v.cs m o) 30)) q)=>mch_cells9 (st.below g)
 have l1:=rd_len h.stack uU (P:=Tryz.prog)
 have l2:=rd_len h.mem uA9 (P:=Tryz.prog)
 have l3:=slr_len h.words uW (P:=Tryz.prog)
 have l5:=slr_len h.tree uN (P:=Tryz.prog)
 have hos:(m.out.length:Int)=o.size:=by rw[←L_len,show L o=m.out by rw[←h.out];exact LB_nums _ g.out]
 have ct:=fun W (b:Below w.heap.size w W)=>w_p8formed' v.vt m.tree W (h.tree.below b) (fun x hx=>(g.tree x hx).1) (fun x hx=>(g.tree x hx).2.1)
 have cb:=fun W=>w_pnob m.node m.tree.length W
 have cw:=fun W (b:Below w.heap.size w W)=>w_pwords v.vw v.vt m.words m.tree W (h.words.below b) (h.tree.below b) (fun x hx=>(g.words x hx).ok)
 have cc:=fun W (b:Below w.heap.size w W)=>w_pcodes v.vc m.codes m.words.length W (h.codes.below b)
 have ci:=fun W (b:Below w.heap.size w W)=>w_pinsts v.vi v.vt m.insts m.tree W (h.insts.below b) (h.tree.below b) (fun x hx=>(g.insts x hx).byt)
 have ca:=fun W (b:Below w.heap.size w W)=>w_pnoal v.vi m.insts m.self W (h.insts.below b)
 obtain ⟨R,hR⟩:∃R,frmM m=R:=⟨_,rfl⟩
 rw[hR]
 rw[frm_as] at hR
 have gb:=g.base
 obtain ⟨BA,hBA⟩:∃X,m.base=X:=⟨_,rfl⟩
 obtain ⟨ND,hND⟩:∃X,m.node=X:=⟨_,rfl⟩
 obtain ⟨SE,hSE⟩:∃X,m.self=X:=⟨_,rfl⟩
 obtain ⟨U,hU⟩:∃X,v.cs m o=X:=⟨_,rfl⟩
 simp only[hBA,hND,hSE,hU] at hR ca cb K bw gb ⊢
 obtain ⟨FT,hFT⟩:∃X,frmT m.tree=X:=⟨_,rfl⟩
 obtain ⟨FN,hFN⟩:∃X,decide (-1≤ND∧ND < (m.tree.length:Int))=X:=⟨_,rfl⟩
 obtain ⟨FW,hFW⟩:∃X,wdsF m.words m.tree=X:=⟨_,rfl⟩
 obtain ⟨FC,hFC⟩:∃X,cdsF m.codes m.words.length=X:=⟨_,rfl⟩
 obtain ⟨FI,hFI⟩:∃X,insF m.insts m.tree=X:=⟨_,rfl⟩
 obtain ⟨FA,hFA⟩:∃X,noaF m.insts SE=X:=⟨_,rfl⟩
 simp only[hFT,hFN,hFW,hFC,hFI,hFA] at hR ct cb cw cc ci ca
 obtain ⟨f0,f1,f2,f3,f4,f5,f6,f7,f8,f9⟩:=K _ (Below.refl _ _)
 obtain ⟨n1,hn1⟩:∃n,m.stack.length=n:=⟨_,rfl⟩
 obtain ⟨n2,hn2⟩:∃n,m.mem.length=n:=⟨_,rfl⟩
 obtain ⟨n9,hn9⟩:∃n,m.out.length=n:=⟨_,rfl⟩
 rw[hn1] at hR l1
 rw[hn2] at hR l2
 rw[hn9] at hR hos
 clear hBA hND hSE hU hFT hFN hFW hFC hFI hFA st hn1 hn2 hn9
 by_cases c_stack:(64:Int) < n1
 ·have q_stack:decide ((64:Int) < n1)=true:=decide_eq_true c_stack
  have hF:R=false:=by rw[←hR,decide_eq_false (by omega:¬n1≤64),Bool.false_and]
  subst hF
  clear hR
  go_enter Tryz.func52,Tryz.ntmps52
  go_wp2_with fail
  go_ret
  exact ⟨rfl,bw⟩
 ·have q_stack:decide ((64:Int) < n1)=false:=decide_eq_false c_stack
  rw[decide_eq_true (by omega:n1≤64),Bool.true_and] at hR
  by_cases c_mem:(4096:Int) < n2
  ·have q_mem:decide ((4096:Int) < n2)=true:=decide_eq_true c_mem
   have hF:R=false:=by rw[←hR,decide_eq_false (by omega:¬n2≤4096),Bool.false_and]
   subst hF
   clear hR
   go_enter Tryz.func52,Tryz.ntmps52
   go_wp2_with fail
   go_ret
   exact ⟨rfl,bw⟩
  ·have q_mem:decide ((4096:Int) < n2)=false:=decide_eq_false c_mem
   rw[decide_eq_true (by omega:n2≤4096),Bool.true_and] at hR
   by_cases c_out:(1024:Int) < o.size
   ·have q_out:decide ((1024:Int) < o.size)=true:=decide_eq_true c_out
    have hF:R=false:=by rw[←hR,decide_eq_false (by omega:¬n9≤1024),Bool.false_and]
    subst hF
    clear hR
    go_enter Tryz.func52,Tryz.ntmps52
    go_wp2_with fail
    go_ret
    exact ⟨rfl,bw⟩
   ·have q_out:decide ((1024:Int) < o.size)=false:=decide_eq_false c_out
    rw[decide_eq_true (by omega:n9≤1024),Bool.true_and] at hR
    by_cases c_b2:BA < 2
    ·have q_b2:decide (BA < 2)=true:=decide_eq_true c_b2
     have hF:R=false:=by rw[←hR,decide_eq_false (by omega:¬2≤BA),Bool.false_and]
     subst hF
     clear hR
     go_enter Tryz.func52,Tryz.ntmps52
     go_wp2_with fail
     go_ret
     exact ⟨rfl,bw⟩
    ·have q_b2:decide (BA < 2)=false:=decide_eq_false c_b2
     rw[decide_eq_true (by omega:2≤BA),Bool.true_and] at hR
     by_cases c_b36:36 < BA
     ·have q_b36:decide (36 < BA)=true:=decide_eq_true c_b36
      have hF:R=false:=by rw[←hR,decide_eq_false (by omega:¬BA≤36),Bool.false_and]
      subst hF
      clear hR
      go_enter Tryz.func52,Tryz.ntmps52
      go_wp2_with fail
      go_ret
      exact ⟨rfl,bw⟩
     ·have q_b36:decide (36 < BA)=false:=decide_eq_false c_b36
      rw[decide_eq_true (by omega:BA≤36),Bool.true_and] at hR
      cases FT
      ·have hF:R=false:=by rw[←hR,Bool.false_and]
       subst hF
       clear hR
       go_enter Tryz.func52,Tryz.ntmps52
       go_wp2_with (first|(go_at_call 70;refine (ct _ bw).mono ?_;rintro e r1 ⟨rfl,b1⟩;obtain ⟨p0,p1,p2,p3,p4,p5,p6,p7,p8,p9⟩:=K _ b1))
       go_ret
       exact ⟨rfl,below_trans bw b1⟩
      ·rw[Bool.true_and] at hR
       cases FN
       ·have hF:R=false:=by rw[←hR,Bool.false_and]
        subst hF
        clear hR
        go_enter Tryz.func52,Tryz.ntmps52
        go_wp2_with (first|(go_at_call 70;refine (ct _ bw).mono ?_;rintro e r1 ⟨rfl,b1⟩;obtain ⟨p0,p1,p2,p3,p4,p5,p6,p7,p8,p9⟩:=K _ b1)|(go_at_call 71;refine (cb _).mono ?_;rintro e r2 ⟨rfl,hw2⟩;obtain rfl:=hw2.symm))
        go_ret
        exact ⟨rfl,below_trans bw b1⟩
       ·rw[Bool.true_and] at hR
        cases FW
        ·have hF:R=false:=by rw[←hR,Bool.false_and]
         subst hF
         clear hR
         go_enter Tryz.func52,Tryz.ntmps52
         go_wp2_with (first|(go_at_call 70;refine (ct _ bw).mono ?_;rintro e r1 ⟨rfl,b1⟩;obtain ⟨p0,p1,p2,p3,p4,p5,p6,p7,p8,p9⟩:=K _ b1)|(go_at_call 71;refine (cb _).mono ?_;rintro e r2 ⟨rfl,hw2⟩;obtain rfl:=hw2.symm)|(go_at_call 72;refine (cw _ (below_trans bw b1)).mono ?_;rintro e r3 ⟨rfl,b3⟩;have b13:=below_trans b1 b3;obtain ⟨s0,s1,s2,s3,s4,s5,s6,s7,s8,s9⟩:=K _ b13))
         go_ret
         exact ⟨rfl,below_trans bw b13⟩
        ·rw[Bool.true_and] at hR
         cases FC
         ·have hF:R=false:=by rw[←hR,Bool.false_and]
          subst hF
          clear hR
          go_enter Tryz.func52,Tryz.ntmps52
          go_wp2_with (first|(go_at_call 70;refine (ct _ bw).mono ?_;rintro e r1 ⟨rfl,b1⟩;obtain ⟨p0,p1,p2,p3,p4,p5,p6,p7,p8,p9⟩:=K _ b1)|(go_at_call 71;refine (cb _).mono ?_;rintro e r2 ⟨rfl,hw2⟩;obtain rfl:=hw2.symm)|(go_at_call 72;refine (cw _ (below_trans bw b1)).mono ?_;rintro e r3 ⟨rfl,b3⟩;have b13:=below_trans b1 b3;obtain ⟨s0,s1,s2,s3,s4,s5,s6,s7,s8,s9⟩:=K _ b13)|(go_at_call 73;refine (cc _ (below_trans bw b13)).mono ?_;rintro e r4 ⟨rfl,b4⟩;have b14:=below_trans b13 b4;obtain ⟨t0,t1,t2,t3,t4,t5,t6,t7,t8,t9⟩:=K _ b14))
          go_ret
          exact ⟨rfl,below_trans bw b14⟩
         ·rw[Bool.true_and] at hR
          cases FI
          ·have hF:R=false:=by rw[←hR,Bool.false_and]
           subst hF
           clear hR
           go_enter Tryz.func52,Tryz.ntmps52
           go_wp2_with (first|(go_at_call 70;refine (ct _ bw).mono ?_;rintro e r1 ⟨rfl,b1⟩;obtain ⟨p0,p1,p2,p3,p4,p5,p6,p7,p8,p9⟩:=K _ b1)|(go_at_call 71;refine (cb _).mono ?_;rintro e r2 ⟨rfl,hw2⟩;obtain rfl:=hw2.symm)|(go_at_call 72;refine (cw _ (below_trans bw b1)).mono ?_;rintro e r3 ⟨rfl,b3⟩;have b13:=below_trans b1 b3;obtain ⟨s0,s1,s2,s3,s4,s5,s6,s7,s8,s9⟩:=K _ b13)|(go_at_call 73;refine (cc _ (below_trans bw b13)).mono ?_;rintro e r4 ⟨rfl,b4⟩;have b14:=below_trans b13 b4;obtain ⟨t0,t1,t2,t3,t4,t5,t6,t7,t8,t9⟩:=K _ b14)|(go_at_call 74;refine (ci _ (below_trans bw b14)).mono ?_;rintro e r5 ⟨rfl,b5⟩;have b15:=below_trans b14 b5;obtain ⟨u0,u1,u2,u3,u4,u5,u6,u7,u8,u9⟩:=K _ b15))
           go_ret
           exact ⟨rfl,below_trans bw b15⟩
          ·rw[Bool.true_and] at hR
           subst hR
           go_enter Tryz.func52,Tryz.ntmps52
           go_wp2_with (first|(go_at_call 70;refine (ct _ bw).mono ?_;rintro e r1 ⟨rfl,b1⟩;obtain ⟨p0,p1,p2,p3,p4,p5,p6,p7,p8,p9⟩:=K _ b1)|(go_at_call 71;refine (cb _).mono ?_;rintro e r2 ⟨rfl,hw2⟩;obtain rfl:=hw2.symm)|(go_at_call 72;refine (cw _ (below_trans bw b1)).mono ?_;rintro e r3 ⟨rfl,b3⟩;have b13:=below_trans b1 b3;obtain ⟨s0,s1,s2,s3,s4,s5,s6,s7,s8,s9⟩:=K _ b13)|(go_at_call 73;refine (cc _ (below_trans bw b13)).mono ?_;rintro e r4 ⟨rfl,b4⟩;have b14:=below_trans b13 b4;obtain ⟨t0,t1,t2,t3,t4,t5,t6,t7,t8,t9⟩:=K _ b14)|(go_at_call 74;refine (ci _ (below_trans bw b14)).mono ?_;rintro e r5 ⟨rfl,b5⟩;have b15:=below_trans b14 b5;obtain ⟨u0,u1,u2,u3,u4,u5,u6,u7,u8,u9⟩:=K _ b15)|(go_at_call 75;refine (ca _ (below_trans bw b15)).mono ?_;rintro e r6 ⟨rfl,hw6⟩;obtain rfl:=hw6.symm))
           go_ret
           exact ⟨rfl,below_trans bw b15⟩
theorem w_has (m:Mc) (v:Mv) (o:ByteArray) (xt:Int) (w:World) (h:RdM w v m o) (g:gM m):
  Calls Tryz.prog 39 #[.agg (v.cs m o), .int .i64 xt] w fun e w'=>e= .returned (.bool (frmM m&&(decide (0≤xt)&&decide (xt < (m.words.length:Int)))))∧Below w.heap.size w w':=by
 have l3:=slr_len h.words uW (P:=Tryz.prog)
 have cf:=fun W (b:Below w.heap.size w W)=>w_p9formed' m v o W (h.below b) g
 obtain ⟨vs,vm,vw,vc,vt,vi⟩:=v
 obtain ⟨hs,hm,hw,hc,ht,hi,ho⟩:=h
 simp only at hs hm hw hc ht hi
 obtain ⟨sa,sq,rfl⟩:=rd_slice hs
 obtain ⟨ma,mq,rfl⟩:=rd_slice hm
 obtain ⟨wa,wq,rfl⟩:=slr_slice hw
 obtain ⟨ca,cq,rfl⟩:=rd_slice hc
 obtain ⟨ta,tq,rfl⟩:=slr_slice ht
 obtain ⟨ia,iq,rfl⟩:=slr_slice hi
 simp only[Mv.cs] at cf ⊢
 have st:=stands_new w #[.slice sa m.stack.length sq, .slice ma m.mem.length mq, .slice wa m.words.length wq, .slice ca m.codes.length cq, .int .u32 m.base, .slice ta m.tree.length tq, .int .i64 m.node, .slice ia m.insts.length iq, .int .i64 m.self, .string o] 30
 have bw:=box_below w (.cells #[.slice sa m.stack.length sq, .slice ma m.mem.length mq, .slice wa m.words.length wq, .slice ca m.codes.length cq, .int .u32 m.base, .slice ta m.tree.length tq, .int .i64 m.node, .slice ia m.insts.length iq, .int .i64 m.self, .string o] 30)
 obtain ⟨R,hR⟩:∃R,frmM m=R:=⟨_,rfl⟩
 simp only[hR] at cf ⊢
 have CF:=hid cf
 have ST:=hid st
 have BW:=hid bw
 clear hs hm hw hc ht hi ho hR cf st bw
 by_cases h0:0≤xt
 ·by_cases h1:xt < (m.words.length:Int)
  ·rw[decide_eq_true h0,decide_eq_true h1]
   cases R
   ·go_enter Tryz.func39,Tryz.ntmps39
    go_wp2_with (go_at_call 52;refine (CF.out _ BW.out).mono ?_;rintro e w2 ⟨rfl,b2⟩;have y2:=(ST.out.below b2).cell 2 _ rfl;have B2:=hid b2;clear b2)
    go_ret
    exact ⟨rfl,below_trans BW.out B2.out⟩
   ·go_enter Tryz.func39,Tryz.ntmps39
    go_wp2_with (go_at_call 52;refine (CF.out _ BW.out).mono ?_;rintro e w2 ⟨rfl,b2⟩;have y2:=(ST.out.below b2).cell 2 _ rfl;have B2:=hid b2;clear b2)
    go_ret
    exact ⟨rfl,below_trans BW.out B2.out⟩
  ·rw[decide_eq_true h0,decide_eq_false h1]
   cases R
   ·go_enter Tryz.func39,Tryz.ntmps39
    go_wp2_with (go_at_call 52;refine (CF.out _ BW.out).mono ?_;rintro e w2 ⟨rfl,b2⟩;have y2:=(ST.out.below b2).cell 2 _ rfl;have B2:=hid b2;clear b2)
    go_ret
    exact ⟨rfl,below_trans BW.out B2.out⟩
   ·go_enter Tryz.func39,Tryz.ntmps39
    go_wp2_with (go_at_call 52;refine (CF.out _ BW.out).mono ?_;rintro e w2 ⟨rfl,b2⟩;have y2:=(ST.out.below b2).cell 2 _ rfl;have B2:=hid b2;clear b2)
    go_ret
    refine ⟨?_,below_trans BW.out B2.out⟩
    show Ending.returned (.bool (decide (xt < (m.words.length:Int))))=_
    rw[decide_eq_false (Int.not_lt.2 h1)]
    rfl
 ·rw[decide_eq_false h0]
  cases R
  ·go_enter Tryz.func39,Tryz.ntmps39
   go_wp2_with (go_at_call 52;refine (CF.out _ BW.out).mono ?_;rintro e w2 ⟨rfl,b2⟩;have y2:=(ST.out.below b2).cell 2 _ rfl;have B2:=hid b2;clear b2)
   go_ret
   exact ⟨rfl,below_trans BW.out B2.out⟩
  ·go_enter Tryz.func39,Tryz.ntmps39
   go_wp2_with (go_at_call 52;refine (CF.out _ BW.out).mono ?_;rintro e w2 ⟨rfl,b2⟩;have y2:=(ST.out.below b2).cell 2 _ rfl;have B2:=hid b2;clear b2)
   go_ret
   exact ⟨rfl,below_trans BW.out B2.out⟩
end Go.Proofs.YtbamcchghecpeaaGreatDoor
