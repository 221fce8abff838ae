import Derived.Test.YtlokhciaaepenaaGreatDoorB22
set_option linter.unusedVariables false
set_option linter.unusedSimpArgs false
set_option maxRecDepth 100000
namespace Go.Proofs.YtlokhciaaepenaaGreatDoor
open Go.ChangeShapes Go.WideShapes Go.ChangeAt Go.RowKit
theorem res_row4 {P:Program} {fn:Func} {p a b c:Tmp} {ty:TypeId} (h:fn.results=#[.cell p ty, .tmp a, .tmp b, .tmp c]) (tmps:Array Value) (w:World) (g:Nat) (t:TypeId) (cs:Array Value) (fr:Nat×Nat) (d:TypeDesc)
  (hp:tmps.getD p undef= .pointer (some ⟨g,0,none⟩)) (hg:w.heap[g]? =some (.cells cs t fr))
  (hu:P.underlying ty=some d) (hd:(match d with| .struct _| .array _ _=>true|_=>false)=true) (hi:(P.info? ty).map (·.size)=some cs.size):
  (results fn tmps).run P w= .ok (.tuple #[.agg cs,tmps.getD a undef,tmps.getD b undef,tmps.getD c undef]) w:=by
 have hp':tmps[p]?.getD undef= .pointer (some ⟨g,0,none⟩):=by simpa using hp
 simp[results,h,hp',asAddr,run_loadVar_row w g t ty cs fr d hg hu hd hi]
theorem ld_lt {t:List Nd} {a:Nat} {x:Sp} {k:Nat} (h:ldF t a x=some k):k < t.length:=by
 unfold ldF at h
 rw[List.findIdx?_eq_some_iff_getElem] at h
 exact h.1
theorem fin_lt {t:List Nd}:∀(l:List Sp) (a k:Nat),a < t.length→finF t l a=some k→k < t.length
 |[],a,k,ha,h=>by simp only[finF,Option.some.injEq] at h;omega
 |x::r,a,k,ha,h=>by
  simp only[finF] at h
  cases hl:ldF t a x with
  |none=>rw[hl] at h;cases h
  |some b=>rw[hl] at h;exact fin_lt r b k (ld_lt hl) h
theorem finT_lt {t:List Nd} {l:List Sp} {n:Int} (h:finT t l=(n,0)):∃j:Nat,n=j∧j < t.length:=by
 unfold finT at h
 split at h
 ·cases h
 ·rename_i hf
  have hf:frmT t=true:=by simpa using hf
  obtain ⟨g0,g1,_,_⟩:=(frm_iff t).1 hf
  cases hk:finF t l 0 with
  |none=>rw[hk] at h;cases h
  |some k=>
   rw[hk] at h
   injection h with h _
   exact ⟨k,h.symm,fin_lt l 0 k (by omega) hk⟩
theorem way_stops {t:List Nd} {l:List Sp} {S:List Sto} (h:wayOk t l S):∀s∈S,∃j:Nat,s.1=j∧j < t.length:=by
 intro s hs
 obtain ⟨i,hi,rfl⟩:=List.getElem_of_mem hs
 exact finT_lt (h.2 i (by rw[←h.1];exact hi) hi).1
theorem frm_self {m:Mc} (h:frmM m=true):m.self= -1∨alvF m.insts m.self=true:=by
 unfold frmM at h
 simp only[Bool.and_eq_true,Bool.or_eq_true,decide_eq_true_eq] at h
 exact h.2.2.2.2.1
theorem alv_at {l:List Iz} {n:Int} (h:alvF l n=true):∃i:Nat,n=i∧∃x,l[i]? =some x∧¬x.1= -1:=by
 unfold alvF at h
 simp only[Bool.and_eq_true,decide_eq_true_eq] at h
 obtain ⟨⟨h0,h1⟩,h2⟩:=h
 have hn:n.toNat < l.length:=by omega
 refine ⟨n.toNat,by omega,l[n.toNat],List.getElem?_eq_getElem hn, ?_⟩
 rw[List.getD_eq_getElem?_getD,List.getElem?_eq_getElem hn,Option.getD_some] at h2
 omega
def opBad (m:Mc) (s:List Int):Prop:=frmM m=false∨wayBad m.tree (parF s)∨∃S,wayOk m.tree (parF s).1 S∧opnS m.tree m.insts S.reverse=none
def zeroM:Array Value:=#[.slice none 0 0, .slice none 0 0, .slice none 0 0, .slice none 0 0, .int .u32 0, .slice none 0 0, .int .i64 0, .slice none 0 0, .int .i64 0, .string ⟨#[]⟩]
set_option maxHeartbeats 8000000 in
set_option maxRecDepth 100000 in
theorem w_pOpen (m:Mc) (v:Mv) (o s:ByteArray) (n:Int) (w:World) (hT:Tab w) (h:RdM w v m o) (g:gM m) (hs:s.size≤maxLen) (hn0:0≤n) (hn1:n≤100000) (hno:∀x∈m.words,¬x.1=[111,112,101,110]):
  Calls Tryz.prog 5 #[.agg (v.cs m o), .string s, .int .i64 n] w fun e w'=>((∃E,¬E=0∧opBad m (L s)∧e= .returned (.tuple #[.agg zeroM, .int .u32 0, .int .i64 0, .int .i64 E]))∨∃S l2 ch v',frmM m=true∧(parF (L s)).2=0∧¬(parF (L s)).1=[]∧wayOk m.tree (parF (L s)).1 S∧opnS m.tree m.insts S.reverse=some (l2,ch)∧e= .returned (.tuple #[.agg (v'.cs {m with insts:=l2} o), .int .u32 (hdI ch+1), .int .i64 n, .int .i64 0])∧OwM w.heap.size w' v' {m with insts:=l2} o)∧Below w.heap.size w w':=by
 obtain ⟨vs,vm,vw,vc,vt,vi⟩:=v
 have hh:=h
 obtain ⟨hs0,hm,hw,hc,ht,hi,ho⟩:=hh
 simp only at hs0 hm hw hc ht hi
 obtain ⟨sa,sq,rfl⟩:=rd_slice hs0
 obtain ⟨ma,mq,rfl⟩:=rd_slice hm
 obtain ⟨wa,wq,rfl⟩:=slr_slice hw
 obtain ⟨ca,cq,rfl⟩:=rd_slice hc
 obtain ⟨ta,tq,rfl⟩:=slr_slice ht
 obtain ⟨ia,iq,rfl⟩:=slr_slice hi
 have CFT:=hid (fun W (q:Below w.heap.size w W)=>w_pfit m _ o n W (h.below q) g hn0 hn1)
 have CK:=hid (fun W (q:Below w.heap.size w W)=>w_pkeeper m _ o n W (h.below q) g)
 have CW:=hid (fun W (q:Below w.heap.size w W)=>w_pway (.slice ta m.tree.length tq) m.tree s W (hT.below q) hs (RdT.below ht q) (fun x hx=>(g.tree x hx).1) (fun x hx=>(g.tree x hx).2.1))
 have HBY:=hid (fun x hx=>(g.words x hx).byt)
 have HZ:=hid (fun x hx=>(g.tree x hx).2.2.1)
 have HNO:=hid hno
 have s0:=(stands_new w #[.slice sa m.stack.length sq, .slice ma m.mem.length mq, .slice wa m.words.length wq, .slice ca m.codes.length cq, .int .u32 m.base, .slice ta m.tree.length tq, .int .i64 m.node, .slice ia m.insts.length iq, .int .i64 m.self, .string o] 30).below (box_below (w.alloc (.cells #[.slice sa m.stack.length sq, .slice ma m.mem.length mq, .slice wa m.words.length wq, .slice ca m.codes.length cq, .int .u32 m.base, .slice ta m.tree.length tq, .int .i64 m.node, .slice ia m.insts.length iq, .int .i64 m.self, .string o] 30)) (.cells #[.slice none 0 0, .slice none 0 0, .slice none 0 0, .slice none 0 0, .int .u32 0, .slice none 0 0, .int .i64 0, .slice none 0 0, .int .i64 0, .string ⟨#[]⟩] 30))
 have z0:=stands_new (w.alloc (.cells #[.slice sa m.stack.length sq, .slice ma m.mem.length mq, .slice wa m.words.length wq, .slice ca m.codes.length cq, .int .u32 m.base, .slice ta m.tree.length tq, .int .i64 m.node, .slice ia m.insts.length iq, .int .i64 m.self, .string o] 30)) #[.slice none 0 0, .slice none 0 0, .slice none 0 0, .slice none 0 0, .int .u32 0, .slice none 0 0, .int .i64 0, .slice none 0 0, .int .i64 0, .string ⟨#[]⟩] 30
 have bw:=below_trans (box_below w (.cells #[.slice sa m.stack.length sq, .slice ma m.mem.length mq, .slice wa m.words.length wq, .slice ca m.codes.length cq, .int .u32 m.base, .slice ta m.tree.length tq, .int .i64 m.node, .slice ia m.insts.length iq, .int .i64 m.self, .string o] 30)) (box_below (w.alloc (.cells #[.slice sa m.stack.length sq, .slice ma m.mem.length mq, .slice wa m.words.length wq, .slice ca m.codes.length cq, .int .u32 m.base, .slice ta m.tree.length tq, .int .i64 m.node, .slice ia m.insts.length iq, .int .i64 m.self, .string o] 30)) (.cells #[.slice none 0 0, .slice none 0 0, .slice none 0 0, .slice none 0 0, .int .u32 0, .slice none 0 0, .int .i64 0, .slice none 0 0, .int .i64 0, .string ⟨#[]⟩] 30))
 rw[size_al] at z0
 simp only[Mv.cs] at CFT ⊢
 simp only[Mv.cs,kcs] at CK
 clear hs0 hm hw hc ht hi ho h hno hT
 cases hF:frmM m with
 |false=>
  have cF:=fun W (q:Below w.heap.size w W)=>by have z:=CFT.out W q;rw[hF] at z;exact z
  have CF:=hid cF
  have HBD:Hid (opBad m (L s)):=Or.inl hF
  clear cF hF CFT CK CW
  go_enter Tryz.func5,Tryz.ntmps5
  go_upto_region 1 with fail
  generalize (w.alloc (.cells #[.slice sa m.stack.length sq, .slice ma m.mem.length mq, .slice wa m.words.length wq, .slice ca m.codes.length cq, .int .u32 m.base, .slice ta m.tree.length tq, .int .i64 m.node, .slice ia m.insts.length iq, .int .i64 m.self, .string o] 30)).alloc (.cells #[.slice none 0 0, .slice none 0 0, .slice none 0 0, .slice none 0 0, .int .u32 0, .slice none 0 0, .int .i64 0, .slice none 0 0, .int .i64 0, .string ⟨#[]⟩] 30)=W1 at s0 z0 bw ⊢
  obtain ⟨t0,t1,t2,t3,t4,t5,t6,t7,t8,t9⟩:=cells10 s0
  go_upto_region 2 with (first|(go_at_call 13;refine (CF.out _ bw).mono ?_;rintro e w1 ⟨rfl,b1⟩)|fail)
  have zz:=z0.below (b1)
  have u0:=zz.cell 0 _ rfl
  have u1:=zz.cell 1 _ rfl
  have u2:=zz.cell 2 _ rfl
  have u3:=zz.cell 3 _ rfl
  have u4:=zz.cell 4 _ rfl
  have u5:=zz.cell 5 _ rfl
  have u6:=zz.cell 6 _ rfl
  have u7:=zz.cell 7 _ rfl
  have u8:=zz.cell 8 _ rfl
  have u9:=zz.cell 9 _ rfl
  have uf:=zz.free
  obtain ⟨k1,k2⟩:=set10 zz (.slice none 0 0) (.slice none 0 0) (.slice none 0 0) (.slice none 0 0) (.int .u32 0) (.slice none 0 0) (.int .i64 0) (.slice none 0 0) (.int .i64 0) (.string ⟨#[]⟩)
  have K1:=hid k1
  have B3:=hid (below_set10 (below_trans bw (b1)) (w.heap.size+1) (.slice none 0 0) (.slice none 0 0) (.slice none 0 0) (.slice none 0 0) (.int .u32 0) (.slice none 0 0) (.int .i64 0) (.slice none 0 0) (.int .i64 0) (.string ⟨#[]⟩) (Nat.le_succ _))
  clear k1 k2 zz
  go_wp2_with fail
  (try simp only[Exit.inBlock,Exit.then])
  refine bodyPost_ret (res_row4 rfl _ _ (w.heap.size+1) 30 _ (0,0) _ rfl K1.out Tryz.underlying30 rfl (show _=some 10 by kernel_rfl)) rfl ?_
  exact ⟨Or.inl ⟨1,by decide,HBD.out,rfl⟩,B3.out⟩
 |true=>
  have cF:=fun W (q:Below w.heap.size w W)=>by have z:=CFT.out W q;rw[hF] at z;exact z
  have CF:=hid cF
  clear cF CFT
  go_enter Tryz.func5,Tryz.ntmps5
  go_upto_region 1 with fail
  generalize (w.alloc (.cells #[.slice sa m.stack.length sq, .slice ma m.mem.length mq, .slice wa m.words.length wq, .slice ca m.codes.length cq, .int .u32 m.base, .slice ta m.tree.length tq, .int .i64 m.node, .slice ia m.insts.length iq, .int .i64 m.self, .string o] 30)).alloc (.cells #[.slice none 0 0, .slice none 0 0, .slice none 0 0, .slice none 0 0, .int .u32 0, .slice none 0 0, .int .i64 0, .slice none 0 0, .int .i64 0, .string ⟨#[]⟩] 30)=W1 at s0 z0 bw ⊢
  obtain ⟨t0,t1,t2,t3,t4,t5,t6,t7,t8,t9⟩:=cells10 s0
  go_upto_region 3 with (first|(go_at_call 13;refine (CF.out _ bw).mono ?_;rintro e w1 ⟨rfl,b1⟩)|fail)
  clear t0 t1 t2 t3 t4 t5 t6 t7 t8 t9
  have f5:=(s0.below b1).cell 5 _ rfl
  go_upto_region 4 with (first|(go_at_call 14;refine (CW.out _ (below_trans bw b1)).mono ?_;rintro e w2 ⟨v2,E,rfl,hE,b2⟩)|fail)
  have b12:=below_trans b1 b2
  rcases hE with ⟨hE,hbd⟩|⟨rfl,hp0,hp1,S,hS,rS⟩
  ·have hq:(E !=0)=true:=by simpa using hE
   have HE:=hid hE
   have HBD:Hid (opBad m (L s)):=Or.inr (Or.inl hbd)
   clear hbd
   clear f5 CK CW CF hE HBY HZ HNO hF
   have zz:=z0.below (b12)
   have u0:=zz.cell 0 _ rfl
   have u1:=zz.cell 1 _ rfl
   have u2:=zz.cell 2 _ rfl
   have u3:=zz.cell 3 _ rfl
   have u4:=zz.cell 4 _ rfl
   have u5:=zz.cell 5 _ rfl
   have u6:=zz.cell 6 _ rfl
   have u7:=zz.cell 7 _ rfl
   have u8:=zz.cell 8 _ rfl
   have u9:=zz.cell 9 _ rfl
   have uf:=zz.free
   obtain ⟨k1,k2⟩:=set10 zz (.slice none 0 0) (.slice none 0 0) (.slice none 0 0) (.slice none 0 0) (.int .u32 0) (.slice none 0 0) (.int .i64 0) (.slice none 0 0) (.int .i64 0) (.string ⟨#[]⟩)
   have K1:=hid k1
   have B3:=hid (below_set10 (below_trans bw (b12)) (w.heap.size+1) (.slice none 0 0) (.slice none 0 0) (.slice none 0 0) (.slice none 0 0) (.int .u32 0) (.slice none 0 0) (.int .i64 0) (.slice none 0 0) (.int .i64 0) (.string ⟨#[]⟩) (Nat.le_succ _))
   clear k1 k2 zz
   go_wp2_with fail
   (try simp only[Exit.inBlock,Exit.then])
   refine bodyPost_ret (res_row4 rfl _ _ (w.heap.size+1) 30 _ (0,0) _ rfl K1.out Tryz.underlying30 rfl (show _=some 10 by kernel_rfl)) rfl ?_
   exact ⟨Or.inl ⟨E,HE.out,HBD.out,rfl⟩,B3.out⟩
  ·have HS:=hid hS
   have HP0:=hid hp0
   have HP1:=hid hp1
   clear f5 CW CF hp0 hp1 hS
   obtain ⟨t0,t1,t2,t3,t4,t5,t6,t7,t8,t9⟩:=cells10 (s0.below b12)
   have hl16:m.insts.length≤16:=(ins_parts (frm_parts hF).2.2.2.2.1).1
   have hst:∀s∈S.reverse,0≤s.1:=fun s hm=>by
    obtain ⟨j,hj,_⟩:=way_stops HS.out s (List.mem_reverse.1 hm)
    omega
   have HSELF:=hid (frm_self hF)
   have HWS:=hid (way_stops HS.out)
   have HRS:=hid rS
   clear rS
   go_upto_region 7 with (first|(go_at_call 15;refine (CK.out _ (below_trans bw b12)).mono ?_;rintro e w3 ⟨v3,rfl,o3,b3⟩;obtain ⟨sb,sp,mb,mp,wb,wp,cb,cp,tb,tp,ib,ip,rfl⟩:=o3.form)|fail)
   have kp0:Kpr w2.heap.size w3.heap.size (w3.alloc (.cells #[.slice sb m.stack.length sp, .slice mb m.mem.length mp, .slice wb m.words.length wp, .slice cb m.codes.length cp, .int .u32 m.base, .slice tb m.tree.length tp, .int .i64 m.node, .slice ib m.insts.length ip, .int .i64 m.self, .string o, .int .i64 n, .int .i64 m.self] 62)) ⟨.slice sb m.stack.length sp, .slice mb m.mem.length mp, .slice wb m.words.length wp, .slice cb m.codes.length cp, .slice tb m.tree.length tp, .slice ib m.insts.length ip⟩ m o n m.self:=⟨stands_new w3 #[.slice sb m.stack.length sp, .slice mb m.mem.length mp, .slice wb m.words.length wp, .slice cb m.codes.length cp, .int .u32 m.base, .slice tb m.tree.length tp, .int .i64 m.node, .slice ib m.insts.length ip, .int .i64 m.self, .string o, .int .i64 n, .int .i64 m.self] 62,o3.below (box_below w3 _)⟩
   have hB4:=below_trans b3 (box_below w3 (.cells #[.slice sb m.stack.length sp, .slice mb m.mem.length mp, .slice wb m.words.length wp, .slice cb m.codes.length cp, .int .u32 m.base, .slice tb m.tree.length tp, .int .i64 m.node, .slice ib m.insts.length ip, .int .i64 m.self, .string o, .int .i64 n, .int .i64 m.self] 62))
   have hb3:=b3.size
   clear t0 t1 t2 t3 t4 t5 t6 t7 t8 t9 o3 b3 CK hF
   generalize w3.alloc (.cells #[.slice sb m.stack.length sp, .slice mb m.mem.length mp, .slice wb m.words.length wp, .slice cb m.codes.length cp, .int .u32 m.base, .slice tb m.tree.length tp, .int .i64 m.node, .slice ib m.insts.length ip, .int .i64 m.self, .string o, .int .i64 n, .int .i64 m.self] 62)=w4 at kp0 hB4 ⊢
   have CO:=w_pkopenAll S v2 w4 kp0 hb3 hB4 HZ.out hl16 HRS.out HWS.out HBY.out HNO.out
   cases hop:opnS m.tree m.insts S.reverse with
   |none=>
    have COn:Calls Tryz.prog 16 #[.pointer (some ⟨w3.heap.size,0,none⟩),v2] w4 fun e w'=>e= .returned (.tuple #[.int .i64 (-1), .int .i64 22])∧Below w2.heap.size w2 w':=CO.mono (by
     rintro e w' ⟨⟨_,rfl⟩|⟨l2,ch,v',h2,_⟩,b⟩
     ·exact ⟨rfl,b⟩
     ·rw[hop] at h2;cases h2)
    have HBD:Hid (opBad m (L s)):=Or.inr (Or.inr ⟨S,HS.out,hop⟩)
    clear CO kp0 hop hst
    go_upto_region 9 with (first|(go_at_call 16;refine COn.mono ?_;rintro e w5 ⟨rfl,b5⟩)|fail)
    have zz:=z0.below (below_trans b12 b5)
    have u0:=zz.cell 0 _ rfl
    have u1:=zz.cell 1 _ rfl
    have u2:=zz.cell 2 _ rfl
    have u3:=zz.cell 3 _ rfl
    have u4:=zz.cell 4 _ rfl
    have u5:=zz.cell 5 _ rfl
    have u6:=zz.cell 6 _ rfl
    have u7:=zz.cell 7 _ rfl
    have u8:=zz.cell 8 _ rfl
    have u9:=zz.cell 9 _ rfl
    have uf:=zz.free
    obtain ⟨k1,k2⟩:=set10 zz (.slice none 0 0) (.slice none 0 0) (.slice none 0 0) (.slice none 0 0) (.int .u32 0) (.slice none 0 0) (.int .i64 0) (.slice none 0 0) (.int .i64 0) (.string ⟨#[]⟩)
    have K1:=hid k1
    have B3:=hid (below_set10 (below_trans bw (below_trans b12 b5)) (w.heap.size+1) (.slice none 0 0) (.slice none 0 0) (.slice none 0 0) (.slice none 0 0) (.int .u32 0) (.slice none 0 0) (.int .i64 0) (.slice none 0 0) (.int .i64 0) (.string ⟨#[]⟩) (Nat.le_succ _))
    clear k1 k2 zz
    go_wp2_with fail
    (try simp only[Exit.inBlock,Exit.then])
    refine bodyPost_ret (res_row4 rfl _ _ (w.heap.size+1) 30 _ (0,0) _ rfl K1.out Tryz.underlying30 rfl (show _=some 10 by kernel_rfl)) rfl ?_
    exact ⟨Or.inl ⟨22,by decide,HBD.out,rfl⟩,B3.out⟩
   |some p=>
    obtain ⟨l2,ch⟩:=p
    have cc:=opn_chn m.tree m.insts hl16 S.reverse l2 ch hst hop
    have COs:Calls Tryz.prog 16 #[.pointer (some ⟨w3.heap.size,0,none⟩),v2] w4 fun e w'=>(∃v',e= .returned (.tuple #[.int .i64 (hdI ch), .int .i64 0])∧Kpr w2.heap.size w3.heap.size w' v' {m with insts:=l2} o n m.self)∧Below w2.heap.size w2 w':=CO.mono (by
     rintro e w' ⟨⟨h2,_⟩|⟨l3,ch3,v',h2,rfl,k⟩,b⟩
     ·rw[hop] at h2;cases h2
     ·rw[hop] at h2
      injection h2 with h2
      injection h2 with e1 e2
      subst e1
      subst e2
      exact ⟨⟨v',rfl,k⟩,b⟩)
    have HOP:=hid hop
    have hsel:m.self= -1∨∃i:Nat,m.self=i∧∃x,l2[i]? =some x∧¬x.1= -1:=by
     rcases HSELF.out with h|h
     ·exact Or.inl h
     ·obtain ⟨h1,h2,_⟩:=chn_alive cc h
      exact Or.inr (alv_at h1)
    have HSEL:=hid hsel
    obtain ⟨k0,hk0⟩:∃k:Nat,hdI ch=k:=by
     have h1:=cc.len
     have h2:0 < S.length:=by rw[HS.out.1];exact List.length_pos_iff.2 HP1.out
     rw[List.length_reverse] at h1
     cases ch with
     |nil=>simp only[List.length_nil] at h1;omega
     |cons a r=>exact ⟨a,rfl⟩
    have hk16:k0 < 16:=by
     have h1:=cc.le
     cases ch with
     |nil=>simp only[hdI] at hk0;omega
     |cons a r=>
      have h2:=(cc.inb a (by simp)).1
      simp only[hdI] at hk0
      omega
    have cH:=fun W=>w_phandle k0 W (by omega)
    have CH:=hid cH
    have HK0:=hid hk0
    rw[hk0] at COs
    clear CO kp0 hop hst cc hsel cH hl16
    go_upto_region 10 with (first|(go_at_call 16;refine COs.mono ?_;rintro e w5 ⟨⟨v5,rfl,kp5⟩,b5⟩)|fail)
    have z5:=(z0.below b12).below b5
    have cv:=w_pkover w5.drew (kp5.below (bdr0 _)) hb3 (below_trans b5 (bdr0 _)) HSEL.out
    simp only[Mv.cs] at cv
    have CV:=hid cv
    clear cv
    have K10:=hid (kp5.box.cell 10 _ rfl)
    have KP5:=hid kp5
    have Z5:=hid z5
    have B5:=hid b5
    clear kp5 z5 HBY HZ HNO
    refine wp_region_held_drew (S:=fun W=>W.cell? ⟨w3.heap.size,10,none⟩=some (.int .i64 n)) (by kernel_rfl) ((KP5.out.box.below (bdr0 _)).cell 10 _ rfl) (fun hHeld=> ?_)
    refine wpAnyH_take (i:=1) (v:= ?v1) rfl (by kernel_rfl) (by kernel_rfl) (by kernel_rfl) (fun _ _ _ h=>h) (Or.inl ⟨by kernel_rfl, ?h1⟩) hHeld ?r1
    case h1=>intro W hSw;(try dsimp only at hSw);obtain t0:=hSw;go_simp;try with_reducible rfl
    simp only[Act.put,List.setIfInBounds_toArray,List.set_cons_zero,List.set_cons_succ]
    refine wpAnyH_take (i:=3) (v:= ?v2) rfl (by kernel_rfl) (by kernel_rfl) (by kernel_rfl) (fun _ _ _ h=>h) (Or.inl ⟨by kernel_rfl, ?h2⟩) hHeld ?r2
    case h2=>intro W hSw;(try dsimp only at hSw);obtain t0:=hSw;go_simp;try with_reducible rfl
    simp only[Act.put,List.setIfInBounds_toArray,List.set_cons_zero,List.set_cons_succ]
    refine wpAnyH_take (i:=4) (v:= ?v3) rfl (by kernel_rfl) (by kernel_rfl) (by kernel_rfl) (fun _ _ _ h=>h) (Or.inl ⟨by kernel_rfl, ?h3⟩) hHeld ?r3
    case h3=>intro W hSw;(try dsimp only at hSw);obtain t0:=hSw;go_simp;try with_reducible rfl
    simp only[Act.put,List.setIfInBounds_toArray,List.set_cons_zero,List.set_cons_succ]
    refine wpAnyH_ready (rs:=[0]) (by kernel_rfl) (by simp) ?_
    refine AllReadyH.cons rfl (fun K hK=> ?_) AllReadyH.nil
    go_simp
    go_wp2_with (first|(go_at_call 17;refine CV.out.mono ?_;rintro e w9 ⟨rfl,o9,st9,b9⟩;obtain ⟨sc,scq,mc,mcq,wc,wcq,cc,ccq,tc,tcq,ic,icq,rfl⟩:=o9.form;have zz:=(z0.below b12).below b9;have u0:=zz.cell 0 _ rfl;have u1:=zz.cell 1 _ rfl;have u2:=zz.cell 2 _ rfl;have u3:=zz.cell 3 _ rfl;have u4:=zz.cell 4 _ rfl;have u5:=zz.cell 5 _ rfl;have u6:=zz.cell 6 _ rfl;have u7:=zz.cell 7 _ rfl;have u8:=zz.cell 8 _ rfl;have u9:=zz.cell 9 _ rfl;have uf:=zz.free;obtain ⟨k1,k2⟩:=set10 zz (.slice sc m.stack.length scq) (.slice mc m.mem.length mcq) (.slice wc m.words.length wcq) (.slice cc m.codes.length ccq) (.int .u32 m.base) (.slice tc m.tree.length tcq) (.int .i64 m.node) (.slice ic l2.length icq) (.int .i64 m.self) (.string o);have K1:=hid k1;have JO:=hid (k2 (fun u=>OwM w2.heap.size u ⟨.slice sc m.stack.length scq, .slice mc m.mem.length mcq, .slice wc m.words.length wcq, .slice cc m.codes.length ccq, .slice tc m.tree.length tcq, .slice ic l2.length icq⟩ {m with insts:=l2} o) (fun u u' kk q=>OwM.kept q kk (by decide) (by decide) (by decide) (by decide) (by decide) (by decide) (by decide) (by decide)) o9);have JS:=hid (k2 (fun u=>Stands u w3.heap.size #[.slice sc m.stack.length scq, .slice mc m.mem.length mcq, .slice wc m.words.length wcq, .slice cc m.codes.length ccq, .int .u32 m.base, .slice tc m.tree.length tcq, .int .i64 m.node, .slice ic l2.length icq, .int .i64 m.self, .string o, .int .i64 n, .int .i64 m.self] 62) (fun u u' kk q=>stands_kept kk (by decide) q) st9);have S9:=hid st9;have B9:=hid (below_set10 (below_trans (below_trans bw b12) b9) (w.heap.size+1) (.slice sc m.stack.length scq) (.slice mc m.mem.length mcq) (.slice wc m.words.length wcq) (.slice cc m.codes.length ccq) (.int .u32 m.base) (.slice tc m.tree.length tcq) (.int .i64 m.node) (.slice ic l2.length icq) (.int .i64 m.self) (.string o) (Nat.le_succ _));clear k1 k2 o9 st9 b9 zz))
    refine hK.out _ _ (S9.out.cell 10 _ rfl) (fun hHeld=> ?_)
    clear hK K
    (try simp only[Act.put,List.setIfInBounds_toArray,List.set_cons_zero,List.set_cons_succ])
    refine wpAnyH_ready (rs:=[2]) (by kernel_rfl) (by simp) ?_
    refine AllReadyH.cons rfl (fun K hK=> ?_) AllReadyH.nil
    go_simp
    go_wp2_with (first|(go_at_call 18;refine (CH.out _).mono ?_;rintro e w10 ⟨rfl,hw10⟩;obtain rfl:=hw10))
    refine hK.out _ _ (S9.out.cell 10 _ rfl) (fun hHeld=> ?_)
    clear hK K
    (try simp only[Act.put,List.setIfInBounds_toArray,List.set_cons_zero,List.set_cons_succ])
    refine wpAnyH_ready (rs:=[5]) (by kernel_rfl) (by simp) ?_
    refine AllReadyH.cons rfl (fun K hK=> ?_) AllReadyH.nil
    go_simp
    refine hK.out _ _ (JS.out.cell 10 _ rfl) (fun hHeld=> ?_)
    clear hK K
    (try simp only[Act.put,List.setIfInBounds_toArray,List.set_cons_zero,List.set_cons_succ])
    refine wpAnyH_ready (rs:=[6]) (by kernel_rfl) (by simp) ?_
    refine AllReadyH.cons rfl (fun K hK=> ?_) AllReadyH.nil
    go_simp
    refine hK.out _ _ (JS.out.cell 10 _ rfl) (fun hHeld=> ?_)
    clear hK K
    (try simp only[Act.put,List.setIfInBounds_toArray,List.set_cons_zero,List.set_cons_succ])
    refine wpAnyH_ready (rs:=[7]) (by kernel_rfl) (by simp) ?_
    refine AllReadyH.cons rfl (fun K hK=> ?_) AllReadyH.nil
    go_simp
    refine hK.out _ _ (JS.out.cell 10 _ rfl) (fun hHeld=> ?_)
    clear hK K
    (try simp only[Act.put,List.setIfInBounds_toArray,List.set_cons_zero,List.set_cons_succ])
    refine wpAnyH_ready (rs:=[8]) (by kernel_rfl) (by simp) ?_
    refine AllReadyH.cons rfl (fun K hK=> ?_) AllReadyH.nil
    go_simp
    refine hK.out _ _ (JS.out.cell 10 _ rfl) (fun hHeld=> ?_)
    clear hK K
    (try simp only[Act.put,List.setIfInBounds_toArray,List.set_cons_zero,List.set_cons_succ])
    refine wpAnyH_done (by kernel_rfl) ?_ _
    go_wp2_with fail
    (try simp only[Exit.inBlock,Exit.then])
    refine bodyPost_ret (res_row4 rfl _ _ (w.heap.size+1) 30 _ (0,0) _ rfl K1.out Tryz.underlying30 rfl (show _=some 10 by kernel_rfl)) rfl ?_
    exact ⟨Or.inr ⟨S,l2,ch,⟨.slice sc m.stack.length scq, .slice mc m.mem.length mcq, .slice wc m.words.length wcq, .slice cc m.codes.length ccq, .slice tc m.tree.length tcq, .slice ic l2.length icq⟩,trivial,HP0.out,HP1.out,HS.out,HOP.out,by rw[HK0.out];rfl,OwM.le (Nat.le_trans bw.size b12.size) JO.out⟩,B9.out⟩
set_option maxHeartbeats 8000000 in
set_option maxRecDepth 100000 in
theorem w_pClose (m:Mc) (v:Mv) (o:ByteArray) (ch:List Nat) (n:Int) (w:World) (h:RdM w v m o) (g:gM m) (hF:frmM m=true) (hn0:0≤n) (hn1:n≤100000) (hne:0 < ch.length) (hnd:ch.Nodup) (hin:∀i∈ch,i < m.insts.length) (hlk:∀j (hj:j < ch.length),∃x,m.insts[ch[j]]? =some x∧x.2.1=hdI (ch.drop (j+1))∧¬x.1= -1) (hfr:∀j (hj:j < ch.length),∀x∈relI m.insts ch j,¬x.2.1=(ch[j]:Nat)) (hno:∀x∈m.words,¬x.1=[99,108,111,115,101]) (hsel:m.self= -1∨∃i:Nat,m.self=i∧∃x,(relI m.insts ch ch.length)[i]? =some x∧¬x.1= -1):
  Calls Tryz.prog 10 #[.agg (v.cs m o), .int .u32 (hdI ch+1), .int .i64 n] w fun e w'=>∃v',e= .returned (.tuple #[.agg (v'.cs {m with insts:=relI m.insts ch ch.length} o), .int .i64 n, .int .i64 0])∧OwM w.heap.size w' v' {m with insts:=relI m.insts ch ch.length} o∧Below w.heap.size w w':=by
 have hd0:hdI ch=(ch[0]:Nat):=by cases ch with|nil=>exact absurd hne (by simp)|cons a b=>rfl
 obtain ⟨x0,hx0,_,hx1⟩:=hlk 0 hne
 have hl16:m.insts.length≤16:=(ins_parts (frm_parts hF).2.2.2.2.1).1
 have CA:=hid (fun W (q:Below w.heap.size w W)=>w_palive17 m v o ch[0] x0 W (h.below q) hx0 hx1 hl16)
 have cF:=fun W (q:Below w.heap.size w W)=>by have z:=w_pfit m v o n W (h.below q) g hn0 hn1;rw[hF] at z;exact z
 have CF:=hid cF
 have CK:=hid (fun W (q:Below w.heap.size w W)=>w_pkeeper m v o n W (h.below q) g)
 have ha:m.insts.any (fun x=>decide (x.2.1=(ch[0]:Nat)))=false:=by
  rw[List.any_eq_false]
  intro y hy
  simpa using hfr 0 hne y hy
 have HA:=hid ha
 have HBY:=hid (fun x hx=>(g.words x hx).byt)
 have HNO:=hid hno
 have HLK:=hid hlk
 have HFR:=hid hfr
 have HIN:=hid hin
 have HSEL:=hid hsel
 have H0:=hid hd0
 rw[hd0]
 obtain ⟨k0,hk0⟩:∃k,ch[0]=k:=⟨_,rfl⟩
 rw[hk0] at CA HA H0 ⊢
 obtain ⟨l2,hl2⟩:∃l,relI m.insts ch ch.length=l:=⟨_,rfl⟩
 have HL2:=hid hl2
 rw[hl2] at HSEL ⊢
 obtain ⟨vs,vm,vw,vc,vt,vi⟩:=v
 have hh:=h
 obtain ⟨hs,hm,hw,hc,ht,hi,ho⟩:=hh
 simp only at hs hm hw hc ht hi
 obtain ⟨sa,sq,rfl⟩:=rd_slice hs
 obtain ⟨ma,mq,rfl⟩:=rd_slice hm
 obtain ⟨wa,wq,rfl⟩:=slr_slice hw
 obtain ⟨ca,cq,rfl⟩:=rd_slice hc
 obtain ⟨ta,tq,rfl⟩:=slr_slice ht
 obtain ⟨ia,iq,rfl⟩:=slr_slice hi
 have s0:=(stands_new w #[.slice sa m.stack.length sq, .slice ma m.mem.length mq, .slice wa m.words.length wq, .slice ca m.codes.length cq, .int .u32 m.base, .slice ta m.tree.length tq, .int .i64 m.node, .slice ia m.insts.length iq, .int .i64 m.self, .string o] 30).below (box_below (w.alloc (.cells #[.slice sa m.stack.length sq, .slice ma m.mem.length mq, .slice wa m.words.length wq, .slice ca m.codes.length cq, .int .u32 m.base, .slice ta m.tree.length tq, .int .i64 m.node, .slice ia m.insts.length iq, .int .i64 m.self, .string o] 30)) (.cells #[.slice none 0 0, .slice none 0 0, .slice none 0 0, .slice none 0 0, .int .u32 0, .slice none 0 0, .int .i64 0, .slice none 0 0, .int .i64 0, .string ⟨#[]⟩] 30))
 have z0:=stands_new (w.alloc (.cells #[.slice sa m.stack.length sq, .slice ma m.mem.length mq, .slice wa m.words.length wq, .slice ca m.codes.length cq, .int .u32 m.base, .slice ta m.tree.length tq, .int .i64 m.node, .slice ia m.insts.length iq, .int .i64 m.self, .string o] 30)) #[.slice none 0 0, .slice none 0 0, .slice none 0 0, .slice none 0 0, .int .u32 0, .slice none 0 0, .int .i64 0, .slice none 0 0, .int .i64 0, .string ⟨#[]⟩] 30
 have bw:=below_trans (box_below w (.cells #[.slice sa m.stack.length sq, .slice ma m.mem.length mq, .slice wa m.words.length wq, .slice ca m.codes.length cq, .int .u32 m.base, .slice ta m.tree.length tq, .int .i64 m.node, .slice ia m.insts.length iq, .int .i64 m.self, .string o] 30)) (box_below (w.alloc (.cells #[.slice sa m.stack.length sq, .slice ma m.mem.length mq, .slice wa m.words.length wq, .slice ca m.codes.length cq, .int .u32 m.base, .slice ta m.tree.length tq, .int .i64 m.node, .slice ia m.insts.length iq, .int .i64 m.self, .string o] 30)) (.cells #[.slice none 0 0, .slice none 0 0, .slice none 0 0, .slice none 0 0, .int .u32 0, .slice none 0 0, .int .i64 0, .slice none 0 0, .int .i64 0, .string ⟨#[]⟩] 30))
 rw[size_al] at z0
 simp only[Mv.cs] at CF CA ⊢
 simp only[Mv.cs,kcs] at CK
 clear hs hm hw hc ht hi ho h hno hlk hfr hin hsel hd0 ha cF hx0 hx1 hk0 hl2 hF g hl16
 go_enter Tryz.func10,Tryz.ntmps10
 go_upto_region 1 with fail
 generalize (w.alloc (.cells #[.slice sa m.stack.length sq, .slice ma m.mem.length mq, .slice wa m.words.length wq, .slice ca m.codes.length cq, .int .u32 m.base, .slice ta m.tree.length tq, .int .i64 m.node, .slice ia m.insts.length iq, .int .i64 m.self, .string o] 30)).alloc (.cells #[.slice none 0 0, .slice none 0 0, .slice none 0 0, .slice none 0 0, .int .u32 0, .slice none 0 0, .int .i64 0, .slice none 0 0, .int .i64 0, .string ⟨#[]⟩] 30)=W1 at s0 z0 bw ⊢
 obtain ⟨t0,t1,t2,t3,t4,t5,t6,t7,t8,t9⟩:=cells10 s0
 go_upto_region 3 with (first|(go_at_call 13;refine (CF.out _ bw).mono ?_;rintro e w1 ⟨rfl,b1⟩)|fail)
 clear t0 t1 t2 t3 t4 t5 t6 t7 t8 t9
 obtain ⟨t0,t1,t2,t3,t4,t5,t6,t7,t8,t9⟩:=cells10 (s0.below b1)
 have q0:((k0:Int)== -1)=false:=by simp
 go_upto_region 6 with (first|(go_at_call 22;refine (CA.out _ (below_trans bw b1)).mono ?_;rintro e w2 ⟨rfl,b2⟩)|fail)
 have b12:=below_trans b1 b2
 clear t0 t1 t2 t3 t4 t5 t6 t7 t8 t9
 obtain ⟨t0,t1,t2,t3,t4,t5,t6,t7,t8,t9⟩:=cells10 (s0.below b12)
 go_upto_region 7 with (first|(go_at_call 15;refine (CK.out _ (below_trans bw b12)).mono ?_;rintro e w3 ⟨v3,rfl,o3,b3⟩;obtain ⟨sb,sp,mb,mp,wb,wp,cb,cp,tb,tp,ib,ip,rfl⟩:=o3.form)|fail)
 have kp0:Kpr w2.heap.size w3.heap.size (w3.alloc (.cells #[.slice sb m.stack.length sp, .slice mb m.mem.length mp, .slice wb m.words.length wp, .slice cb m.codes.length cp, .int .u32 m.base, .slice tb m.tree.length tp, .int .i64 m.node, .slice ib m.insts.length ip, .int .i64 m.self, .string o, .int .i64 n, .int .i64 m.self] 62)) ⟨.slice sb m.stack.length sp, .slice mb m.mem.length mp, .slice wb m.words.length wp, .slice cb m.codes.length cp, .slice tb m.tree.length tp, .slice ib m.insts.length ip⟩ m o n m.self:=⟨stands_new w3 #[.slice sb m.stack.length sp, .slice mb m.mem.length mp, .slice wb m.words.length wp, .slice cb m.codes.length cp, .int .u32 m.base, .slice tb m.tree.length tp, .int .i64 m.node, .slice ib m.insts.length ip, .int .i64 m.self, .string o, .int .i64 n, .int .i64 m.self] 62,o3.below (box_below w3 _)⟩
 have hB4:=below_trans b3 (box_below w3 (.cells #[.slice sb m.stack.length sp, .slice mb m.mem.length mp, .slice wb m.words.length wp, .slice cb m.codes.length cp, .int .u32 m.base, .slice tb m.tree.length tp, .int .i64 m.node, .slice ib m.insts.length ip, .int .i64 m.self, .string o, .int .i64 n, .int .i64 m.self] 62))
 have hb3:=b3.size
 clear t0 t1 t2 t3 t4 t5 t6 t7 t8 t9 o3 b3 CK CF CA
 generalize w3.alloc (.cells #[.slice sb m.stack.length sp, .slice mb m.mem.length mp, .slice wb m.words.length wp, .slice cb m.codes.length cp, .int .u32 m.base, .slice tb m.tree.length tp, .int .i64 m.node, .slice ib m.insts.length ip, .int .i64 m.self, .string o, .int .i64 n, .int .i64 m.self] 62)=w4 at kp0 hB4 ⊢
 have cs:=w_pkstood (k0:Int) w4 kp0
 rw[HA.out] at cs
 have CX:=hid (fun W (q:Below w4.heap.size w4 W)=>by
  have z:=w_pkcloseAll ch W (kp0.below q) hb3 (below_trans hB4 q) hnd HIN.out HLK.out HFR.out HBY.out HNO.out
  rw[H0.out,HL2.out] at z
  exact z)
 clear kp0
 go_upto_region 12 with (first
  |(go_at_call 24;refine cs.mono ?_;rintro e w5 ⟨rfl,b5⟩)
  |(go_at_call 25;refine (CX.out _ b5).mono ?_;rintro e w6 ⟨rfl,⟨v6,kp6⟩,b6⟩)
  |fail)
 have cv:=w_pkover w6.drew (kp6.below (bdr0 _)) hb3 (below_trans b6 (bdr0 _)) HSEL.out
 simp only[Mv.cs] at cv
 have CV:=hid cv
 have KP6:=hid kp6
 clear cv kp6 HBY HNO HSEL hB4
 refine wp_region_held_drew (S:=fun W=>W.cell? ⟨w3.heap.size,10,none⟩=some (.int .i64 n)) (by kernel_rfl) ((KP6.out.box.below (bdr0 _)).cell 10 _ rfl) (fun hHeld=> ?_)
 refine wpAnyH_take (i:=1) (v:= ?v1) rfl (by kernel_rfl) (by kernel_rfl) (by kernel_rfl) (fun _ _ _ h=>h) (Or.inl ⟨by kernel_rfl, ?h1⟩) hHeld ?r1
 case h1=>intro W hSw;(try dsimp only at hSw);obtain t0:=hSw;go_simp;try with_reducible rfl
 simp only[Act.put,List.setIfInBounds_toArray,List.set_cons_zero,List.set_cons_succ]
 refine wpAnyH_take (i:=2) (v:= ?v2) rfl (by kernel_rfl) (by kernel_rfl) (by kernel_rfl) (fun _ _ _ h=>h) (Or.inl ⟨by kernel_rfl, ?h2⟩) hHeld ?r2
 case h2=>intro W hSw;(try dsimp only at hSw);obtain t0:=hSw;go_simp;try with_reducible rfl
 simp only[Act.put,List.setIfInBounds_toArray,List.set_cons_zero,List.set_cons_succ]
 refine wpAnyH_ready (rs:=[0]) (by kernel_rfl) (by simp) ?_
 refine AllReadyH.cons rfl (fun K hK=> ?_) AllReadyH.nil
 go_simp
 go_wp2_with (first|(go_at_call 17;refine CV.out.mono ?_;rintro e w9 ⟨rfl,o9,st9,b9⟩;obtain ⟨sc,scq,mc,mcq,wc,wcq,cc,ccq,tc,tcq,ic,icq,rfl⟩:=o9.form;have zz:=(z0.below b12).below b9;have u0:=zz.cell 0 _ rfl;have u1:=zz.cell 1 _ rfl;have u2:=zz.cell 2 _ rfl;have u3:=zz.cell 3 _ rfl;have u4:=zz.cell 4 _ rfl;have u5:=zz.cell 5 _ rfl;have u6:=zz.cell 6 _ rfl;have u7:=zz.cell 7 _ rfl;have u8:=zz.cell 8 _ rfl;have u9:=zz.cell 9 _ rfl;have uf:=zz.free;obtain ⟨k1,k2⟩:=set10 zz (.slice sc m.stack.length scq) (.slice mc m.mem.length mcq) (.slice wc m.words.length wcq) (.slice cc m.codes.length ccq) (.int .u32 m.base) (.slice tc m.tree.length tcq) (.int .i64 m.node) (.slice ic l2.length icq) (.int .i64 m.self) (.string o);have K1:=hid k1;have JO:=hid (k2 (fun u=>OwM w2.heap.size u ⟨.slice sc m.stack.length scq, .slice mc m.mem.length mcq, .slice wc m.words.length wcq, .slice cc m.codes.length ccq, .slice tc m.tree.length tcq, .slice ic l2.length icq⟩ {m with insts:=l2} o) (fun u u' kk q=>OwM.kept q kk (by decide) (by decide) (by decide) (by decide) (by decide) (by decide) (by decide) (by decide)) o9);have JS:=hid (k2 (fun u=>Stands u w3.heap.size #[.slice sc m.stack.length scq, .slice mc m.mem.length mcq, .slice wc m.words.length wcq, .slice cc m.codes.length ccq, .int .u32 m.base, .slice tc m.tree.length tcq, .int .i64 m.node, .slice ic l2.length icq, .int .i64 m.self, .string o, .int .i64 n, .int .i64 m.self] 62) (fun u u' kk q=>stands_kept kk (by decide) q) st9);have S9:=hid st9;have B9:=hid (below_set10 (below_trans (below_trans bw b12) b9) (w.heap.size+1) (.slice sc m.stack.length scq) (.slice mc m.mem.length mcq) (.slice wc m.words.length wcq) (.slice cc m.codes.length ccq) (.int .u32 m.base) (.slice tc m.tree.length tcq) (.int .i64 m.node) (.slice ic l2.length icq) (.int .i64 m.self) (.string o) (Nat.le_succ _));clear k1 k2 o9 st9 b9 zz))
 refine hK.out _ _ (S9.out.cell 10 _ rfl) (fun hHeld=> ?_)
 clear hK K
 (try simp only[Act.put,List.setIfInBounds_toArray,List.set_cons_zero,List.set_cons_succ])
 refine wpAnyH_ready (rs:=[3]) (by kernel_rfl) (by simp) ?_
 refine AllReadyH.cons rfl (fun K hK=> ?_) AllReadyH.nil
 go_simp
 refine hK.out _ _ (JS.out.cell 10 _ rfl) (fun hHeld=> ?_)
 clear hK K
 (try simp only[Act.put,List.setIfInBounds_toArray,List.set_cons_zero,List.set_cons_succ])
 refine wpAnyH_ready (rs:=[4]) (by kernel_rfl) (by simp) ?_
 refine AllReadyH.cons rfl (fun K hK=> ?_) AllReadyH.nil
 go_simp
 refine hK.out _ _ (JS.out.cell 10 _ rfl) (fun hHeld=> ?_)
 clear hK K
 (try simp only[Act.put,List.setIfInBounds_toArray,List.set_cons_zero,List.set_cons_succ])
 refine wpAnyH_ready (rs:=[5]) (by kernel_rfl) (by simp) ?_
 refine AllReadyH.cons rfl (fun K hK=> ?_) AllReadyH.nil
 go_simp
 refine hK.out _ _ (JS.out.cell 10 _ rfl) (fun hHeld=> ?_)
 clear hK K
 (try simp only[Act.put,List.setIfInBounds_toArray,List.set_cons_zero,List.set_cons_succ])
 refine wpAnyH_done (by kernel_rfl) ?_ _
 go_wp2_with fail
 (try simp only[Exit.inBlock,Exit.then])
 refine bodyPost_ret (res_row3 rfl _ _ (w.heap.size+1) 30 _ (0,0) _ rfl K1.out Tryz.underlying30 rfl (show _=some 10 by kernel_rfl)) rfl ?_
 exact ⟨⟨.slice sc m.stack.length scq, .slice mc m.mem.length mcq, .slice wc m.words.length wcq, .slice cc m.codes.length ccq, .slice tc m.tree.length tcq, .slice ic l2.length icq⟩,rfl,OwM.le (Nat.le_trans bw.size b12.size) JO.out,B9.out⟩
end Go.Proofs.YtlokhciaaepenaaGreatDoor
