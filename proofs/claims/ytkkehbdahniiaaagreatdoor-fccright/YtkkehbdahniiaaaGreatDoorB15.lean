import Derived.Laws.MakeOwn
import Derived.Deep.RegionLaw
import Derived.Shelf.Abstract
import Derived.Test.YtkkehbdahniiaaaGreatDoorB14
set_option linter.unusedVariables false
set_option linter.unusedSimpArgs false
set_option maxRecDepth 100000
namespace Go.Proofs.YtkkehbdahniiaaaGreatDoor
open Go.ChangeShapes Go.WideShapes Go.ChangeAt Go.RowKit
def OwH (base:Nat) (w:World) (v:Value) (B:List Int):Prop:=w.ownsRow base 5 1 v B.length (B.map (Value.int .u8))
theorem OwH.below {base:Nat} {w w':World} {v:Value} {B:List Int} (h:OwH base w v B) (g:Below w.heap.size w w'):OwH base w' v B:=own_below h g
theorem OwH.app {base:Nat} {w0 w w':World} {v:Value} {B:List Int} (h:OwH base w v B) (hb:base≤w.heap.size) (b:Below base w0 w) (g:w.grownBy w' v.ownBlock):Below base w0 w':=
 b.grown g hb (fun k hk=>(h.lt k hk).1)
set_option maxHeartbeats 2000000 in
theorem w_pmake (v:Value) (xs:List Int) (wide:Bool) (w:World) (h:Rd .u8 w v xs) (hb:bytesL xs) (hz:xs.length≤140737488355328):
  Calls Tryz.prog 26 #[v, .bool wide] w fun e w'=>∃v',e= .returned (.tuple #[v', .int .i64 (makF xs wide).2])∧OwH w.heap.size w' v' (makF xs wide).1∧Below w.heap.size w w':=by
 have hlen:=rd_len h uB (P:=Tryz.prog)
 by_cases hl:(8184:Int) < xs.length
 ·have e:makF xs wide=([],3):=by unfold makF;rw[if_pos (by omega)]
  rw[e]
  clear e
  go_enter Tryz.func26,Tryz.ntmps26
  go_wp2_with fail
  go_ret2
  exact ⟨_,rfl,World.ownsRow_nil _ _ _ _,Below.refl _ _⟩
 ·have e:makF xs wide=(hdF xs wide++xs,0):=by unfold makF;rw[if_neg (by omega)]
  rw[e]
  clear e
  obtain ⟨i0,hi,hz0,hz1,hz2⟩:=info_parts infoU8
  have cS:=w_psum v xs w h hb hz
  have hsb:=sum_bd xs
  obtain ⟨m0,m1⟩:=hsb
  have hH:Hid (hdF xs wide=[mkFh wide,8]++[sumF xs / 256,sumF xs%256]++[(8+(xs.length:Int)) / 16777216,(8+(xs.length:Int)) / 65536%256,(8+(xs.length:Int)) / 256%256,(8+(xs.length:Int))%256]):=by
   show _=_
   simp only[hdF,beB4,List.cons_append,List.nil_append,List.cons.injEq,and_true,true_and]
   omega
  obtain ⟨H,hHe⟩:∃H,hdF xs wide=H:=⟨_,rfl⟩
  obtain ⟨s,hs⟩:∃s,sumF xs=s:=⟨_,rfl⟩
  obtain ⟨M,hM⟩:∃M,mkFh wide=M:=⟨_,rfl⟩
  have cM:=fun w=>w_pmark wide w
  rw[hM] at hH cM
  rw[hs] at cS hH m0 m1
  rw[hHe] at hH ⊢
  clear hs hHe hM
  have w1:IntKind.u8.wrap (s / 256)=s / 256:=by rw[IntKind.wrap_u8];omega
  have w2:IntKind.u8.wrap s=s%256:=by rw[IntKind.wrap_u8]
  obtain ⟨n,hn⟩:∃n:Nat,n=8+xs.length:=⟨_,rfl⟩
  have hni:(8+(xs.length:Int))=n:=by omega
  rw[hni] at hH
  have hnl:(n:Int)≤8192:=by omega
  have Hn:=hid hn
  have Hni:=hid hni
  have hnw:IntKind.i64.wrap (8+(xs.length:Int))=(n:Int):=by rw[hni,IntKind.wrap_i64];omega
  have w3:IntKind.u8.wrap ((n:Int) / 16777216)=(n:Int) / 16777216:=by rw[IntKind.wrap_u8];omega
  have w4:IntKind.u8.wrap ((n:Int) / 65536)=(n:Int) / 65536%256:=by rw[IntKind.wrap_u8]
  have w5:IntKind.u8.wrap ((n:Int) / 256)=(n:Int) / 256%256:=by rw[IntKind.wrap_u8]
  have w6:IntKind.u8.wrap (n:Int)=(n:Int)%256:=by rw[IntKind.wrap_u8]
  obtain ⟨wm,hmk,how,hgw⟩:=run_make_own (P:=Tryz.prog) w w.heap.size 29 5 i0 (.int .u8 0) 1 Tryz.underlying29 hi hz0 hz1 .i64 .i64 n (by rw[hz2];omega) (by unfold maxLen;omega) (Nat.le_refl _)
  have bm:Below w.heap.size w wm:=below_grown (Below.refl _ _) hgw (fun k hk=>by cases hk)
  obtain ⟨U0,hU0⟩:∃U,Value.slice (some ⟨w.heap.size,0,none⟩) 0 n=U:=⟨_,rfl⟩
  rw[hU0] at hmk how
  have o0:OwH w.heap.size wm U0 []:=how
  clear hU0 hgw hn hni how
  go_enter Tryz.func26,Tryz.ntmps26
  go_wp2_with (first
   |(go_at_call 48;refine cS.mono ?_;rintro e q0 ⟨rfl,hw⟩;obtain rfl:=hw.symm)
   |(go_at_call 49;refine (cM _).mono ?_;rintro e q0 ⟨rfl,hw⟩;obtain rfl:=hw.symm)
   |(at_builtin;refine wpList_append_rd (k:= .u8) rfl _ _ 29 rfl w.heap.size 5 i0 1 Tryz.underlying29 hi hz0 hz1 hz2 v3 ([]++[M,8]++[s / 256,s%256]++[(n:Int) / 16777216,(n:Int) / 65536%256,(n:Int) / 256%256,(n:Int)%256]) rfl o3 _ xs rfl (h.below b3) (by unfold maxLen;simp only[List.length_append,List.length_cons,List.length_nil];omega) (by simp only[List.length_append,List.length_cons,List.length_nil];omega) b3.size ?_;intro v4 w4 p g;have o4:OwH w.heap.size w4 v4 ([]++[M,8]++[s / 256,s%256]++[(n:Int) / 16777216,(n:Int) / 65536%256,(n:Int) / 256%256,(n:Int)%256]++xs):=p;have b4:=OwH.app o3 b3.size b3 g;clear p g)
   |(at_builtin;refine wpList_append_rd (k:= .u8) rfl _ _ 29 rfl w.heap.size 5 i0 1 Tryz.underlying29 hi hz0 hz1 hz2 v2 ([]++[M,8]++[s / 256,s%256]) rfl (o2.below (box_below w2 _)) _ [(n:Int) / 16777216,(n:Int) / 65536%256,(n:Int) / 256%256,(n:Int)%256] rfl (rd_lit w2 [(n:Int) / 16777216,(n:Int) / 65536%256,(n:Int) / 256%256,(n:Int)%256] 5 (by simp) (by simp[maxLen])) (by unfold maxLen;simp only[List.length_append,List.length_cons,List.length_nil];omega) (by simp only[List.length_append,List.length_cons,List.length_nil];omega) (by rw[size_al];have:=b2.size;omega) ?_;intro v3 w3 p g;have o3:OwH w.heap.size w3 v3 ([]++[M,8]++[s / 256,s%256]++[(n:Int) / 16777216,(n:Int) / 65536%256,(n:Int) / 256%256,(n:Int)%256]):=p;have b3:=OwH.app (o2.below (box_below w2 _)) (by rw[size_al];have:=b2.size;omega) (b2.trans ((box_below w2 _).mono b2.size)) g;clear p g)
   |(at_builtin;refine wpList_append_rd (k:= .u8) rfl _ _ 29 rfl w.heap.size 5 i0 1 Tryz.underlying29 hi hz0 hz1 hz2 v1 ([]++[M,8]) rfl (o1.below (box_below w1 _)) _ [s / 256,s%256] rfl (rd_lit w1 [s / 256,s%256] 5 (by simp) (by simp[maxLen])) (by unfold maxLen;simp only[List.length_append,List.length_cons,List.length_nil];omega) (by simp only[List.length_append,List.length_cons,List.length_nil];omega) (by rw[size_al];have:=b1.size;omega) ?_;intro v2 w2 p g;have o2:OwH w.heap.size w2 v2 ([]++[M,8]++[s / 256,s%256]):=p;have b2:=OwH.app (o1.below (box_below w1 _)) (by rw[size_al];have:=b1.size;omega) (b1.trans ((box_below w1 _).mono b1.size)) g;clear p g)
   |(at_builtin;refine wpList_append_rd (k:= .u8) rfl _ _ 29 rfl w.heap.size 5 i0 1 Tryz.underlying29 hi hz0 hz1 hz2 U0 [] rfl (o0.below (box_below wm _)) _ [M,8] rfl (rd_lit wm [M,8] 5 (by simp) (by simp[maxLen])) (by unfold maxLen;simp only[List.length_append,List.length_cons,List.length_nil];omega) (by simp only[List.length_append,List.length_cons,List.length_nil];omega) (by rw[size_al];have:=bm.size;omega) ?_;intro v1 w1 p g;have o1:OwH w.heap.size w1 v1 ([]++[M,8]):=p;have b1:=OwH.app (o0.below (box_below wm _)) (by rw[size_al];have:=bm.size;omega) (bm.trans ((box_below wm _).mono bm.size)) g;clear p g))
  go_ret2
  refine ⟨v4,rfl, ?_,b4⟩
  rw[hH.out]
  simpa using o4
open Go.ChangeShapes Go.WideShapes Go.ChangeAt Go.RowKit Go.Maps
def alS:ByteArray:=⟨#[58,32,120,32,105,102,32,49,32,116,104,101,110,32,59]⟩
def alT:List Tq:=[⟨182,2048,[120],0⟩,⟨183,0,[],0⟩,⟨20,0,[],4⟩,⟨166,0,[],0⟩,⟨178,0,[],0⟩,⟨194,0,[],0⟩,⟨0,0,[],0⟩]
theorem al_cut:(cutF (L alS)).2=0:=by decide+kernel
theorem al_tok:toksG lit (cutF (L alS)).1=(alT,0):=by decide+kernel
theorem tq_new (w:World) (l:List Tq) (hl:l.length≤maxLen):OwQs w.heap.size (w.alloc (.cells (l.flatMap tqC).toArray 40)) (.slice (some ⟨w.heap.size,0,none⟩) l.length l.length) l:=by
 have h4:(l.flatMap tqC).length=l.length*4:=by
  rw[flat_same,flat_len _ 4 (fun r hr=>by obtain ⟨x,_,rfl⟩:=List.mem_map.1 hr;rfl),List.length_map]
 refine ⟨h4,Or.inr ⟨w.heap.size,l.length,(l.flatMap tqC).toArray,rfl,Nat.le_refl _,heap_alloc_new w _,Nat.le_refl _,hl,by simpa using h4, ?_⟩⟩
 exact List.take_of_length_le (by simpa using Nat.le_of_eq h4)
set_option maxHeartbeats 2000000 in
set_option maxRecDepth 100000 in
theorem fw_alive15 (w:World) (hT:Tab w):Calls Tryz.prog 7 #[] w fun e w'=>e= .returned (.bool true)∧Below w.heap.size w w':=by
 have ct:=fw_tokens alS w (by decide) hT
 unfold TokQ at ct
 rw[al_tok] at ct
 have hc:=al_cut
 have hby:∀x∈alT,bytesL x.t:=by
  have h:alT.all (fun x=>x.t.all (fun c=>decide (0≤c∧c < 256)))=true:=by decide+kernel
  intro x hx c hc
  have:=List.all_eq_true.1 (List.all_eq_true.1 h x hx) c hc
  simpa using this
 unfold alS at ct hc
 go_enter Tryz.func7,Tryz.ntmps7
 go_upto_region 2 with (first|(go_at_call 8;refine ct.mono ?_;rintro e w1 ⟨b1,v,E,rfl,h1,h2⟩;obtain ⟨h3,r1⟩:=h2 hc;replace r1:=OwQs.read r1;obtain rfl:E=0:=h3;obtain ⟨va,vc,rfl⟩:=slr_slice r1)|fail)
 have b2:=box_below w1 (.cells (alT.flatMap tqC).toArray 40)
 have cs:=w_r13same (.slice va alT.length vc) (.slice (some ⟨w1.heap.size,0,none⟩) 7 7) alT alT _ (SlR.below r1 b2 (fun _ _ q=>q)) (OwQs.read (tq_new w1 alT (by decide))) hby hby
 rw[decide_eq_true rfl] at cs
 have eC:(alT.flatMap tqC).toArray=#[.int .i64 182, .int .u32 2048, .string ⟨#[120]⟩, .int .i64 0, .int .i64 183, .int .u32 0, .string ⟨#[]⟩, .int .i64 0, .int .i64 20, .int .u32 0, .string ⟨#[]⟩, .int .i64 4, .int .i64 166, .int .u32 0, .string ⟨#[]⟩, .int .i64 0, .int .i64 178, .int .u32 0, .string ⟨#[]⟩, .int .i64 0, .int .i64 194, .int .u32 0, .string ⟨#[]⟩, .int .i64 0, .int .i64 0, .int .u32 0, .string ⟨#[]⟩, .int .i64 0]:=rfl
 rw[eC] at cs b2
 go_wp2_with (first|(go_at_call 10;refine cs.mono ?_;rintro e w3 ⟨rfl,b3⟩)|fail)
 go_ret
 exact ⟨rfl,below_trans b1 (below_trans b2 b3)⟩
def cplF (T:List Tq×Int):List Int×Int:=if ¬T.2=0 then ([],T.2) else if ¬(encF T.1 true).2=0 then ([],(encF T.1 true).2) else makF (encF T.1 true).1 true
theorem mak_R:∀(k:Nat) (m:Mk) (l:List Tk) (n B:Int) (m':Mk),MkG m→MkR m n→TkC l→n+3*wt l≤B→makG lit k m l= .inl m'→MkR m' B
 |k,m,[],n,B,m',_,r,_,hB,e=>by
  have:makG lit k m []= .inl m:=by cases k <;> rfl
  rw[this] at e
  injection e with e
  subst e
  exact r.le (by omega)
 |0,m,x::l,n,B,m',_,r,_,hB,e=>by
  rw[makG] at e
  injection e with e
  subst e
  exact r.le (by omega)
 |k+1,m,x::l,n,B,m',g,r,tb,hB,e=>by
  rw[mak_cons] at e
  have S:=stp_tok r g tb
  rcases ht:tok1F lit m x l with ⟨m1,q⟩|E
  ·rw[ht] at e
   simp only at e
   obtain ⟨r5,q1,q2,q3⟩:=S.ok m1 q ht
   exact mak_R k m1 q _ B m' (g.tok1 ht) r5 q2 (by omega) e
  ·rw[ht] at e
   cases e
def preS:List Tq→Nat→Int
 |_,0=>0
 |[],_+1=>0
 |t::l,n+1=>szT t+preS l n
theorem szT_nn (t:Tq):0≤szT t:=by unfold szT;omega
theorem preS_nn:∀(l:List Tq) (n:Nat),0≤preS l n
 |_,0=>by simp[preS]
 |[],_+1=>by simp[preS]
 |t::l,n+1=>by have:=preS_nn l n;have:=szT_nn t;simp only[preS];omega
theorem preS_le:∀(l:List Tq) (n:Nat),preS l n≤szL l
 |l,0=>by
  have h:=preS_nn
  induction l with
  |nil=>simp[preS,szL]
  |cons t l ih=>have:=szT_nn t;simp only[preS,szL,List.map_cons,List.sum_cons] at ih ⊢;omega
 |[],_+1=>by simp[preS,szL]
 |t::l,n+1=>by have:=preS_le l n;simp only[preS,szL,List.map_cons,List.sum_cons] at this ⊢;omega
theorem preS_all:∀(l:List Tq),preS l l.length=szL l
 |[]=>by simp[preS,szL]
 |t::l=>by have:=preS_all l;simp only[List.length_cons,preS,this];simp[szL]
theorem preS_step:∀(l:List Tq) (n:Nat),n < l.length→preS l (n+1)=preS l n+szT (l.getD n ⟨0,0,[],0⟩)
 |[],n,h=>by simp at h
 |t::l,0,h=>by cases l <;> simp[preS]
 |t::l,n+1,h=>by
  have:=preS_step l n (by simpa using h)
  simp only[preS,List.getD_cons_succ] at this ⊢
  omega
theorem ends_at:∀(l:List Tq) (a:Int) (k:Nat),k < l.length→(endsF a l).getD k 0=a+preS l (k+1)
 |[],_,_,h=>by simp at h
 |t::l,a,0,h=>by cases l <;> simp[endsF,preS,szT]
 |t::l,a,k+1,h=>by
  have:=ends_at l (a+(byQ t true).length) k (by simpa using h)
  simp only[endsF,List.getD_cons_succ,this,preS,szT]
  omega
theorem endg_len:∀(l:List Tq) (a:Int),(endsF a l).length=l.length
 |[],_=>rfl
 |t::l,a=>by simp[endsF,endg_len l]
theorem endg_bd (l:List Tq) (k:Nat):0≤(endsF 0 l).getD k 0∧(endsF 0 l).getD k 0≤szL l:=by
 by_cases h:k < l.length
 ·rw[ends_at l 0 k h]
  have:=preS_nn l (k+1)
  have:=preS_le l (k+1)
  omega
 ·rw[List.getD_eq_getElem?_getD,List.getElem?_eq_none (by rw[endg_len];omega)]
  have:=preS_le l 0
  simp only[preS,Option.getD_none] at this ⊢
  omega
theorem offL_keep (ends:List Int) (i:Nat):∀(r:List (Int×Int)) (l:List Tq),(¬∃q∈r,q.1.toNat=i)→((offL ends r l).getD i ⟨0,0,[],0⟩).o=(l.getD i ⟨0,0,[],0⟩).o
 |[],l,_=>rfl
 |q::r,l,hn=>by
  rw[offL,offL_keep ends i r _ (fun ⟨z,hz,hz2⟩=>hn ⟨z,List.mem_cons_of_mem _ hz,hz2⟩)]
  have hq:¬q.1.toNat=i:=fun z=>hn ⟨q,List.mem_cons_self ..,z⟩
  rw[List.getD_eq_getElem?_getD,List.getElem?_set,if_neg hq,←List.getD_eq_getElem?_getD]
theorem okB_off {k:Nat} {t t':Tq} (hc:t'.c=t.c) (hn:t'.n=t.n) (ht:t'.t=t.t) (h:okB k t true=true) (ho:¬k=4→t'.o=t.o) (h4:k=4→offF t'.o true=true):okB k t' true=true:=by
 by_cases e:k=4
 ·subst e
  have:=h4 rfl
  simp only[okB,hn,ht,this] at h ⊢
  simp only[Bool.and_eq_true] at h ⊢
  exact ⟨h.1,trivial⟩
 ·have e2:t'=t:=by
   obtain ⟨c,n,s,o⟩:=t
   obtain ⟨c',n',s',o'⟩:=t'
   have:=ho e
   simp only at hc hn ht this
   rw[hc,hn,ht,this]
  rw[e2]
  exact h
structure RgQ (l:List Tq):Prop where
 ok:∀t∈l,okQ t true=true∧gQ t∧ -20000≤t.o∧t.o≤20000
 tl:∀t∈l,t.t.length≤255
 ord:ordF l 2048
 len:0 < l.length
 last:(l.getD (l.length - 1) ⟨0,0,[],0⟩).c=0
 off:∀i:Nat,i < l.length→bhF (efC (l.getD i ⟨0,0,[],0⟩))=4→∃k < l.length,(l.getD i ⟨0,0,[],0⟩).o=preS l (k+1) - (preS l (i+1) - 2)
 tot:szL l≤12401
theorem okQ_tl {t:Tq} (h:okQ t true=true) (h16:¬bhF t.c=1→True):t.t.length≤255:=by
 unfold okQ at h
 simp only[Bool.and_eq_true] at h
 have h2:=h.2
 have hk:bhF t.c≤6:=by unfold bhF;repeat' split <;> try omega
 generalize bhF t.c=k at h2 hk
 match k,hk with
 |0,_=>simp[okB] at h2;simp[h2]
 |1,_=>simp[okB] at h2;simp[h2]
 |2,_=>simp[okB] at h2;simp[h2]
 |3,_=>simp[okB] at h2;omega
 |4,_=>simp[okB] at h2;simp[h2]
 |5,_=>simp[okB] at h2;simp[h2]
 |6,_=>simp[okB] at h2;omega
theorem toks_rg {X:List Tk} (tc:TkC X) (hw:wt X≤4097) (h:(toksG lit X).2=0) (he:∀E,makG lit X.length mk0 X= .inr E→¬E=0):RgQ (toksG lit X).1:=by
 rcases hm:makG lit X.length mk0 X with m|E
 ·cases ho:m.op
  ·have ht:toksG lit X=(offL (endsF 0 (addT m 0 0 []).out) m.fl.pr (addT m 0 0 []).out,0):=by unfold toksG;rw[hm];simp only;rw[if_neg (by rw[ho];simp)]
   rw[ht]
   simp only
   have g:MkG m:=MkG.mak _ mk0_ok hm
   have r:MkR m 12400:=mak_R _ _ _ 0 12400 m mk0_ok mk0_R tc (by omega) hm
   obtain ⟨l,hl⟩:∃l,offL (endsF 0 (addT m 0 0 []).out) m.fl.pr (addT m 0 0 []).out=l:=⟨_,rfl⟩
   obtain ⟨R1,R2,R3,R4⟩:=g.right ho hl.symm
   have hO:(addT m 0 0 []).out=m.out++[⟨0,0,[],0⟩]:=rfl
   have hOk:∀t∈(addT m 0 0 []).out,okQ t true=true∧gQ t∧t.o=0:=by
    intro t ht
    rw[hO] at ht
    rcases List.mem_append.1 ht with ht|ht
    ·exact r.ok t ht
    ·simp only[List.mem_singleton] at ht
     subst ht
     exact ⟨by decide+kernel,gQ_cd 0,rfl⟩
   have hL:(addT m 0 0 []).out.length=m.out.length+1:=by rw[hO];simp
   have hsz:szL (addT m 0 0 []).out≤12401:=by
    have:=r.sz
    rw[hO]
    unfold szL at this ⊢
    rw[List.map_append,List.sum_append]
    have e0:szT ⟨0,0,[],0⟩=1:=by decide+kernel
    simp only[List.map_cons,List.map_nil,List.sum_cons,List.sum_nil,e0]
    omega
   have hE:endsF 0 l=endsF 0 (addT m 0 0 []).out:=by rw[←hl];exact endsF_map _ _ _ (offL_map _ _ _)
   have hszl:szL l=szL (addT m 0 0 []).out:=by
    have e1:∀(a b:List Tq),a.map cnT=b.map cnT→szL a=szL b:=by
     intro a
     induction a with
     |nil=>intro b hb;cases b with
      |nil=>rfl
      |cons=>simp at hb
     |cons x a ih=>intro b hb;cases b with
      |nil=>simp at hb
      |cons y b=>
       simp only[List.map_cons,List.cons.injEq] at hb
       have:=ih b hb.2
       have h2:=byQ_len hb.1
       simp only[szL,List.map_cons,List.sum_cons,szT] at this ⊢
       omega
    rw[←hl];exact e1 _ _ (offL_map _ _ _)
   rw[hl]
   have hAt:∀i:Nat,i < l.length→okQ (l.getD i ⟨0,0,[],0⟩) true=true∧gQ (l.getD i ⟨0,0,[],0⟩)∧ -20000≤(l.getD i ⟨0,0,[],0⟩).o∧(l.getD i ⟨0,0,[],0⟩).o≤20000:=by
    intro i hi
    obtain ⟨c1,c2,c3⟩:=offL_same (endsF 0 (addT m 0 0 []).out) m.fl.pr (addT m 0 0 []).out i
    rw[hl] at c1 c2 c3
    have hi2:i < (addT m 0 0 []).out.length:=by omega
    have hmem:(addT m 0 0 []).out.getD i ⟨0,0,[],0⟩∈(addT m 0 0 []).out:=by
     rw[getD_get _ _ hi2];exact List.getElem_mem hi2
    obtain ⟨k1,k2,k3⟩:=hOk _ hmem
    have hcase:(l.getD i ⟨0,0,[],0⟩).o=0∨bhF (l.getD i ⟨0,0,[],0⟩).c=4∧ -20000≤(l.getD i ⟨0,0,[],0⟩).o∧(l.getD i ⟨0,0,[],0⟩).o≤20000:=by
     by_cases hp:∃q∈m.fl.pr,q.1.toNat=i
     ·obtain ⟨p,hp1,hp2,hp3⟩:=offL_at (endsF 0 (addT m 0 0 []).out) m.fl.pr (addT m 0 0 []).out i hi2 hp
      rw[hl] at hp3
      have b1:=endg_bd (addT m 0 0 []).out p.2.toNat
      have b2:=endg_bd (addT m 0 0 []).out i
      refine Or.inr ⟨?_,by omega,by omega⟩
      obtain ⟨f1,f2,f3⟩:=g.fl.pr p hp1
      rw[c1]
      unfold cdA at f2
      rw[hp2] at f2
      unfold inR at f1
      rw[hO,List.getD_eq_getElem?_getD,List.getElem?_append_left (by omega),←List.getD_eq_getElem?_getD]
      exact f2
     ·left
      have:=offL_keep (endsF 0 (addT m 0 0 []).out) i m.fl.pr (addT m 0 0 []).out hp
      rw[hl,k3] at this
      exact this
    refine ⟨?_,⟨by rw[c2];exact k2.1,by rw[c2];exact k2.2.1,by rw[c3];exact k2.2.2⟩, ?_⟩
    ·unfold okQ at k1 ⊢
     simp only[Bool.and_eq_true] at k1 ⊢
     rw[c1]
     refine ⟨k1.1,okB_off c1 c2 c3 k1.2 (fun h4=> ?_) (fun h4=> ?_)⟩
     ·rcases hcase with h|⟨h,_⟩
      ·rw[h,k3]
      ·rw[c1] at h;exact absurd h h4
     ·unfold offF
      rcases hcase with h|⟨_,h1,h2⟩
      ·rw[h];decide
      ·simp only[if_true,Bool.and_eq_true,decide_eq_true_eq];omega
    ·rcases hcase with h|⟨_,h1,h2⟩
     ·omega
     ·exact ⟨h1,h2⟩
   have hall:∀t∈l,okQ t true=true∧gQ t∧ -20000≤t.o∧t.o≤20000:=by
    intro t ht
    obtain ⟨i,hi,rfl⟩:=List.getElem_of_mem ht
    have:=hAt i hi
    rw[getD_get _ _ hi] at this
    exact this
   refine ⟨hall,fun t ht=>okQ_tl (hall t ht).1 (fun _=>trivial),R1,by omega, ?_, ?_,by omega⟩
   ·rw[R2,Nat.add_sub_cancel]
    have:=R3
    unfold cdA at this
    rw[Int.toNat_natCast] at this
    exact this
   ·intro i hi hb
    obtain ⟨k,hk,hk2⟩:=R4 i hi hb
    rw[ends_at l 0 k hk,ends_at l 0 i hi] at hk2
    exact ⟨k,hk,by omega⟩
  ·exfalso
   unfold toksG at h
   rw[hm] at h
   simp only[ho,↓reduceIte] at h
   exact absurd h (by decide)
 ·exfalso
  have ht:toksG lit X=([],E):=by unfold toksG;rw[hm]
  rw[ht] at h
  exact he E hm h
theorem mak_err:∀(k:Nat) (m:Mk) (l:List Tk) (n:Int),MkG m→MkR m n→TkC l→∀E,makG lit k m l= .inr E→¬E=0
 |k,m,[],n,_,r,_,E,e=>by
  have:makG lit k m []= .inl m:=by cases k <;> rfl
  rw[this] at e
  cases e
 |0,m,x::l,n,_,r,_,E,e=>by
  rw[makG] at e
  cases e
 |k+1,m,x::l,n,g,r,tb,E,e=>by
  rw[mak_cons] at e
  have S:=stp_tok r g tb
  rcases ht:tok1F lit m x l with ⟨m1,q⟩|E1
  ·rw[ht] at e
   simp only at e
   obtain ⟨r5,q1,q2,q3⟩:=S.ok m1 q ht
   exact mak_err k m1 q _ (g.tok1 ht) r5 q2 E e
  ·rw[ht] at e
   simp only at e
   injection e with e
   subst e
   exact S.er _ ht
theorem all_ok:∀(l:List Tq),(∀t∈l,okQ t true=true)→allB l true=some (l.flatMap (byQ · true))
 |[],_=>rfl
 |t::l,h=>by
  have e:=all_ok l (fun x hx=>h x (List.mem_cons_of_mem _ hx))
  have h1:=h t (List.mem_cons_self ..)
  simp only[allB,h1,if_true]
  have:wdF true t.c=true:=by simp[wdF]
  rw[this,e]
  rfl
theorem enc_ok (l:List Tq) (h:∀t∈l,okQ t true=true):encF l true=if 8192 < (l.flatMap (byQ · true)).length then ([],3) else (l.flatMap (byQ · true),0):=by
 unfold encF finF
 rw[all_ok l h]
 simp
theorem flat_sz:∀(l:List Tq),((l.flatMap (byQ · true)).length:Int)=szL l
 |[]=>rfl
 |t::l=>by have:=flat_sz l;simp only[List.flatMap_cons,List.length_append,szL,List.map_cons,List.sum_cons,szT] at this ⊢;omega
theorem tks_rg (s:ByteArray) (h:(tksF s).2=0):RgQ (tksF s).1:=by
 by_cases he:(cutF (L s)).2=0
 ·have e:tksF s=toksG lit (cutF (L s)).1:=by unfold tksF;rw[if_neg (fun h=>h he)]
  rw[e] at h ⊢
  exact toks_rg (cut_TkC s) (cut_wt _) h (mak_err _ _ _ 0 mk0_ok mk0_R (cut_TkC s))
 ·exfalso
  have e:tksF s=([],errE (L s)):=by unfold tksF;rw[if_pos he]
  rw[e] at h
  simp only[errE] at h
  split at h
  ·exact absurd h (by decide)
  ·exact absurd h (by assumption)
theorem tks_nil (s:ByteArray) (h:¬(tksF s).2=0):(tksF s).1=[]:=by
 by_cases he:(cutF (L s)).2=0
 ·have e:tksF s=toksG lit (cutF (L s)).1:=by unfold tksF;rw[if_neg (fun h=>h he)]
  rw[e] at h ⊢
  unfold toksG at h ⊢
  split
  ·rfl
  ·split
   ·rfl
   ·rename_i m hm ho
    rw[hm] at h
    simp only at h
    rw[if_neg ho] at h
    exact absurd rfl h
 ·have e:tksF s=([],errE (L s)):=by unfold tksF;rw[if_pos he]
  rw[e]
theorem rd_nilB (w:World):Rd .u8 w (.slice none 0 0) []:=(Rd_own (base:=0) (e:=5) (n:=0) (xs:=[]) (World.ownsRow_nil _ _ _ _)).1
def cpgF (s:ByteArray):List Int×Int:=cplF (tksF s)
def CpgQ (w:World) (s:ByteArray) (e:Ending) (w':World):Prop:=∃v,e= .returned (.tuple #[v, .int .i64 (cpgF s).2])∧Rd .u8 w' v (cpgF s).1∧Below w.heap.size w w'
theorem flat_byt (l:List Tq) (h:∀t∈l,okQ t true=true∧gQ t):bytesL (l.flatMap (byQ · true)):=by
 intro x hx
 obtain ⟨t,ht,hx⟩:=List.mem_flatMap.1 hx
 exact bytes_by t true (h t ht).2 (h t ht).1 x hx
set_option maxHeartbeats 4000000 in
set_option maxRecDepth 100000 in
theorem fw_compile (s:ByteArray) (w:World) (hs:s.size≤maxLen) (hT:Tab w):Calls Tryz.prog 11 #[.string s] w (CpgQ w s):=by
 have ct:=fw_tokensD s w hs hT
 have hrg:=tks_rg s
 have hnil:=tks_nil s
 unfold TokD at ct
 unfold CpgQ cpgF
 obtain ⟨⟨T,E⟩,hX⟩:∃x,tksF s=x:=⟨_,rfl⟩
 rw[hX] at ct hrg hnil
 rw[hX]
 simp only at ct hrg hnil
 clear hX
 by_cases he:E=0
 ·subst he
  have rg:=hrg rfl
  have hok:=enc_ok T (fun t ht=>(rg.ok t ht).1)
  have hsz:=flat_sz T
  have hby:=flat_byt T (fun t ht=>⟨(rg.ok t ht).1,(rg.ok t ht).2.1⟩)
  have ce:=fun v w h=>w_penc v T true w h (fun t ht=>(rg.ok t ht).2.1) (fun t ht=>by have:=rg.tl t ht;unfold maxLen;omega)
  rw[hok] at ce
  by_cases hl:8192 < (T.flatMap (byQ · true)).length
  ·have hc:cplF (T,0)=([],3):=by
    unfold cplF
    rw[if_neg (fun h=>h rfl),hok,if_pos hl,if_pos (by decide)]
   rw[hc]
   rw[if_pos hl] at ce
   simp only at ce ⊢
   clear hrg hnil rg hok hsz hby hl hc
   go_enter Tryz.func11,Tryz.ntmps11
   go_wp2_with (first|(go_at_call 8;refine ct.mono ?_;rintro e w1 ⟨v,rfl,h1,b1⟩;replace h1:=OwQs.read h1)|(go_at_call 25;refine (ce _ _ h1).mono ?_;rintro e w2 ⟨v2,rfl,h2,b2⟩)|fail)
   go_ret2
   exact ⟨_,rfl,rd_nilB _,below_trans b1 b2⟩
  ·rw[if_neg hl] at ce
   obtain ⟨B,hB⟩:∃B,T.flatMap (byQ · true)=B:=⟨_,rfl⟩
   rw[hB] at ce hby hl hok
   have cm:=fun v w h=>w_pmake v B true w h hby (by omega)
   have hc:cplF (T,0)=makF B true:=by
    unfold cplF
    rw[if_neg (fun h=>h rfl),hok,if_neg hl,if_neg (fun h=>h rfl)]
   rw[hc]
   simp only at ce ⊢
   obtain ⟨⟨M,F⟩,hM⟩:∃x,makF B true=x:=⟨_,rfl⟩
   rw[hM] at cm
   rw[hM]
   simp only at cm ⊢
   clear hrg hnil rg hok hsz hby hl hc hB hM
   go_enter Tryz.func11,Tryz.ntmps11
   go_wp2_with (first|(go_at_call 8;refine ct.mono ?_;rintro e w1 ⟨v,rfl,h1,b1⟩;replace h1:=OwQs.read h1)|(go_at_call 25;refine (ce _ _ h1).mono ?_;rintro e w2 ⟨v2,rfl,h2,b2⟩)|(go_at_call 26;refine (cm _ _ h2).mono ?_;rintro e w3 ⟨v3,rfl,h3,b3⟩)|fail)
   go_ret2
   exact ⟨_,rfl,(Rd_own h3).1,below_trans b1 (below_trans b2 b3)⟩
 ·have hE1:(E !=0)=true:=by simpa using he
  have hc:cplF (T,E)=([],E):=by unfold cplF;rw[if_pos he]
  rw[hc]
  simp only
  clear hrg hnil hc
  go_enter Tryz.func11,Tryz.ntmps11
  go_wp2_with (first|(go_at_call 8;refine ct.mono ?_;rintro e w1 ⟨v,rfl,h1,b1⟩)|fail)
  go_ret2
  exact ⟨_,rfl,rd_nilB _,b1⟩
open Go.ChangeShapes Go.WideShapes Go.ChangeAt Go.RowKit
theorem own_litB (w:World) (xs:List Int) (hm:xs.length≤maxLen):OwB w.heap.size (w.alloc (.cells (xs.map (Value.int .u8)).toArray 5)) (.slice (some ⟨w.heap.size,0,none⟩) xs.length xs.length) xs:=
 ⟨by simp, .inr ⟨w.heap.size,xs.length,_,rfl,Nat.le_refl _,heap_alloc_new w _,Nat.le_refl _,hm,by simp,by simp[List.take_of_length_le]⟩⟩
theorem OwB.le {b b':Nat} {w:World} {v:Value} {B:List Int} (h:OwB b' w v B) (hb:b≤b'):OwB b w v B:=own_le hb h
theorem w_rcode (c:Int) (w:World) (hc:cdd c=true):
  Calls Tryz.prog 51 #[.int .i64 c] w fun e w'=>∃v',e= .returned v'∧OwB w.heap.size w' v' (cbF c)∧Below w.heap.size w w':=by
 simp only[cdd,Bool.or_eq_true,Bool.and_eq_true,decide_eq_true_eq] at hc
 by_cases h1:c≤255
 ·have e:cbF c=[c]:=by simp[cbF,h1]
  rw[e]
  have hw:IntKind.u8.wrap c=c:=by rw[IntKind.wrap_u8];omega
  go_enter Tryz.func51,Tryz.ntmps51
  go_wp2_with fail
  go_ret
  exact ⟨_,rfl,own_litB w [c] (by simp[maxLen]),box_below _ _⟩
 ·have e:cbF c=[c / 256,c%256]:=by simp[cbF,h1]
  rw[e]
  have h0:0≤c:=by omega
  have hw:IntKind.u8.wrap (c / 256)=c / 256:=by rw[IntKind.wrap_u8];omega
  have hw2:IntKind.u8.wrap (c%256)=c%256:=by rw[IntKind.wrap_u8];omega
  have ht:Int.tdiv c 256=c / 256:=Int.tdiv_eq_ediv_of_nonneg h0
  have hm:Int.tmod c 256=c%256:=Int.tmod_eq_emod_of_nonneg h0
  go_enter Tryz.func51,Tryz.ntmps51
  go_wp2_with fail
  go_ret
  exact ⟨_,rfl,own_litB w [c / 256,c%256] (by simp[maxLen]),box_below _ _⟩
theorem w_rtwo (n:Int) (w:World) (m0: -9223372036854775808≤n) (m1:n < 9223372036854775808):
  Calls Tryz.prog 52 #[.int .i64 n] w fun e w'=>∃v' x y,e= .returned v'∧OwB w.heap.size w' v' [x,y]∧Below w.heap.size w w'∧(0≤n→x=n / 256%256∧y=n%256):=by
 by_cases h0:0≤n
 ·have ht:Int.tdiv n 256=n / 256:=Int.tdiv_eq_ediv_of_nonneg h0
  have hm:Int.tmod n 256=n%256:=Int.tmod_eq_emod_of_nonneg h0
  have hm2:Int.tmod (n / 256) 256=n / 256%256:=Int.tmod_eq_emod_of_nonneg (by omega)
  have hw:IntKind.u8.wrap (n / 256%256)=n / 256%256:=by rw[IntKind.wrap_u8];omega
  have hw2:IntKind.u8.wrap (n%256)=n%256:=by rw[IntKind.wrap_u8];omega
  go_enter Tryz.func52,Tryz.ntmps52
  go_wp2_with fail
  go_ret
  exact ⟨_,_,_,rfl,own_litB w [n / 256%256,n%256] (by simp[maxLen]),box_below _ _,fun _=>⟨rfl,rfl⟩⟩
 ·have H0:=hid h0
  clear h0
  go_enter Tryz.func52,Tryz.ntmps52
  go_wp2_with fail
  go_ret
  exact ⟨_,rfl,Int.tmod (Int.tdiv n 256) 256%256,Int.tmod n 256%256,own_litB w [_,_] (by simp[maxLen]),box_below _ _,fun h=>by have:=H0.out;omega⟩
set_option maxHeartbeats 4000000 in
set_option maxRecDepth 100000 in
theorem w_rbytes0 (c n o:Int) (S:ByteArray) (wide:Bool) (w:World) (n0:0≤n) (n1:n < 4294967296) (hs:S.size≤maxLen) (hc:cdd c=true) (hk:bhF c=0):
  Calls Tryz.prog 27 #[.agg #[.int .i64 c, .int .u32 n, .string S, .int .i64 o], .bool wide] w fun e w'=>∃v1,e= .returned (.tuple #[v1, .bool (okB 0 ⟨c,n,LB S,o⟩ wide)])∧(okB 0 ⟨c,n,LB S,o⟩ wide=true→OwB w.heap.size w' v1 (cbF c++beQ 0 ⟨c,n,LB S,o⟩ wide))∧Below w.heap.size w w':=by
 obtain ⟨i0,hi,hz0,hz1,hz2⟩:=info_parts infoU8
 have hs2:=hs
 unfold maxLen at hs2
 have cI:=fun w=>w_coded c w
 rw[hc] at cI
 have cB:=fun w=>w_rbehind c w
 rw[hk] at cB
 have cC:=fun w=>w_rcode c w hc
 have hcl:(cbF c).length≤2:=by unfold cbF;split <;> simp
 clear hk hc
 obtain ⟨X,hX⟩:∃X,cbF c=X:=⟨_,rfl⟩
 rw[hX] at hcl ⊢
 simp only[hX] at cC
 clear hX
 rcases Decidable.em (¬n=0) with hn|hn
 ·have e:okB 0 ⟨c,n,LB S,o⟩ wide=false:=by simp[okB,hn]
  rw[e]
  have q1:(n !=0)=true:=by simpa using hn
  have bw:=box_below w (.cells #[.int .i64 c, .int .u32 n, .string S, .int .i64 o] 40)
  clear e hn cC
  go_enter Tryz.func27,Tryz.ntmps27
  go_wp2_with (first
   |(go_at_call 17;refine (cB _).mono ?_;rintro e q ⟨rfl,hw⟩;obtain rfl:=hw.symm)
   |(go_at_call_of 50 (Value.int .i64 c);refine (cI _).mono ?_;rintro e q ⟨rfl,hw⟩;obtain rfl:=hw.symm))
  go_ret2
  exact ⟨_,rfl,(by intro h;cases h),bw⟩
 ·have hn:=Decidable.not_not.1 hn
  subst hn
  rcases Decidable.em (¬LB S=[]) with hS|hS
  ·have e:okB 0 ⟨c,0,LB S,o⟩ wide=false:=by simp[okB,hS]
   rw[e]
   have q0:S.toList.isEmpty=false:=by rw[nil_emp];simpa using hS
   have q1:(S.toList !=(⟨#[]⟩:ByteArray).toList)=true:=by simp only[bne,nil_beq];simpa using hS
   have q2:(S.toList !=[])=true:=by simp only[bne];rw[show (S.toList==[])=S.toList.isEmpty by cases S.toList <;> rfl,q0];rfl
   have bw:=box_below w (.cells #[.int .i64 c, .int .u32 0, .string S, .int .i64 o] 40)
   clear e hS cC
   go_enter Tryz.func27,Tryz.ntmps27
   go_wp2_with (first
    |(go_at_call 17;refine (cB _).mono ?_;rintro e q ⟨rfl,hw⟩;obtain rfl:=hw.symm)
    |(go_at_call_of 50 (Value.int .i64 c);refine (cI _).mono ?_;rintro e q ⟨rfl,hw⟩;obtain rfl:=hw.symm))
   go_ret2
   exact ⟨_,rfl,(by intro h;cases h),bw⟩
  ·have hS:=Decidable.not_not.1 hS
   obtain rfl:S=⟨#[]⟩:=by rw[LB_eq,hS];rfl
   rcases Decidable.em (¬o=0) with ho|ho
   ·have e:okB 0 ⟨c,0,LB ⟨#[]⟩,o⟩ wide=false:=by simp[okB,ho]
    rw[e]
    have q1:(o !=0)=true:=by simpa using ho
    have bw:=box_below w (.cells #[.int .i64 c, .int .u32 0, .string ⟨#[]⟩, .int .i64 o] 40)
    clear e ho cC
    go_enter Tryz.func27,Tryz.ntmps27
    go_wp2_with (first
     |(go_at_call 17;refine (cB _).mono ?_;rintro e q ⟨rfl,hw⟩;obtain rfl:=hw.symm)
     |(go_at_call_of 50 (Value.int .i64 c);refine (cI _).mono ?_;rintro e q ⟨rfl,hw⟩;obtain rfl:=hw.symm))
    go_ret2
    exact ⟨_,rfl,(by intro h;cases h),bw⟩
   ·have ho:=Decidable.not_not.1 ho
    subst ho
    have bw:=box_below w (.cells #[.int .i64 c, .int .u32 0, .string ⟨#[]⟩, .int .i64 0] 40)
    have sw:=stands_new w #[.int .i64 c, .int .u32 0, .string ⟨#[]⟩, .int .i64 0] 40
    go_enter Tryz.func27,Tryz.ntmps27
    go_wp2_with (first
     |(go_at_call_of 51 (Value.int .i64 c);refine (cC _).mono ?_;rintro e w1 ⟨v1,rfl,p1,b1⟩;have hs1:w.heap.size≤w1.heap.size:=(by have h8:=b1.size;rw[size_al] at h8;omega);have o1:=OwB.le p1 (b:=w.heap.size) (by rw[size_al];omega);have l1:=Lay.new (Nat.le_refl w.heap.size) (below_trans bw b1);have st1:=sw.below b1;have f0:=st1.cell 0 _ rfl;have f1:=st1.cell 1 _ rfl;have f2:=st1.cell 2 _ rfl;have f3:=st1.cell 3 _ rfl)
     |(go_at_call 17;refine (cB _).mono ?_;rintro e q ⟨rfl,hw⟩;obtain rfl:=hw.symm)
     |(go_at_call_of 50 (Value.int .i64 c);refine (cI _).mono ?_;rintro e q ⟨rfl,hw⟩;obtain rfl:=hw.symm))
    go_ret2
    refine ⟨v1,rfl,fun _=> ?_,l1.below⟩
    have:=o1
    simpa [beQ] using this
set_option maxHeartbeats 4000000 in
set_option maxRecDepth 100000 in
theorem w_rbytes1 (c n o:Int) (S:ByteArray) (wide:Bool) (w:World) (n0:0≤n) (n1:n < 4294967296) (hs:S.size≤maxLen) (hc:cdd c=true) (hk:bhF c=1):
  Calls Tryz.prog 27 #[.agg #[.int .i64 c, .int .u32 n, .string S, .int .i64 o], .bool wide] w fun e w'=>∃v1,e= .returned (.tuple #[v1, .bool (okB 1 ⟨c,n,LB S,o⟩ wide)])∧(okB 1 ⟨c,n,LB S,o⟩ wide=true→OwB w.heap.size w' v1 (cbF c++beQ 1 ⟨c,n,LB S,o⟩ wide))∧Below w.heap.size w w':=by
 obtain ⟨i0,hi,hz0,hz1,hz2⟩:=info_parts infoU8
 have hs2:=hs
 unfold maxLen at hs2
 have cI:=fun w=>w_coded c w
 rw[hc] at cI
 have cB:=fun w=>w_rbehind c w
 rw[hk] at cB
 have cC:=fun w=>w_rcode c w hc
 have hcl:(cbF c).length≤2:=by unfold cbF;split <;> simp
 clear hk hc
 obtain ⟨X,hX⟩:∃X,cbF c=X:=⟨_,rfl⟩
 rw[hX] at hcl ⊢
 simp only[hX] at cC
 clear hX
 rcases Decidable.em (¬LB S=[]) with hS|hS
 ·have e:okB 1 ⟨c,n,LB S,o⟩ wide=false:=by simp[okB,hS]
  rw[e]
  have q0:S.toList.isEmpty=false:=by rw[nil_emp];simpa using hS
  have q1:(S.toList !=(⟨#[]⟩:ByteArray).toList)=true:=by simp only[bne,nil_beq];simpa using hS
  have q2:(S.toList !=[])=true:=by simp only[bne];rw[show (S.toList==[])=S.toList.isEmpty by cases S.toList <;> rfl,q0];rfl
  have bw:=box_below w (.cells #[.int .i64 c, .int .u32 n, .string S, .int .i64 o] 40)
  clear e hS cC
  go_enter Tryz.func27,Tryz.ntmps27
  go_wp2_with (first
   |(go_at_call 17;refine (cB _).mono ?_;rintro e q ⟨rfl,hw⟩;obtain rfl:=hw.symm)
   |(go_at_call_of 50 (Value.int .i64 c);refine (cI _).mono ?_;rintro e q ⟨rfl,hw⟩;obtain rfl:=hw.symm))
  go_ret2
  exact ⟨_,rfl,(by intro h;cases h),bw⟩
 ·have hS:=Decidable.not_not.1 hS
  obtain rfl:S=⟨#[]⟩:=by rw[LB_eq,hS];rfl
  rcases Decidable.em (¬o=0) with ho|ho
  ·have e:okB 1 ⟨c,n,LB ⟨#[]⟩,o⟩ wide=false:=by simp[okB,ho]
   rw[e]
   have q1:(o !=0)=true:=by simpa using ho
   have bw:=box_below w (.cells #[.int .i64 c, .int .u32 n, .string ⟨#[]⟩, .int .i64 o] 40)
   clear e ho cC
   go_enter Tryz.func27,Tryz.ntmps27
   go_wp2_with (first
    |(go_at_call 17;refine (cB _).mono ?_;rintro e q ⟨rfl,hw⟩;obtain rfl:=hw.symm)
    |(go_at_call_of 50 (Value.int .i64 c);refine (cI _).mono ?_;rintro e q ⟨rfl,hw⟩;obtain rfl:=hw.symm))
   go_ret2
   exact ⟨_,rfl,(by intro h;cases h),bw⟩
  ·have ho:=Decidable.not_not.1 ho
   subst ho
   have bw:=box_below w (.cells #[.int .i64 c, .int .u32 n, .string ⟨#[]⟩, .int .i64 0] 40)
   have sw:=stands_new w #[.int .i64 c, .int .u32 n, .string ⟨#[]⟩, .int .i64 0] 40
   have cA:=fun w=>w_rtwo (n / 65536) w (by omega) (by omega)
   have cD:=fun w=>w_rtwo (n%65536) w (by omega) (by omega)
   have ht:Int.tdiv n 65536=n / 65536:=Int.tdiv_eq_ediv_of_nonneg n0
   have hm:Int.tmod n 65536=n%65536:=Int.tmod_eq_emod_of_nonneg n0
   go_enter Tryz.func27,Tryz.ntmps27
   go_wp2_with (first
    |(at_builtin;refine wpList_append_rd (k:= .u8) rfl _ _ 29 rfl w.heap.size 5 i0 1 Tryz.underlying29 hi hz0 hz1 hz2 v3 (X++[x2,y2]) rfl h4o v4 ([x4,y4]) rfl (Rd_own p4).1 (by unfold maxLen;simp[LB_len];omega) (by simp[LB_len];omega) (by omega) ?_;intro v5 w5 p5 g5;have o5:OwB w.heap.size w5 v5 (X++[x2,y2]++[x4,y4]):=p5;have l5:=l4.trans (Lay.app h4o (by omega) g5);have hs5:w.heap.size≤w5.heap.size:=l5.below.size)
    |(go_at_call 52;have hsto:=o3;refine (cD _).mono ?_;rintro e w4 ⟨v4,x4,y4,rfl,p4,b4,e4⟩;have h4o:=OwB.below o3 b4;have l4:=l3.trans (Lay.new hs3 b4);have hs4:w.heap.size≤w4.heap.size:=l4.below.size)
    |(at_builtin;refine wpList_append_rd (k:= .u8) rfl _ _ 29 rfl w.heap.size 5 i0 1 Tryz.underlying29 hi hz0 hz1 hz2 v1 (X) rfl h2o v2 ([x2,y2]) rfl (Rd_own p2).1 (by unfold maxLen;simp[LB_len];omega) (by simp[LB_len];omega) (by omega) ?_;intro v3 w3 p3 g3;have o3:OwB w.heap.size w3 v3 (X++[x2,y2]):=p3;have l3:=l2.trans (Lay.app h2o (by omega) g3);have hs3:w.heap.size≤w3.heap.size:=l3.below.size)
    |(go_at_call 52;have hsto:=o1;refine (cA _).mono ?_;rintro e w2 ⟨v2,x2,y2,rfl,p2,b2,e2⟩;have h2o:=OwB.below o1 b2;have l2:=l1.trans (Lay.new hs1 b2);have hs2:w.heap.size≤w2.heap.size:=l2.below.size)
    |(go_at_call_of 51 (Value.int .i64 c);refine (cC _).mono ?_;rintro e w1 ⟨v1,rfl,p1,b1⟩;have hs1:w.heap.size≤w1.heap.size:=(by have h8:=b1.size;rw[size_al] at h8;omega);have o1:=OwB.le p1 (b:=w.heap.size) (by rw[size_al];omega);have l1:=Lay.new (Nat.le_refl w.heap.size) (below_trans bw b1);have st1:=sw.below b1;have f0:=st1.cell 0 _ rfl;have f1:=st1.cell 1 _ rfl;have f2:=st1.cell 2 _ rfl;have f3:=st1.cell 3 _ rfl)
    |(go_at_call 17;refine (cB _).mono ?_;rintro e q ⟨rfl,hw⟩;obtain rfl:=hw.symm)
    |(go_at_call_of 50 (Value.int .i64 c);refine (cI _).mono ?_;rintro e q ⟨rfl,hw⟩;obtain rfl:=hw.symm))
   go_ret2
   refine ⟨v5,rfl,fun _=> ?_,l5.below⟩
   have:=o5
   obtain ⟨e21,e22⟩:=e2 (by omega)
   obtain ⟨e41,e42⟩:=e4 (by omega)
   rw[List.append_assoc] at this
   have e9:[x2,y2]++[x4,y4]=[n / 16777216%256,n / 65536%256,n / 256%256,n%256]:=by simp only[List.cons_append,List.nil_append];congr 1;omega;congr 1;congr 1;omega;congr 1;omega
   rw[e9] at this
   exact this
set_option maxHeartbeats 4000000 in
set_option maxRecDepth 100000 in
theorem w_rbytes2 (c n o:Int) (S:ByteArray) (wide:Bool) (w:World) (n0:0≤n) (n1:n < 4294967296) (hs:S.size≤maxLen) (hc:cdd c=true) (hk:bhF c=2):
  Calls Tryz.prog 27 #[.agg #[.int .i64 c, .int .u32 n, .string S, .int .i64 o], .bool wide] w fun e w'=>∃v1,e= .returned (.tuple #[v1, .bool (okB 2 ⟨c,n,LB S,o⟩ wide)])∧(okB 2 ⟨c,n,LB S,o⟩ wide=true→OwB w.heap.size w' v1 (cbF c++beQ 2 ⟨c,n,LB S,o⟩ wide))∧Below w.heap.size w w':=by
 obtain ⟨i0,hi,hz0,hz1,hz2⟩:=info_parts infoU8
 have hs2:=hs
 unfold maxLen at hs2
 have cI:=fun w=>w_coded c w
 rw[hc] at cI
 have cB:=fun w=>w_rbehind c w
 rw[hk] at cB
 have cC:=fun w=>w_rcode c w hc
 have hcl:(cbF c).length≤2:=by unfold cbF;split <;> simp
 clear hk hc
 obtain ⟨X,hX⟩:∃X,cbF c=X:=⟨_,rfl⟩
 rw[hX] at hcl ⊢
 simp only[hX] at cC
 clear hX
 rcases Decidable.em (¬LB S=[]) with hS|hS
 ·have e:okB 2 ⟨c,n,LB S,o⟩ wide=false:=by simp[okB,hS]
  rw[e]
  have q0:S.toList.isEmpty=false:=by rw[nil_emp];simpa using hS
  have q1:(S.toList !=(⟨#[]⟩:ByteArray).toList)=true:=by simp only[bne,nil_beq];simpa using hS
  have q2:(S.toList !=[])=true:=by simp only[bne];rw[show (S.toList==[])=S.toList.isEmpty by cases S.toList <;> rfl,q0];rfl
  have bw:=box_below w (.cells #[.int .i64 c, .int .u32 n, .string S, .int .i64 o] 40)
  clear e hS cC
  go_enter Tryz.func27,Tryz.ntmps27
  go_wp2_with (first
   |(go_at_call 17;refine (cB _).mono ?_;rintro e q ⟨rfl,hw⟩;obtain rfl:=hw.symm)
   |(go_at_call_of 50 (Value.int .i64 c);refine (cI _).mono ?_;rintro e q ⟨rfl,hw⟩;obtain rfl:=hw.symm))
  go_ret2
  exact ⟨_,rfl,(by intro h;cases h),bw⟩
 ·have hS:=Decidable.not_not.1 hS
  obtain rfl:S=⟨#[]⟩:=by rw[LB_eq,hS];rfl
  rcases Decidable.em (¬o=0) with ho|ho
  ·have e:okB 2 ⟨c,n,LB ⟨#[]⟩,o⟩ wide=false:=by simp[okB,ho]
   rw[e]
   have q1:(o !=0)=true:=by simpa using ho
   have bw:=box_below w (.cells #[.int .i64 c, .int .u32 n, .string ⟨#[]⟩, .int .i64 o] 40)
   clear e ho cC
   go_enter Tryz.func27,Tryz.ntmps27
   go_wp2_with (first
    |(go_at_call 17;refine (cB _).mono ?_;rintro e q ⟨rfl,hw⟩;obtain rfl:=hw.symm)
    |(go_at_call_of 50 (Value.int .i64 c);refine (cI _).mono ?_;rintro e q ⟨rfl,hw⟩;obtain rfl:=hw.symm))
   go_ret2
   exact ⟨_,rfl,(by intro h;cases h),bw⟩
  ·have ho:=Decidable.not_not.1 ho
   subst ho
   have bw:=box_below w (.cells #[.int .i64 c, .int .u32 n, .string ⟨#[]⟩, .int .i64 0] 40)
   have sw:=stands_new w #[.int .i64 c, .int .u32 n, .string ⟨#[]⟩, .int .i64 0] 40
   have cN:=fun w=>w_coded n w
   cases hN:cdd n with
   |true=>
    rw[hN] at cN
    have e:okB 2 ⟨c,n,LB ⟨#[]⟩,0⟩ wide=true:=by simp[okB,hN];rfl
    rw[e]
    have cM:=fun w=>w_rcode n w hN
    have hcn:(cbF n).length≤2:=by unfold cbF;split <;> simp
    clear hN e
    go_enter Tryz.func27,Tryz.ntmps27
    go_wp2_with (first
     |(at_builtin;refine wpList_append_rd (k:= .u8) rfl _ _ 29 rfl w.heap.size 5 i0 1 Tryz.underlying29 hi hz0 hz1 hz2 v1 (X) rfl h2o v2 (cbF n) rfl (Rd_own p2).1 (by unfold maxLen;simp[LB_len];omega) (by simp[LB_len];omega) (by omega) ?_;intro v3 w3 p3 g3;have o3:OwB w.heap.size w3 v3 (X++cbF n):=p3;have l3:=l2.trans (Lay.app h2o (by omega) g3);have hs3:w.heap.size≤w3.heap.size:=l3.below.size)
     |(go_at_call_of 51 (Value.int .i64 n);refine (cM _).mono ?_;rintro e w2 ⟨v2,rfl,p2,b2⟩;have h2o:=OwB.below o1 b2;have l2:=l1.trans (Lay.new hs1 b2);have hs2:w.heap.size≤w2.heap.size:=l2.below.size)
     |(go_at_call_of 50 (Value.int .i64 n);refine (cN _).mono ?_;rintro e q ⟨rfl,hw⟩;obtain rfl:=hw.symm)
     |(go_at_call_of 51 (Value.int .i64 c);refine (cC _).mono ?_;rintro e w1 ⟨v1,rfl,p1,b1⟩;have hs1:w.heap.size≤w1.heap.size:=(by have h8:=b1.size;rw[size_al] at h8;omega);have o1:=OwB.le p1 (b:=w.heap.size) (by rw[size_al];omega);have l1:=Lay.new (Nat.le_refl w.heap.size) (below_trans bw b1);have st1:=sw.below b1;have f0:=st1.cell 0 _ rfl;have f1:=st1.cell 1 _ rfl;have f2:=st1.cell 2 _ rfl;have f3:=st1.cell 3 _ rfl)
     |(go_at_call 17;refine (cB _).mono ?_;rintro e q ⟨rfl,hw⟩;obtain rfl:=hw.symm)
     |(go_at_call_of 50 (Value.int .i64 c);refine (cI _).mono ?_;rintro e q ⟨rfl,hw⟩;obtain rfl:=hw.symm))
    go_ret2
    refine ⟨v3,rfl,fun _=> ?_,l3.below⟩
    have:=o3
    exact this
   |false=>
    rw[hN] at cN
    have e:okB 2 ⟨c,n,LB ⟨#[]⟩,0⟩ wide=false:=by simp[okB,hN]
    rw[e]
    clear hN e
    go_enter Tryz.func27,Tryz.ntmps27
    go_wp2_with (first
     |(go_at_call_of 50 (Value.int .i64 n);refine (cN _).mono ?_;rintro e q ⟨rfl,hw⟩;obtain rfl:=hw.symm)
     |(go_at_call_of 51 (Value.int .i64 c);refine (cC _).mono ?_;rintro e w1 ⟨v1,rfl,p1,b1⟩;have hs1:w.heap.size≤w1.heap.size:=(by have h8:=b1.size;rw[size_al] at h8;omega);have o1:=OwB.le p1 (b:=w.heap.size) (by rw[size_al];omega);have l1:=Lay.new (Nat.le_refl w.heap.size) (below_trans bw b1);have st1:=sw.below b1;have f0:=st1.cell 0 _ rfl;have f1:=st1.cell 1 _ rfl;have f2:=st1.cell 2 _ rfl;have f3:=st1.cell 3 _ rfl)
     |(go_at_call 17;refine (cB _).mono ?_;rintro e q ⟨rfl,hw⟩;obtain rfl:=hw.symm)
     |(go_at_call_of 50 (Value.int .i64 c);refine (cI _).mono ?_;rintro e q ⟨rfl,hw⟩;obtain rfl:=hw.symm))
    go_ret2
    exact ⟨_,rfl,(by intro h;cases h),l1.below⟩
set_option maxHeartbeats 4000000 in
set_option maxRecDepth 100000 in
theorem w_rbytes3 (c n o:Int) (S:ByteArray) (wide:Bool) (w:World) (n0:0≤n) (n1:n < 4294967296) (hs:S.size≤maxLen) (hc:cdd c=true) (hk:bhF c=3):
  Calls Tryz.prog 27 #[.agg #[.int .i64 c, .int .u32 n, .string S, .int .i64 o], .bool wide] w fun e w'=>∃v1,e= .returned (.tuple #[v1, .bool (okB 3 ⟨c,n,LB S,o⟩ wide)])∧(okB 3 ⟨c,n,LB S,o⟩ wide=true→OwB w.heap.size w' v1 (cbF c++beQ 3 ⟨c,n,LB S,o⟩ wide))∧Below w.heap.size w w':=by
 obtain ⟨i0,hi,hz0,hz1,hz2⟩:=info_parts infoU8
 have hs2:=hs
 unfold maxLen at hs2
 have cI:=fun w=>w_coded c w
 rw[hc] at cI
 have cB:=fun w=>w_rbehind c w
 rw[hk] at cB
 have cC:=fun w=>w_rcode c w hc
 have hcl:(cbF c).length≤2:=by unfold cbF;split <;> simp
 clear hk hc
 obtain ⟨X,hX⟩:∃X,cbF c=X:=⟨_,rfl⟩
 rw[hX] at hcl ⊢
 simp only[hX] at cC
 clear hX
 rcases Decidable.em (¬n=0) with hn|hn
 ·have e:okB 3 ⟨c,n,LB S,o⟩ wide=false:=by simp[okB,hn]
  rw[e]
  have q1:(n !=0)=true:=by simpa using hn
  have bw:=box_below w (.cells #[.int .i64 c, .int .u32 n, .string S, .int .i64 o] 40)
  clear e hn cC
  go_enter Tryz.func27,Tryz.ntmps27
  go_wp2_with (first
   |(go_at_call 17;refine (cB _).mono ?_;rintro e q ⟨rfl,hw⟩;obtain rfl:=hw.symm)
   |(go_at_call_of 50 (Value.int .i64 c);refine (cI _).mono ?_;rintro e q ⟨rfl,hw⟩;obtain rfl:=hw.symm))
  go_ret2
  exact ⟨_,rfl,(by intro h;cases h),bw⟩
 ·have hn:=Decidable.not_not.1 hn
  subst hn
  rcases Decidable.em (¬o=0) with ho|ho
  ·have e:okB 3 ⟨c,0,LB S,o⟩ wide=false:=by simp[okB,ho]
   rw[e]
   have q1:(o !=0)=true:=by simpa using ho
   have bw:=box_below w (.cells #[.int .i64 c, .int .u32 0, .string S, .int .i64 o] 40)
   clear e ho cC
   go_enter Tryz.func27,Tryz.ntmps27
   go_wp2_with (first
    |(go_at_call 17;refine (cB _).mono ?_;rintro e q ⟨rfl,hw⟩;obtain rfl:=hw.symm)
    |(go_at_call_of 50 (Value.int .i64 c);refine (cI _).mono ?_;rintro e q ⟨rfl,hw⟩;obtain rfl:=hw.symm))
   go_ret2
   exact ⟨_,rfl,(by intro h;cases h),bw⟩
  ·have ho:=Decidable.not_not.1 ho
   subst ho
   have bw:=box_below w (.cells #[.int .i64 c, .int .u32 0, .string S, .int .i64 0] 40)
   have sw:=stands_new w #[.int .i64 c, .int .u32 0, .string S, .int .i64 0] 40
   by_cases hl:(255:Int) < S.size
   ·have e:okB 3 ⟨c,0,LB S,0⟩ wide=false:=by simp[okB,LB_len];omega
    rw[e]
    clear e
    go_enter Tryz.func27,Tryz.ntmps27
    go_wp2_with (first
     |(go_at_call_of 51 (Value.int .i64 c);refine (cC _).mono ?_;rintro e w1 ⟨v1,rfl,p1,b1⟩;have hs1:w.heap.size≤w1.heap.size:=(by have h8:=b1.size;rw[size_al] at h8;omega);have o1:=OwB.le p1 (b:=w.heap.size) (by rw[size_al];omega);have l1:=Lay.new (Nat.le_refl w.heap.size) (below_trans bw b1);have st1:=sw.below b1;have f0:=st1.cell 0 _ rfl;have f1:=st1.cell 1 _ rfl;have f2:=st1.cell 2 _ rfl;have f3:=st1.cell 3 _ rfl)
     |(go_at_call 17;refine (cB _).mono ?_;rintro e q ⟨rfl,hw⟩;obtain rfl:=hw.symm)
     |(go_at_call_of 50 (Value.int .i64 c);refine (cI _).mono ?_;rintro e q ⟨rfl,hw⟩;obtain rfl:=hw.symm))
    go_ret2
    exact ⟨_,rfl,(by intro h;cases h),l1.below⟩
   ·have e:okB 3 ⟨c,0,LB S,0⟩ wide=true:=by simp[okB,LB_len];omega
    rw[e]
    clear e
    have hw:IntKind.u8.wrap (S.size:Int)=S.size:=by rw[IntKind.wrap_u8];omega
    go_enter Tryz.func27,Tryz.ntmps27
    go_wp2_with (first
     |(at_builtin;refine wpList_append_rds rfl _ _ 29 9 rfl w.heap.size 5 i0 Tryz.underlying29 Tryz.underlying9 hi hz0 hz1 hz2 v2 (X++[(S.size:Int)]) rfl o2 S rfl (by unfold maxLen;simp;omega) (by simp;omega) (by omega) ?_;intro v3 w3 p3 g3;have o3:OwB w.heap.size w3 v3 (X++[(S.size:Int)]++LB S):=p3;have l3:=l2.trans (Lay.app o2 (by omega) g3);have hs3:w.heap.size≤w3.heap.size:=l3.below.size)
     |(at_builtin;refine wpList_append_rd (k:= .u8) rfl _ _ 29 rfl w.heap.size 5 i0 1 Tryz.underlying29 hi hz0 hz1 hz2 v1 (X) rfl (OwB.below o1 (box_below w1 _)) _ [(S.size:Int)] rfl (rd_one w1 _ _) (by unfold maxLen;simp[LB_len];omega) (by simp[LB_len];omega) (by rw[size_al];omega) ?_;intro v2 w2 p2 g2;have o2:OwB w.heap.size w2 v2 (X++[(S.size:Int)]):=p2;have l2:=l1.trans ((Lay.new hs1 (box_below w1 _)).trans (Lay.app (OwB.below o1 (box_below w1 _)) (by rw[size_al];omega) g2));have st2:=st1.agr ((Agr.below (box_below w1 _)).trans (Lay.app (OwB.below o1 (box_below w1 _)) (by rw[size_al];omega) g2).agr) rfl (fun h=>h);have f22:=st2.cell 2 _ rfl;have hs2:w.heap.size≤w2.heap.size:=l2.below.size)
     |(go_at_call_of 51 (Value.int .i64 c);refine (cC _).mono ?_;rintro e w1 ⟨v1,rfl,p1,b1⟩;have hs1:w.heap.size≤w1.heap.size:=(by have h8:=b1.size;rw[size_al] at h8;omega);have o1:=OwB.le p1 (b:=w.heap.size) (by rw[size_al];omega);have l1:=Lay.new (Nat.le_refl w.heap.size) (below_trans bw b1);have st1:=sw.below b1;have f0:=st1.cell 0 _ rfl;have f1:=st1.cell 1 _ rfl;have f2:=st1.cell 2 _ rfl;have f3:=st1.cell 3 _ rfl)
     |(go_at_call 17;refine (cB _).mono ?_;rintro e q ⟨rfl,hw⟩;obtain rfl:=hw.symm)
     |(go_at_call_of 50 (Value.int .i64 c);refine (cI _).mono ?_;rintro e q ⟨rfl,hw⟩;obtain rfl:=hw.symm))
    go_ret2
    refine ⟨v3,rfl,fun _=> ?_,l3.below⟩
    have:=o3
    simp only[beQ,LB_len]
    rw[List.append_assoc] at this
    exact this
set_option maxHeartbeats 4000000 in
set_option maxRecDepth 100000 in
theorem w_rbytes5 (c n o:Int) (S:ByteArray) (wide:Bool) (w:World) (n0:0≤n) (n1:n < 4294967296) (hs:S.size≤maxLen) (hc:cdd c=true) (hk:bhF c=5):
  Calls Tryz.prog 27 #[.agg #[.int .i64 c, .int .u32 n, .string S, .int .i64 o], .bool wide] w fun e w'=>∃v1,e= .returned (.tuple #[v1, .bool (okB 5 ⟨c,n,LB S,o⟩ wide)])∧(okB 5 ⟨c,n,LB S,o⟩ wide=true→OwB w.heap.size w' v1 (cbF c++beQ 5 ⟨c,n,LB S,o⟩ wide))∧Below w.heap.size w w':=by
 obtain ⟨i0,hi,hz0,hz1,hz2⟩:=info_parts infoU8
 have hs2:=hs
 unfold maxLen at hs2
 have cI:=fun w=>w_coded c w
 rw[hc] at cI
 have cB:=fun w=>w_rbehind c w
 rw[hk] at cB
 have cC:=fun w=>w_rcode c w hc
 have hcl:(cbF c).length≤2:=by unfold cbF;split <;> simp
 clear hk hc
 obtain ⟨X,hX⟩:∃X,cbF c=X:=⟨_,rfl⟩
 rw[hX] at hcl ⊢
 simp only[hX] at cC
 clear hX
 rcases Decidable.em (¬LB S=[]) with hS|hS
 ·have e:okB 5 ⟨c,n,LB S,o⟩ wide=false:=by simp[okB,hS]
  rw[e]
  have q0:S.toList.isEmpty=false:=by rw[nil_emp];simpa using hS
  have q1:(S.toList !=(⟨#[]⟩:ByteArray).toList)=true:=by simp only[bne,nil_beq];simpa using hS
  have q2:(S.toList !=[])=true:=by simp only[bne];rw[show (S.toList==[])=S.toList.isEmpty by cases S.toList <;> rfl,q0];rfl
  have bw:=box_below w (.cells #[.int .i64 c, .int .u32 n, .string S, .int .i64 o] 40)
  clear e hS cC
  go_enter Tryz.func27,Tryz.ntmps27
  go_wp2_with (first
   |(go_at_call 17;refine (cB _).mono ?_;rintro e q ⟨rfl,hw⟩;obtain rfl:=hw.symm)
   |(go_at_call_of 50 (Value.int .i64 c);refine (cI _).mono ?_;rintro e q ⟨rfl,hw⟩;obtain rfl:=hw.symm))
  go_ret2
  exact ⟨_,rfl,(by intro h;cases h),bw⟩
 ·have hS:=Decidable.not_not.1 hS
  obtain rfl:S=⟨#[]⟩:=by rw[LB_eq,hS];rfl
  rcases Decidable.em (¬o=0) with ho|ho
  ·have e:okB 5 ⟨c,n,LB ⟨#[]⟩,o⟩ wide=false:=by simp[okB,ho]
   rw[e]
   have q1:(o !=0)=true:=by simpa using ho
   have bw:=box_below w (.cells #[.int .i64 c, .int .u32 n, .string ⟨#[]⟩, .int .i64 o] 40)
   clear e ho cC
   go_enter Tryz.func27,Tryz.ntmps27
   go_wp2_with (first
    |(go_at_call 17;refine (cB _).mono ?_;rintro e q ⟨rfl,hw⟩;obtain rfl:=hw.symm)
    |(go_at_call_of 50 (Value.int .i64 c);refine (cI _).mono ?_;rintro e q ⟨rfl,hw⟩;obtain rfl:=hw.symm))
   go_ret2
   exact ⟨_,rfl,(by intro h;cases h),bw⟩
  ·have ho:=Decidable.not_not.1 ho
   subst ho
   have bw:=box_below w (.cells #[.int .i64 c, .int .u32 n, .string ⟨#[]⟩, .int .i64 0] 40)
   have sw:=stands_new w #[.int .i64 c, .int .u32 n, .string ⟨#[]⟩, .int .i64 0] 40
   by_cases h1:n < 2048
   ·have e:okB 5 ⟨c,n,LB ⟨#[]⟩,0⟩ wide=false:=by simp[okB,nwF,LB_len];omega
    rw[e]
    clear e
    go_enter Tryz.func27,Tryz.ntmps27
    go_wp2_with (first
     |(go_at_call_of 51 (Value.int .i64 c);refine (cC _).mono ?_;rintro e w1 ⟨v1,rfl,p1,b1⟩;have hs1:w.heap.size≤w1.heap.size:=(by have h8:=b1.size;rw[size_al] at h8;omega);have o1:=OwB.le p1 (b:=w.heap.size) (by rw[size_al];omega);have l1:=Lay.new (Nat.le_refl w.heap.size) (below_trans bw b1);have st1:=sw.below b1;have f0:=st1.cell 0 _ rfl;have f1:=st1.cell 1 _ rfl;have f2:=st1.cell 2 _ rfl;have f3:=st1.cell 3 _ rfl)
     |(go_at_call 17;refine (cB _).mono ?_;rintro e q ⟨rfl,hw⟩;obtain rfl:=hw.symm)
     |(go_at_call_of 50 (Value.int .i64 c);refine (cI _).mono ?_;rintro e q ⟨rfl,hw⟩;obtain rfl:=hw.symm))
    go_ret2
    exact ⟨_,rfl,(by intro h;cases h),l1.below⟩
   by_cases h2:4095 < n
   ·have e:okB 5 ⟨c,n,LB ⟨#[]⟩,0⟩ wide=false:=by simp[okB,nwF,LB_len];omega
    rw[e]
    clear e
    go_enter Tryz.func27,Tryz.ntmps27
    go_wp2_with (first
     |(go_at_call_of 51 (Value.int .i64 c);refine (cC _).mono ?_;rintro e w1 ⟨v1,rfl,p1,b1⟩;have hs1:w.heap.size≤w1.heap.size:=(by have h8:=b1.size;rw[size_al] at h8;omega);have o1:=OwB.le p1 (b:=w.heap.size) (by rw[size_al];omega);have l1:=Lay.new (Nat.le_refl w.heap.size) (below_trans bw b1);have st1:=sw.below b1;have f0:=st1.cell 0 _ rfl;have f1:=st1.cell 1 _ rfl;have f2:=st1.cell 2 _ rfl;have f3:=st1.cell 3 _ rfl)
     |(go_at_call 17;refine (cB _).mono ?_;rintro e q ⟨rfl,hw⟩;obtain rfl:=hw.symm)
     |(go_at_call_of 50 (Value.int .i64 c);refine (cI _).mono ?_;rintro e q ⟨rfl,hw⟩;obtain rfl:=hw.symm))
    go_ret2
    exact ⟨_,rfl,(by intro h;cases h),l1.below⟩
   have e:okB 5 ⟨c,n,LB ⟨#[]⟩,0⟩ wide=true:=by simp[okB,nwF,LB_len];first|omega|exact ⟨rfl,by omega,by omega⟩
   rw[e]
   clear e
   have cA:=fun w=>w_rtwo n w (by omega) (by omega)
   go_enter Tryz.func27,Tryz.ntmps27
   go_wp2_with (first
    |(at_builtin;refine wpList_append_rd (k:= .u8) rfl _ _ 29 rfl w.heap.size 5 i0 1 Tryz.underlying29 hi hz0 hz1 hz2 v1 (X) rfl h2o v2 ([x2,y2]) rfl (Rd_own p2).1 (by unfold maxLen;simp[LB_len];omega) (by simp[LB_len];omega) (by omega) ?_;intro v3 w3 p3 g3;have o3:OwB w.heap.size w3 v3 (X++[x2,y2]):=p3;have l3:=l2.trans (Lay.app h2o (by omega) g3);have hs3:w.heap.size≤w3.heap.size:=l3.below.size)
    |(go_at_call 52;have hsto:=o1;refine (cA _).mono ?_;rintro e w2 ⟨v2,x2,y2,rfl,p2,b2,e2⟩;have h2o:=OwB.below o1 b2;have l2:=l1.trans (Lay.new hs1 b2);have hs2:w.heap.size≤w2.heap.size:=l2.below.size)
    |(go_at_call_of 51 (Value.int .i64 c);refine (cC _).mono ?_;rintro e w1 ⟨v1,rfl,p1,b1⟩;have hs1:w.heap.size≤w1.heap.size:=(by have h8:=b1.size;rw[size_al] at h8;omega);have o1:=OwB.le p1 (b:=w.heap.size) (by rw[size_al];omega);have l1:=Lay.new (Nat.le_refl w.heap.size) (below_trans bw b1);have st1:=sw.below b1;have f0:=st1.cell 0 _ rfl;have f1:=st1.cell 1 _ rfl;have f2:=st1.cell 2 _ rfl;have f3:=st1.cell 3 _ rfl)
    |(go_at_call 17;refine (cB _).mono ?_;rintro e q ⟨rfl,hw⟩;obtain rfl:=hw.symm)
    |(go_at_call_of 50 (Value.int .i64 c);refine (cI _).mono ?_;rintro e q ⟨rfl,hw⟩;obtain rfl:=hw.symm))
   go_ret2
   refine ⟨v3,rfl,fun _=> ?_,l3.below⟩
   have:=o3
   obtain ⟨e21,e22⟩:=e2 n0
   subst e21 e22
   exact this
set_option maxHeartbeats 4000000 in
set_option maxRecDepth 100000 in
theorem w_rbytes6 (c n o:Int) (S:ByteArray) (wide:Bool) (w:World) (n0:0≤n) (n1:n < 4294967296) (hs:S.size≤maxLen) (hc:cdd c=true) (hk:bhF c=6):
  Calls Tryz.prog 27 #[.agg #[.int .i64 c, .int .u32 n, .string S, .int .i64 o], .bool wide] w fun e w'=>∃v1,e= .returned (.tuple #[v1, .bool (okB 6 ⟨c,n,LB S,o⟩ wide)])∧(okB 6 ⟨c,n,LB S,o⟩ wide=true→OwB w.heap.size w' v1 (cbF c++beQ 6 ⟨c,n,LB S,o⟩ wide))∧Below w.heap.size w w':=by
 obtain ⟨i0,hi,hz0,hz1,hz2⟩:=info_parts infoU8
 have hs2:=hs
 unfold maxLen at hs2
 have cI:=fun w=>w_coded c w
 rw[hc] at cI
 have cB:=fun w=>w_rbehind c w
 rw[hk] at cB
 have cC:=fun w=>w_rcode c w hc
 have hcl:(cbF c).length≤2:=by unfold cbF;split <;> simp
 clear hk hc
 obtain ⟨X,hX⟩:∃X,cbF c=X:=⟨_,rfl⟩
 rw[hX] at hcl ⊢
 simp only[hX] at cC
 clear hX
 rcases Decidable.em (¬o=0) with ho|ho
 ·have e:okB 6 ⟨c,n,LB S,o⟩ wide=false:=by simp[okB,ho]
  rw[e]
  have q1:(o !=0)=true:=by simpa using ho
  have bw:=box_below w (.cells #[.int .i64 c, .int .u32 n, .string S, .int .i64 o] 40)
  clear e ho cC
  go_enter Tryz.func27,Tryz.ntmps27
  go_wp2_with (first
   |(go_at_call 17;refine (cB _).mono ?_;rintro e q ⟨rfl,hw⟩;obtain rfl:=hw.symm)
   |(go_at_call_of 50 (Value.int .i64 c);refine (cI _).mono ?_;rintro e q ⟨rfl,hw⟩;obtain rfl:=hw.symm))
  go_ret2
  exact ⟨_,rfl,(by intro h;cases h),bw⟩
 ·have ho:=Decidable.not_not.1 ho
  subst ho
  have bw:=box_below w (.cells #[.int .i64 c, .int .u32 n, .string S, .int .i64 0] 40)
  have sw:=stands_new w #[.int .i64 c, .int .u32 n, .string S, .int .i64 0] 40
  by_cases h1:n < 2048
  ·have e:okB 6 ⟨c,n,LB S,0⟩ wide=false:=by simp[okB,nwF,LB_len];omega
   rw[e]
   clear e
   go_enter Tryz.func27,Tryz.ntmps27
   go_wp2_with (first
    |(go_at_call_of 51 (Value.int .i64 c);refine (cC _).mono ?_;rintro e w1 ⟨v1,rfl,p1,b1⟩;have hs1:w.heap.size≤w1.heap.size:=(by have h8:=b1.size;rw[size_al] at h8;omega);have o1:=OwB.le p1 (b:=w.heap.size) (by rw[size_al];omega);have l1:=Lay.new (Nat.le_refl w.heap.size) (below_trans bw b1);have st1:=sw.below b1;have f0:=st1.cell 0 _ rfl;have f1:=st1.cell 1 _ rfl;have f2:=st1.cell 2 _ rfl;have f3:=st1.cell 3 _ rfl)
    |(go_at_call 17;refine (cB _).mono ?_;rintro e q ⟨rfl,hw⟩;obtain rfl:=hw.symm)
    |(go_at_call_of 50 (Value.int .i64 c);refine (cI _).mono ?_;rintro e q ⟨rfl,hw⟩;obtain rfl:=hw.symm))
   go_ret2
   exact ⟨_,rfl,(by intro h;cases h),l1.below⟩
  by_cases h2:4095 < n
  ·have e:okB 6 ⟨c,n,LB S,0⟩ wide=false:=by simp[okB,nwF,LB_len];omega
   rw[e]
   clear e
   go_enter Tryz.func27,Tryz.ntmps27
   go_wp2_with (first
    |(go_at_call_of 51 (Value.int .i64 c);refine (cC _).mono ?_;rintro e w1 ⟨v1,rfl,p1,b1⟩;have hs1:w.heap.size≤w1.heap.size:=(by have h8:=b1.size;rw[size_al] at h8;omega);have o1:=OwB.le p1 (b:=w.heap.size) (by rw[size_al];omega);have l1:=Lay.new (Nat.le_refl w.heap.size) (below_trans bw b1);have st1:=sw.below b1;have f0:=st1.cell 0 _ rfl;have f1:=st1.cell 1 _ rfl;have f2:=st1.cell 2 _ rfl;have f3:=st1.cell 3 _ rfl)
    |(go_at_call 17;refine (cB _).mono ?_;rintro e q ⟨rfl,hw⟩;obtain rfl:=hw.symm)
    |(go_at_call_of 50 (Value.int .i64 c);refine (cI _).mono ?_;rintro e q ⟨rfl,hw⟩;obtain rfl:=hw.symm))
   go_ret2
   exact ⟨_,rfl,(by intro h;cases h),l1.below⟩
  by_cases hl:(31:Int) < S.size
  ·have e:okB 6 ⟨c,n,LB S,0⟩ wide=false:=by simp[okB,nwF,LB_len];omega
   rw[e]
   clear e
   go_enter Tryz.func27,Tryz.ntmps27
   go_wp2_with (first
    |(go_at_call_of 51 (Value.int .i64 c);refine (cC _).mono ?_;rintro e w1 ⟨v1,rfl,p1,b1⟩;have hs1:w.heap.size≤w1.heap.size:=(by have h8:=b1.size;rw[size_al] at h8;omega);have o1:=OwB.le p1 (b:=w.heap.size) (by rw[size_al];omega);have l1:=Lay.new (Nat.le_refl w.heap.size) (below_trans bw b1);have st1:=sw.below b1;have f0:=st1.cell 0 _ rfl;have f1:=st1.cell 1 _ rfl;have f2:=st1.cell 2 _ rfl;have f3:=st1.cell 3 _ rfl)
    |(go_at_call 17;refine (cB _).mono ?_;rintro e q ⟨rfl,hw⟩;obtain rfl:=hw.symm)
    |(go_at_call_of 50 (Value.int .i64 c);refine (cI _).mono ?_;rintro e q ⟨rfl,hw⟩;obtain rfl:=hw.symm))
   go_ret2
   exact ⟨_,rfl,(by intro h;cases h),l1.below⟩
  have e:okB 6 ⟨c,n,LB S,0⟩ wide=true:=by simp[okB,nwF,LB_len];omega
  rw[e]
  clear e
  have cA:=fun w=>w_rtwo n w (by omega) (by omega)
  have hw:IntKind.u8.wrap (S.size:Int)=S.size:=by rw[IntKind.wrap_u8];omega
  go_enter Tryz.func27,Tryz.ntmps27
  go_wp2_with (first
   |(at_builtin;refine wpList_append_rd (k:= .u8) rfl _ _ 29 rfl w.heap.size 5 i0 1 Tryz.underlying29 hi hz0 hz1 hz2 v3 (X++[(S.size:Int)]++LB S) rfl h4o v4 ([x4,y4]) rfl (Rd_own p4).1 (by unfold maxLen;simp[LB_len];omega) (by simp[LB_len];omega) (by omega) ?_;intro v5 w5 p5 g5;have o5:OwB w.heap.size w5 v5 (X++[(S.size:Int)]++LB S++[x4,y4]):=p5;have l5:=l4.trans (Lay.app h4o (by omega) g5);have hs5:w.heap.size≤w5.heap.size:=l5.below.size)
   |(go_at_call 52;have hsto:=o3;refine (cA _).mono ?_;rintro e w4 ⟨v4,x4,y4,rfl,p4,b4,e4⟩;have h4o:=OwB.below o3 b4;have l4:=l3.trans (Lay.new hs3 b4);have hs4:w.heap.size≤w4.heap.size:=l4.below.size)
   |(at_builtin;refine wpList_append_rds rfl _ _ 29 9 rfl w.heap.size 5 i0 Tryz.underlying29 Tryz.underlying9 hi hz0 hz1 hz2 v2 (X++[(S.size:Int)]) rfl o2 S rfl (by unfold maxLen;simp;omega) (by simp;omega) (by omega) ?_;intro v3 w3 p3 g3;have o3:OwB w.heap.size w3 v3 (X++[(S.size:Int)]++LB S):=p3;have l3:=l2.trans (Lay.app o2 (by omega) g3);have hs3:w.heap.size≤w3.heap.size:=l3.below.size)
   |(at_builtin;refine wpList_append_rd (k:= .u8) rfl _ _ 29 rfl w.heap.size 5 i0 1 Tryz.underlying29 hi hz0 hz1 hz2 v1 (X) rfl (OwB.below o1 (box_below w1 _)) _ [(S.size:Int)] rfl (rd_one w1 _ _) (by unfold maxLen;simp[LB_len];omega) (by simp[LB_len];omega) (by rw[size_al];omega) ?_;intro v2 w2 p2 g2;have o2:OwB w.heap.size w2 v2 (X++[(S.size:Int)]):=p2;have l2:=l1.trans ((Lay.new hs1 (box_below w1 _)).trans (Lay.app (OwB.below o1 (box_below w1 _)) (by rw[size_al];omega) g2));have st2:=st1.agr ((Agr.below (box_below w1 _)).trans (Lay.app (OwB.below o1 (box_below w1 _)) (by rw[size_al];omega) g2).agr) rfl (fun h=>h);have f22:=st2.cell 2 _ rfl;have hs2:w.heap.size≤w2.heap.size:=l2.below.size)
   |(go_at_call_of 51 (Value.int .i64 c);refine (cC _).mono ?_;rintro e w1 ⟨v1,rfl,p1,b1⟩;have hs1:w.heap.size≤w1.heap.size:=(by have h8:=b1.size;rw[size_al] at h8;omega);have o1:=OwB.le p1 (b:=w.heap.size) (by rw[size_al];omega);have l1:=Lay.new (Nat.le_refl w.heap.size) (below_trans bw b1);have st1:=sw.below b1;have f0:=st1.cell 0 _ rfl;have f1:=st1.cell 1 _ rfl;have f2:=st1.cell 2 _ rfl;have f3:=st1.cell 3 _ rfl)
   |(go_at_call 17;refine (cB _).mono ?_;rintro e q ⟨rfl,hw⟩;obtain rfl:=hw.symm)
   |(go_at_call_of 50 (Value.int .i64 c);refine (cI _).mono ?_;rintro e q ⟨rfl,hw⟩;obtain rfl:=hw.symm))
  go_ret2
  refine ⟨v5,rfl,fun _=> ?_,l5.below⟩
  have:=o5
  obtain ⟨e21,e22⟩:=e4 n0
  subst e21 e22
  simp only[beQ,LB_len]
  simp only[List.append_assoc,List.cons_append,List.nil_append] at this
  exact this
end Go.Proofs.YtkkehbdahniiaaaGreatDoor
