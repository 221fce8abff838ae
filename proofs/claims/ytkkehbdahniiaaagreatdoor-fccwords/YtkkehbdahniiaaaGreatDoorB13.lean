import Derived.Lib.LaidTab
import Derived.Test.YtkkehbdahniiaaaGreatDoorRows
import Derived.Stop.LaidErr
import Derived.Test.YtkkehbdahniiaaaGreatDoorB12
set_option linter.unusedVariables false
set_option linter.unusedSimpArgs false
set_option maxRecDepth 100000
namespace Go.Proofs.YtkkehbdahniiaaaGreatDoor
open Go.ChangeShapes Go.WideShapes Go.ChangeAt Go.RowKit Go.Maps
def alS:ByteArray:=⟨#[58,32,120,32,105,102,32,49,32,116,104,101,110,32,59]⟩
def alT:List Tq:=[⟨182,2048,[120],0⟩,⟨183,0,[],0⟩,⟨20,0,[],4⟩,⟨166,0,[],0⟩,⟨178,0,[],0⟩,⟨194,0,[],0⟩,⟨0,0,[],0⟩]
theorem al_cut:(cutF (L alS)).2=0:=by decide+kernel
theorem al_tok:toksG lit (cutF (L alS)).1=(alT,0):=by decide+kernel
theorem tq_new (w:World) (l:List Tq) (hl:l.length≤maxLen):OwQs w.heap.size (w.alloc (.cells (l.flatMap tqC).toArray 40)) (.slice (some ⟨w.heap.size,0,none⟩) l.length l.length) l:=by
 have h4:(l.flatMap tqC).length=l.length*4:=by
  rw[flat_same,flat_len _ 4 (fun r hr=>by obtain ⟨x,_,rfl⟩:=List.mem_map.1 hr;rfl),List.length_map]
 refine ⟨h4,Or.inr ⟨w.heap.size,l.length,(l.flatMap tqC).toArray,rfl,Nat.le_refl _,heap_alloc_new w _,Nat.le_refl _,hl,by simpa using h4, ?_⟩⟩
 exact List.take_of_length_le (by simpa using Nat.le_of_eq h4)
set_option maxHeartbeats 2000000 in
set_option maxRecDepth 100000 in
theorem fw_alive15 (w:World) (hT:Tab w):Calls Tryz.prog 7 #[] w fun e w'=>e= .returned (.bool true)∧Below w.heap.size w w':=by
 have ct:=fw_tokens alS w (by decide) hT
 unfold TokQ at ct
 rw[al_tok] at ct
 have hc:=al_cut
 have hby:∀x∈alT,bytesL x.t:=by
  have h:alT.all (fun x=>x.t.all (fun c=>decide (0≤c∧c < 256)))=true:=by decide+kernel
  intro x hx c hc
  have:=List.all_eq_true.1 (List.all_eq_true.1 h x hx) c hc
  simpa using this
 unfold alS at ct hc
 go_enter Tryz.func7,Tryz.ntmps7
 go_upto_region 2 with (first|(go_at_call 8;refine ct.mono ?_;rintro e w1 ⟨b1,v,E,rfl,h1,h2⟩;obtain ⟨h3,r1⟩:=h2 hc;replace r1:=OwQs.read r1;obtain rfl:E=0:=h3;obtain ⟨va,vc,rfl⟩:=slr_slice r1)|fail)
 have b2:=box_below w1 (.cells (alT.flatMap tqC).toArray 40)
 have cs:=w_r13same (.slice va alT.length vc) (.slice (some ⟨w1.heap.size,0,none⟩) 7 7) alT alT _ (SlR.below r1 b2 (fun _ _ q=>q)) (OwQs.read (tq_new w1 alT (by decide))) hby hby
 rw[decide_eq_true rfl] at cs
 have eC:(alT.flatMap tqC).toArray=#[.int .i64 182, .int .u32 2048, .string ⟨#[120]⟩, .int .i64 0, .int .i64 183, .int .u32 0, .string ⟨#[]⟩, .int .i64 0, .int .i64 20, .int .u32 0, .string ⟨#[]⟩, .int .i64 4, .int .i64 166, .int .u32 0, .string ⟨#[]⟩, .int .i64 0, .int .i64 178, .int .u32 0, .string ⟨#[]⟩, .int .i64 0, .int .i64 194, .int .u32 0, .string ⟨#[]⟩, .int .i64 0, .int .i64 0, .int .u32 0, .string ⟨#[]⟩, .int .i64 0]:=rfl
 rw[eC] at cs b2
 go_wp2_with (first|(go_at_call 10;refine cs.mono ?_;rintro e w3 ⟨rfl,b3⟩)|fail)
 go_ret
 exact ⟨rfl,below_trans b1 (below_trans b2 b3)⟩
def isSp (w:List Int):Bool:=decide (w=[58])||decide (w=[39])||(byF w).isSome||decide (w=[59])||decide (w=[101,120,105,116])||decide (w=[91,39,93])||(tabF w).isSome||decide (w=[116,111])
theorem spec_no {w:List Int} (h:isSp w=false) (m:Mk) (r:List Tk):specF m w r=none:=by
 unfold isSp at h
 simp only[Bool.or_eq_false_iff,decide_eq_false_iff_not] at h
 obtain ⟨⟨⟨⟨⟨⟨⟨h1,h2⟩,h3⟩,h4⟩,h5⟩,h6⟩,h7⟩,h8⟩:=h
 unfold specF
 rw[if_neg (by simp[h1,h2,h3]),if_neg (by simp[h4,h5,h6,h7]),if_neg h8]
theorem prm_sp:∀x∈prmL,isSp x.1=false:=by decide+kernel
theorem prm_fnd:∀x∈prmL,fndN [] x.1=some x.2:=by decide+kernel
theorem hx_no (w:List Int) (h:w.take 2=[104,35]):isSp w=false∧fndN [] w=none:=by
 have key:∀{α:Type} (l:List (List Int×α)),(∀x∈l,¬x.1.take 2=[104,35])→l.find? (fun x=>decide (x.1=w))=none:=by
  intro α l hl
  rw[List.find?_eq_none]
  intro x hx
  simp only[decide_eq_true_eq]
  intro e
  exact hl x hx (by rw[e];exact h)
 have n1:∀v:List Int,¬v.take 2=[104,35]→¬w=v:=fun v hv e=>hv (by rw[←e];exact h)
 have k1:byF w=none:=by
  unfold byF
  rw[key byW (by decide+kernel)]
  rfl
 have k2:tabF w=none:=by
  unfold tabF
  rw[key tabW (by decide+kernel)]
  rfl
 constructor
 ·unfold isSp
  simp only[k1,k2,decide_eq_false (n1 [58] (by decide)),decide_eq_false (n1 [39] (by decide)),decide_eq_false (n1 [59] (by decide)),decide_eq_false (n1 [101,120,105,116] (by decide)),decide_eq_false (n1 [91,39,93] (by decide)),decide_eq_false (n1 [116,111] (by decide))]
  rfl
 ·unfold fndN
  simp only[List.reverse_nil,List.find?_nil]
  rw[key prmL (by decide+kernel)]
  rfl
def okW (L:List Int→Int×Bool) (x:Tk) (t:Tq):Prop:=
 x.1=1∧isSp x.2.1=false∧((∃c,fndN [] x.2.1=some c∧t=⟨c,0,[],0⟩)∨fndN [] x.2.1=none∧∃n,L x.2.1=(n,true)∧t=⟨16,n,[],0⟩)
theorem tok1_ok {L:List Int→Int×Bool} {x:Tk} {t:Tq} (h:okW L x t) (m:Mk) (hm:m.nm=[]) (r:List Tk):tok1F L m x r= .inl ({m with out:=m.out++[t]},r):=by
 obtain ⟨h1,h2,h3⟩:=h
 unfold tok1F
 rw[if_neg (by simp[h1]),spec_no h2,hm]
 rcases h3 with ⟨c,e1,e2⟩|⟨e0,n,e1,e2⟩
 ·simp only[e1]
  rw[e2,←hm]
  rfl
 ·simp only[e0,e1,if_true]
  rw[e2,←hm]
  rfl
theorem mak_ok {L:List Int→Int×Bool}:∀(xs:List (Tk×Tq)) (n:Nat) (m:Mk),xs.length≤n→m.nm=[]→(∀p∈xs,okW L p.1 p.2)→makG L n m (xs.map (·.1))= .inl {m with out:=m.out++xs.map (·.2)}
 |[],n,m,hn,hm,h=>by
  simp[makG]
 |p::xs,0,m,hn,hm,h=>by simp at hn
 |p::xs,n+1,m,hn,hm,h=>by
  simp only[List.map_cons]
  unfold makG
  rw[tok1_ok (h p List.mem_cons_self) m hm]
  simp only
  rw[mak_ok xs n _ (by simp at hn;omega) (by exact hm) (fun q hq=>h q (List.mem_cons_of_mem _ hq))]
  simp
theorem toks_ok {L:List Int→Int×Bool} (xs:List (Tk×Tq)) (h:∀p∈xs,okW L p.1 p.2):toksG L (xs.map (·.1))=(xs.map (·.2)++[⟨0,0,[],0⟩],0):=by
 unfold toksG
 rw[mak_ok xs _ mk0 (by simp) rfl h]
 simp[mk0,addT,offL]
def wtx:List (List Int×Int)→List Int
 |[]=>[]
 |x::l=>x.1++(x.2::wtx l)
def wpl:Int→List (List Int×Int)→List Tk
 |_,[]=>[]
 |i,x::l=>(1,x.1,i)::wpl (i+x.1.length+1) l
theorem wrd_end (i:Int) (t:List Int) (c p:Int) (out:List Tk) (hc:c=32∨c=10) (hg:good 1 t=true):step i c (pend 1 t p) out=(.btw,out++[(1,t,p)]):=by
 rcases hc with rfl|rfl
 ·exact pend_blank i 1 t p out hg
 ·exact eof_line i _ out _ (pend_eof 1 t p out hg)
theorem run_wtx:∀(l:List (List Int×Int)) (i:Int) (out:List Tk),(∀x∈l,good 1 x.1=true∧(∀c∈x.1,0≤c∧c < 256)∧(x.2=32∨x.2=10))→run i (wtx l) (.btw,out)=(.btw,out++wpl i l)
 |[],i,out,h=>by simp[wtx,wpl,run]
 |x::l,i,out,h=>by
  obtain ⟨h1,h2,h3⟩:=h x List.mem_cons_self
  have e:=run_tok i 1 x.1 out h2 h1
  rw[show tokT 1 x.1=x.1 from if_pos rfl] at e
  unfold wtx wpl
  rw[run_app,e]
  rw[run]
  rw[show step (i+(x.1.length:Int)) x.2 (pend 1 x.1 i) out=(.btw,out++[(1,x.1,i)]) from wrd_end _ _ _ _ _ h3 h1]
  rw[run_wtx l _ _ (fun y hy=>h y (List.mem_cons_of_mem _ hy))]
  simp
theorem cut_wtx (l:List (List Int×Int)) (h:∀x∈l,good 1 x.1=true∧(∀c∈x.1,0≤c∧c < 256)∧(x.2=32∨x.2=10)) (hl:(wtx l).length≤4096):cutF (wtx l)=(wpl 0 l,0):=by
 unfold cutF
 rw[if_neg (by omega),run_wtx l 0 [] h]
 simp[eof]
theorem prm_good:∀x∈prmL,good 1 x.1=true∧(∀c∈x.1,0≤c∧c < 256)∧x.1.length≤19:=by decide+kernel
def hexW (v:Int):List Int:=[104,35,dg (v / 268435456%16),dg (v / 16777216%16),dg (v / 1048576%16),dg (v / 65536%16),dg (v / 4096%16),dg (v / 256%16),dg (v / 16%16),dg (v%16)]
theorem dg_16 {n:Int} (h0:0≤n) (h1:n < 16):32 < dg n∧dg n < 256∧sm (dg n)=dg n:=by
 unfold dg sm
 omega
theorem hexW_good (v:Int):good 1 (hexW v)=true∧(∀c∈hexW v,0≤c∧c < 256)∧(hexW v).length=10:=by
 have k:∀x:Int,32 < dg (x%16)∧dg (x%16) < 256∧sm (dg (x%16))=dg (x%16):=fun x=>dg_16 (by omega) (by omega)
 have a:∀c∈hexW v,32 < c∧c < 256∧sm c=c:=by
  intro c hc
  unfold hexW at hc
  simp only[List.mem_cons,List.not_mem_nil,or_false] at hc
  rcases hc with rfl|rfl|rfl|rfl|rfl|rfl|rfl|rfl|rfl|rfl <;> first|exact k _|(unfold sm;omega)
 refine ⟨?_,fun c hc=>⟨by have:=a c hc;omega,(a c hc).2.1⟩,rfl⟩
 unfold good
 have s:spec (hexW v)=false:=by
  unfold spec hexW
  simp
 rw[s]
 have m:(hexW v).map sm=hexW v:=by
  conv=>rhs;rw[←List.map_id (hexW v)]
  exact List.map_congr_left (fun c hc=>(a c hc).2.2)
 simp only[Bool.and_false,Bool.not_false,Bool.and_true,decide_eq_true_eq]
 exact .inr ⟨trivial,by simp[hexW],m,fun c hc=>(a c hc).1⟩
def fwL:List Int→List Int→List ((List Int×Int)×Tq)
 |[],_=>[]
 |n::ns,[]=>(((prmL.getD n.toNat ([],0)).1,32),⟨(prmL.getD n.toNat ([],0)).2,0,[],0⟩)::fwL ns []
 |n::ns,v::vs=>(((prmL.getD n.toNat ([],0)).1,32),⟨(prmL.getD n.toNat ([],0)).2,0,[],0⟩)::((hexW v,10),⟨16,v,[],0⟩)::fwL ns vs
def fwI (L:List Int→Int×Bool) (x:(List Int×Int)×Tq):Prop:=
 good 1 x.1.1=true∧(∀c∈x.1.1,0≤c∧c < 256)∧(x.1.2=32∨x.1.2=10)∧x.1.1.length≤19∧∀i,okW L (1,x.1.1,i) x.2
theorem fwL_ok (L:List Int→Int×Bool):∀(ns vs:List Int),(∀n∈ns,0≤n∧n < 111)→(∀v∈vs,L (hexW v)=(v,true))→∀x∈fwL ns vs,fwI L x:=by
 have hp:∀n:Int,0≤n∧n < 111→fwI L (((prmL.getD n.toNat ([],0)).1,32),⟨(prmL.getD n.toNat ([],0)).2,0,[],0⟩):=by
  intro n hn
  have hl:n.toNat < prmL.length:=by
   have:prmL.length=111:=by decide+kernel
   omega
  have hm:prmL.getD n.toNat ([],0)∈prmL:=by
   rw[List.getD_eq_getElem?_getD,List.getElem?_eq_getElem hl]
   exact List.getElem_mem hl
  obtain ⟨g1,g2,g3⟩:=prm_good _ hm
  have p1:=prm_sp _ hm
  have p2:=prm_fnd _ hm
  exact ⟨g1,g2, .inl rfl,g3,fun i=>⟨rfl,p1, .inl ⟨_,p2,rfl⟩⟩⟩
 have hv:∀v:Int,L (hexW v)=(v,true)→fwI L ((hexW v,10),⟨16,v,[],0⟩):=by
  intro v e
  obtain ⟨g1,g2,g3⟩:=hexW_good v
  obtain ⟨k1,k2⟩:=hx_no (hexW v) rfl
  exact ⟨g1,g2, .inr rfl,by show (hexW v).length≤19;omega,fun i=>⟨rfl,k1, .inr ⟨k2,v,e,rfl⟩⟩⟩
 intro ns
 induction ns with
 |nil=>intro vs _ _ x hx;simp[fwL] at hx
 |cons n ns ih=>
  intro vs h1 h2 x hx
  have hn:=hp n (h1 n List.mem_cons_self)
  cases vs with
  |nil=>
   rcases List.mem_cons.1 hx with rfl|hx
   ·exact hn
   ·exact ih [] (fun z hz=>h1 z (List.mem_cons_of_mem _ hz)) h2 x hx
  |cons v vs=>
   rcases List.mem_cons.1 hx with rfl|hx
   ·exact hn
   ·rcases List.mem_cons.1 hx with rfl|hx
    ·exact hv v (h2 v List.mem_cons_self)
    ·exact ih vs (fun z hz=>h1 z (List.mem_cons_of_mem _ hz)) (fun z hz=>h2 z (List.mem_cons_of_mem _ hz)) x hx
theorem fwL_len:∀(ns vs:List Int),(fwL ns vs).length≤2*ns.length
 |[],vs=>by simp[fwL]
 |n::ns,[]=>by have:=fwL_len ns [];simp only[fwL,List.length_cons];omega
 |n::ns,v::vs=>by have:=fwL_len ns vs;simp only[fwL,List.length_cons];omega
theorem wtx_len (L:List Int→Int×Bool):∀(l:List ((List Int×Int)×Tq)),(∀x∈l,fwI L x)→(wtx (l.map (·.1))).length≤20*l.length
 |[],h=>by simp[wtx]
 |x::l,h=>by
  have a:=(h x List.mem_cons_self).2.2.2.1
  have b:=wtx_len L l (fun y hy=>h y (List.mem_cons_of_mem _ hy))
  simp only[List.map_cons,wtx,List.length_append,List.length_cons]
  omega
def wpq:Int→List ((List Int×Int)×Tq)→List (Tk×Tq)
 |_,[]=>[]
 |i,x::l=>((1,x.1.1,i),x.2)::wpq (i+x.1.1.length+1) l
theorem wpq_1:∀(l:List ((List Int×Int)×Tq)) (i:Int),(wpq i l).map (·.1)=wpl i (l.map (·.1))
 |[],i=>rfl
 |x::l,i=>by simp only[wpq,List.map_cons,wpl];rw[wpq_1 l]
theorem wpq_2:∀(l:List ((List Int×Int)×Tq)) (i:Int),(wpq i l).map (·.2)=l.map (·.2)
 |[],i=>rfl
 |x::l,i=>by simp only[wpq,List.map_cons];rw[wpq_2 l]
theorem wpq_ok (L:List Int→Int×Bool):∀(l:List ((List Int×Int)×Tq)) (i:Int),(∀x∈l,fwI L x)→∀p∈wpq i l,okW L p.1 p.2
 |[],i,h,p,hp=>by simp[wpq] at hp
 |x::l,i,h,p,hp=>by
  rcases List.mem_cons.1 hp with rfl|hp
  ·exact (h x List.mem_cons_self).2.2.2.2 i
  ·exact wpq_ok L l _ (fun y hy=>h y (List.mem_cons_of_mem _ hy)) p hp
theorem words_ok (L:List Int→Int×Bool) (ns vs:List Int) (h1:∀n∈ns,0≤n∧n < 111) (h2:∀v∈vs,L (hexW v)=(v,true)) (h3:ns.length≤100):
  toksF L (cutF (wtx ((fwL ns vs).map (·.1))))=((fwL ns vs).map (·.2)++[⟨0,0,[],0⟩],0):=by
 have h:=fwL_ok L ns vs h1 h2
 have h3:(wtx ((fwL ns vs).map (·.1))).length≤4096:=by
  have:=wtx_len L _ h
  have:=fwL_len ns vs
  omega
 rw[cut_wtx _ (fun x hx=>by
  obtain ⟨y,hy,rfl⟩:=List.mem_map.1 hx
  exact ⟨(h y hy).1,(h y hy).2.1,(h y hy).2.2.1⟩) h3]
 unfold toksF
 rw[if_pos rfl]
 show toksG L (wpl 0 ((fwL ns vs).map (·.1)))=_
 rw[←wpq_1,toks_ok _ (wpq_ok L _ 0 h),wpq_2]
theorem hexW_prs (v:Int) (h0:0≤v) (h1:v < 4294967296):prs ((hexW v).drop 2) 16=(v,0):=by
 have k:∀x:Int,isD (dg (x%16)) 16=true∧vl (dg (x%16)) 16=x%16∧¬dg (x%16)=45:=fun x=>
  have q:=dg_isD 16 (x%16) (by decide) (by decide) (by omega) (by omega)
  ⟨q.1,q.2.1,q.2.2.2.2⟩
 have n:num 16 ((hexW v).drop 2)=v:=by
  simp only[hexW,List.drop_succ_cons,List.drop_zero,num,List.foldl_cons,List.foldl_nil,(k _).2.1]
  omega
 have a:allD 16 ((hexW v).drop 2)=true:=by
  simp only[hexW,List.drop_succ_cons,List.drop_zero,allD,List.all_cons,List.all_nil,(k _).1]
  rfl
 have s:¬((hexW v).drop 2).head? =some 45:=by
  simp only[hexW,List.drop_succ_cons,List.drop_zero,List.head?_cons,Option.some.injEq]
  exact (k _).2.2
 unfold prs
 rw[if_neg (by decide),if_neg s]
 unfold prsT
 rw[if_neg (by simp[hexW]),if_neg (by rw[a];decide),n,if_neg (by omega)]
 rfl
def wrE (n:Int):(List Int×Int)×Tq:=(((prmL.getD n.toNat ([],0)).1,32),⟨(prmL.getD n.toNat ([],0)).2,0,[],0⟩)
def hxE (v:Int):(List Int×Int)×Tq:=((hexW v,10),⟨16,v,[],0⟩)
theorem fwL_snoc:∀(ns vs:List Int) (n:Int),fwL (ns++[n]) vs=fwL ns vs++wrE n::(if h:ns.length < vs.length then [hxE (vs.getD ns.length 0)] else [])
 |[],[],n=>rfl
 |[],v::vs,n=>by cases vs <;> rfl
 |m::ns,[],n=>by
  have:=fwL_snoc ns [] n
  simp only[List.cons_append,fwL,List.length_nil] at this ⊢
  rw[this]
  simp
 |m::ns,v::vs,n=>by
  have:=fwL_snoc ns vs n
  simp only[List.cons_append,fwL,List.length_cons,List.getD_cons_succ] at this ⊢
  rw[this]
  simp only[Nat.add_lt_add_iff_right]
def txF (l:List ((List Int×Int)×Tq)):List Int:=wtx (l.map (·.1))
def wnF (l:List ((List Int×Int)×Tq)):List Tq:=l.map (·.2)
theorem wtx_app:∀(a b:List (List Int×Int)),wtx (a++b)=wtx a++wtx b
 |[],b=>rfl
 |x::a,b=>by simp only[List.cons_append,wtx,wtx_app a b,List.append_assoc]
theorem txF_snoc (l m:List ((List Int×Int)×Tq)):txF (l++m)=txF l++txF m:=by unfold txF;rw[List.map_append,wtx_app]
theorem wnF_snoc (l m:List ((List Int×Int)×Tq)):wnF (l++m)=wnF l++wnF m:=List.map_append
def nsF (x:List Int):List Int:=x.map (·%111)
def upL (x vs:List Int) (k:Nat):List ((List Int×Int)×Tq):=fwL ((nsF x).take k) vs
theorem up_0 (x vs:List Int):upL x vs 0=[]:=by unfold upL;simp[fwL]
theorem up_s (x vs:List Int) (k:Nat) (h:k < x.length):upL x vs (k+1)=upL x vs k++wrE (x.getD k 0%111)::(if k < vs.length then [hxE (vs.getD k 0)] else []):=by
 have hk:k < (nsF x).length:=by simpa [nsF] using h
 unfold upL
 rw[List.take_succ_eq_append_getElem hk,fwL_snoc]
 have e:((nsF x).take k).length=k:=by rw[List.length_take];omega
 have e2:(nsF x)[k]=x.getD k 0%111:=by simp[nsF,List.getD_eq_getElem?_getD,h]
 rw[e,e2]
 by_cases hv:k < vs.length <;> simp[hv]
theorem up_h (x vs:List Int) (k:Nat) (h:k < x.length) (hv:k < vs.length):txF (upL x vs (k+1))=txF (upL x vs k)++((prmL.getD (x.getD k 0%111).toNat ([],0)).1++[32])++(hexW (vs.getD k 0)++[10])∧wnF (upL x vs (k+1))=wnF (upL x vs k)++[⟨(prmL.getD (x.getD k 0%111).toNat ([],0)).2,0,[],0⟩]++[⟨16,vs.getD k 0,[],0⟩]:=by
 rw[up_s x vs k h,if_pos hv,txF_snoc,wnF_snoc]
 constructor
 ·simp[txF,wtx,wrE,hxE]
 ·simp[wnF,wrE,hxE]
theorem up_n (x vs:List Int) (k:Nat) (h:k < x.length) (hv:¬k < vs.length):txF (upL x vs (k+1))=txF (upL x vs k)++((prmL.getD (x.getD k 0%111).toNat ([],0)).1++[32])∧wnF (upL x vs (k+1))=wnF (upL x vs k)++[⟨(prmL.getD (x.getD k 0%111).toNat ([],0)).2,0,[],0⟩]:=by
 rw[up_s x vs k h,if_neg hv,txF_snoc,wnF_snoc]
 constructor
 ·simp[txF,wtx,wrE]
 ·simp[wnF,wrE]
theorem up_len (x vs:List Int) (k:Nat):((upL x vs k).length:Int)≤2*k:=by
 have:=fwL_len ((nsF x).take k) vs
 unfold upL
 have:((nsF x).take k).length≤k:=by rw[List.length_take];omega
 omega
theorem prm_le (n:Nat):(prmL.getD n ([],0)).1.length≤19:=by
 by_cases h:n < 111
 ·have:∀m,m < 111→(prmL.getD m ([],0)).1.length≤19:=by decide+kernel
  exact this n h
 ·rw[List.getD_eq_getElem?_getD,List.getElem?_eq_none (by rw[prm_len];omega)]
  simp
theorem tx_le (x vs:List Int):∀k:Nat,k≤x.length→((txF (upL x vs k)).length:Int)≤31*k
 |0,_=>by rw[up_0];simp[txF,wtx]
 |k+1,h=>by
  have ih:=tx_le x vs k (by omega)
  have hp:=prm_le (x.getD k 0%111).toNat
  by_cases hv:k < vs.length
  ·rw[(up_h x vs k (by omega) hv).1]
   have:=(hexW_good (vs.getD k 0)).2.2
   simp only[List.length_append,List.length_singleton,this]
   omega
  ·rw[(up_n x vs k (by omega) hv).1]
   simp only[List.length_append,List.length_singleton]
   omega
theorem up_ok (L:List Int→Int×Bool) (x vs:List Int) (k:Nat) (hk:k≤100) (hx:∀n∈x,0≤n) (h2:∀v∈vs,L (hexW v)=(v,true)):toksF L (cutF (txF (upL x vs k)))=(wnF (upL x vs k)++[⟨0,0,[],0⟩],0):=by
 refine words_ok L ((nsF x).take k) vs (fun n hn=> ?_) h2 (by rw[List.length_take];omega)
 have:=List.mem_of_mem_take hn
 unfold nsF at this
 obtain ⟨y,hy,rfl⟩:=List.mem_map.1 this
 omega
theorem prm_by (n:Nat):∀c∈(prmL.getD n ([],0)).1,0≤c∧c < 256:=by
 by_cases h:n < prmL.length
 ·rw[List.getD_eq_getElem?_getD,List.getElem?_eq_getElem h]
  exact (prm_good _ (List.getElem_mem h)).2.1
 ·rw[List.getD_eq_getElem?_getD,List.getElem?_eq_none (by omega)]
  simp
theorem up_bytes (x vs:List Int):∀k:Nat,k≤x.length→∀c∈txF (upL x vs k),0≤c∧c < 256
 |0,_=>by rw[up_0];simp[txF,wtx]
 |k+1,h=>by
  have ih:=up_bytes x vs k (by omega)
  have hp:=prm_by (x.getD k 0%111).toNat
  by_cases hv:k < vs.length
  ·rw[(up_h x vs k (by omega) hv).1]
   have hh:=(hexW_good (vs.getD k 0)).2.1
   intro c hc
   simp only[List.mem_append,List.mem_singleton] at hc
   rcases hc with (hc|hc|rfl)|hc|rfl
   ·exact ih c hc
   ·exact hp c hc
   ·decide
   ·exact hh c hc
   ·decide
  ·rw[(up_n x vs k (by omega) hv).1]
   intro c hc
   simp only[List.mem_append,List.mem_singleton] at hc
   rcases hc with hc|hc|rfl
   ·exact ih c hc
   ·exact hp c hc
   ·decide
theorem lit_hexW (v:Int) (h0:0≤v) (h1:v < 4294967296):lit (hexW v)=(v,true):=by
 have h:=hexW_prs v h0 h1
 have hl:2 < (hexW v).length∧(hexW v)[1]? =some 35:=by simp[hexW]
 have hb:litB ((hexW v).headD 0)=16:=by
  have:(hexW v).headD 0=104:=rfl
  rw[this];decide
 unfold lit
 rw[if_pos hl,hb]
 unfold litR
 rw[h]
 rfl
theorem u32L:Tryz.prog.underlying 42=some (.slice (Tryz.prog.elem 42)):=by kernel_rfl
theorem e32L:Tryz.prog.elem 42=38:=by kernel_rfl
theorem z32L (w:World):(sizeOf (Tryz.prog.elem 42)).run Tryz.prog w= .ok 1 w:=by rw[e32L];exact Tryz.sizeOf38 w
theorem hex_step (v:Int) (j:Nat) (hj:j < 8):(hexW v).take (2+(j+1))=(hexW v).take (2+j)++[dg (v / 2^(28 - 4*(j:Int)).toNat%16)]:=by
 have:j=0∨j=1∨j=2∨j=3∨j=4∨j=5∨j=6∨j=7:=by omega
 rcases this with rfl|rfl|rfl|rfl|rfl|rfl|rfl|rfl <;> simp[hexW]
theorem dg_str (d:Int) (h0:0≤d) (h1:d < 16) (h:d.toNat < (ByteArray.mk #[48,49,50,51,52,53,54,55,56,57,97,98,99,100,101,102]).size):(((ByteArray.mk #[48,49,50,51,52,53,54,55,56,57,97,98,99,100,101,102])[d.toNat]'h).toNat:Int)=dg d:=by
 have:d=0∨d=1∨d=2∨d=3∨d=4∨d=5∨d=6∨d=7∨d=8∨d=9∨d=10∨d=11∨d=12∨d=13∨d=14∨d=15:=by omega
 rcases this with rfl|rfl|rfl|rfl|rfl|rfl|rfl|rfl|rfl|rfl|rfl|rfl|rfl|rfl|rfl|rfl <;> rfl
structure WdM (w0 wx:World) (T W:Value) (ys:List Int) (ts:List Tq):Prop where
 t:wx.ownsRow w0.heap.size 5 1 T ys.length (ys.map (Value.int .u8))
 m:OwQs w0.heap.size wx W ts
 b:Below w0.heap.size w0 wx
theorem WdM.below {w0 wx w':World} {T W:Value} {ys:List Int} {ts:List Tq} (h:WdM w0 wx T W ys ts) (g:Below wx.heap.size wx w'):WdM w0 w' T W ys ts:=
 ⟨own_belowN h.t g,own_belowN h.m g,below_trans h.b g⟩
theorem WdM.growT {w0 wx w':World} {T T' W:Value} {ys ys':List Int} {ts:List Tq} (h:WdM w0 wx T W ys ts) (g:wx.grownBy w' T.ownBlock) (o:w'.ownsRow w0.heap.size 5 1 T' ys'.length (ys'.map (Value.int .u8))):WdM w0 w' T' W ys' ts:=
 ⟨o,own_kept (Kept.own h.t g) (by decide) h.m,below_grown h.b g (fun k hk=>(own_block h.t hk).1)⟩
theorem WdM.growW {w0 wx w':World} {T W W':Value} {ys:List Int} {ts ts':List Tq} (h:WdM w0 wx T W ys ts) (g:wx.grownBy w' W.ownBlock) (o:OwQs w0.heap.size w' W' ts'):WdM w0 w' T W' ys ts':=
 ⟨own_kept (Kept.own h.m g) (by decide) h.t,o,below_grown h.b g (fun k hk=>(own_block h.m hk).1)⟩
theorem wpList_append_rowsg {P:Program} {w:World} {ops:Array Oper} {rest:List Oper} {o:Oper} {a:Act} {Q:Exit→Act→World→Prop} (hgd:Region.wanted o (yielded ops a.tmps)=true) (s x:Operand) (t:TypeId)
  (ho:o.op= .call {callee:= .builtin .append,args:=#[s,x],argTypes:=#[t,t]})
  (base:Nat) (e:TypeId) (i:TypeInfo) (z:Value) (sz bytes:Nat) (ht:P.underlying t=some (.slice e)) (hi:P.info? e=some i) (hz:i.zero=some z) (hsize:i.size=sz) (hby:i.bytes=bytes) (hzs:z.cells.size=sz) (hsz:0 < sz)
  (v:Value) (n:Nat) (cs:List Value) (hs:a.eval s=v) (hown:w.ownsRow base e sz v n cs)
  (vx:Value) (rows:List (List Value)) (hx:a.eval x=vx) (hr:SlC sz w vx rows) (h1:∀r∈rows,∀u∈r,u.oneCell'=true)
  (h63:n+rows.length≤maxLen) (hbytes:(n+rows.length)*bytes≤140737488355328) (hbase:base≤w.heap.size)
  (h:∀v' w',w'.ownsRow base e sz v' (n+rows.length) (cs++rows.flatten)→w.grownBy w' v.ownBlock→wpList P ops Q rest (a.put o.dst v') w'):wpList P ops Q (o::rest) a w:=
 wpList_step fun K hK=>by
  rw[if_pos hgd]
  exact wp_append_rows s x t ho base e i z sz bytes ht hi hz hsize hby hzs hsz v n cs hs hown vx rows hx hr h1 h63 hbytes hbase fun v' w' h2 h3=>hK _ _ (h v' w' h2 h3)
theorem words_tok {x vs:List Int} {k:Nat} (hk:k≤100) (hx:∀n∈x,0≤n∧n < 256) (hv:∀n∈vs,0≤n∧n < 4294967296):(cutF (txF (upL x vs k))).2=0∧toksG lit (cutF (txF (upL x vs k))).1=(wnF (upL x vs k)++[⟨0,0,[],0⟩],0):=by
 have h:=up_ok lit x vs k hk (fun n hn=>(hx n hn).1) (fun v hv'=>lit_hexW v (hv v hv').1 (hv v hv').2)
 unfold toksF at h
 by_cases hz:(cutF (txF (upL x vs k))).2=0
 ·rw[if_pos hz] at h
  exact ⟨hz,h⟩
 ·rw[if_neg hz] at h
  simp at h
theorem up_tb (x vs:List Int) (k:Nat):∀t∈wnF (upL x vs k)++[⟨0,0,[],0⟩],bytesL t.t:=by
 have h0:∀(ns vs:List Int),∀y∈fwL ns vs,y.2.t=[]:=by
  intro ns
  induction ns with
  |nil=>intro vs y hy;simp[fwL] at hy
  |cons n ns ih=>
   intro vs y hy
   cases vs with
   |nil=>
    simp only[fwL,List.mem_cons] at hy
    rcases hy with rfl|hy
    ·rfl
    ·exact ih _ y hy
   |cons v vs=>
    simp only[fwL,List.mem_cons] at hy
    rcases hy with rfl|rfl|hy
    ·rfl
    ·rfl
    ·exact ih _ y hy
 intro t ht
 rcases List.mem_append.1 ht with ht|ht
 ·unfold wnF upL at ht
  obtain ⟨y,hy,rfl⟩:=List.mem_map.1 ht
  rw[h0 _ _ y hy]
  intro c hc;cases hc
 ·rw[List.mem_singleton] at ht
  subst ht
  intro c hc;cases hc
set_option maxHeartbeats 4000000 in
set_option maxRecDepth 100000 in
theorem fw_words (v0 v1:Value) (x0 x1:List Int) (w:World) (r0:Rd .u8 w v0 x0) (r1:Rd .u32 w v1 x1) (f0:∀n∈x0,0≤n∧n < 256) (f1:∀n∈x1,0≤n∧n < 4294967296) (hT:Tab w):
  Calls Tryz.prog 6 #[v0,v1] w fun e w'=>e= .returned (.bool true)∧Below w.heap.size w w':=by
 have ca:=fw_alive15 w hT
 have hl0:=rd_len r0 uB (P:=Tryz.prog)
 have hl1:=rd_len r1 u32L (P:=Tryz.prog)
 obtain ⟨i0,hi0,hz0,hz1,hz2⟩:=info_parts infoU8
 obtain ⟨i9,hi9,hz9,hz8,hz7⟩:=info_parts infoTq
 go_enter Tryz.func6,Tryz.ntmps6
 go_upto_region 6 with (first
  |(go_at_call 7;refine ca.mono ?_;rintro e q1 ⟨rfl,b1⟩)
  |(go_at_call 18;refine (w_r9prims q1).mono ?_;rintro e q2 ⟨v5,rfl,p2,b2⟩;have hl5:=slr_len p2 uM (P:=Tryz.prog);rw[prm_len] at hl5))
 have b12:=below_trans b1 b2
 go_upto_region 7 with fail
 go_loopw [6,7,8] (fun T W I wx=>∃k:Nat,(k:Int)≤x0.length∧(k:Int)≤100∧I= .int .i64 k∧WdM q2 wx T W (txF (upL x0 x1 k)) (wnF (upL x0 x1 k))) (fun _ _ I _=>(100 - intOf I).toNat)
 case atStart=>exact ⟨0,by omega,by omega,rfl,by rw[up_0];exact World.ownsRow_nil _ _ _ _,by rw[up_0];exact World.ownsRow_nil _ _ _ _,Below.refl _ _⟩
 case round=>
  obtain ⟨k,hk,hk1,rfl,hw⟩:=hrel
  by_cases hlt:(k:Int) < x0.length∧(k:Int) < 100
  ·obtain ⟨h1,h2⟩:=hlt
   have hkk:k < x0.length:=by omega
   obtain ⟨a1,ia,c1⟩:=rd_idx (r0.below (below_trans b12 hw.b)) uB zB k (by omega) h1
   rw[show ((k:Int).toNat)=k from rfl] at c1
   have hn:=f0 (x0.getD k 0) (by rw[List.getD_eq_getElem?_getD,List.getElem?_eq_getElem hkk];exact List.getElem_mem hkk)
   have up1:=fun h=>up_h x0 x1 k hkk h
   have up2:=fun h=>up_n x0 x1 k hkk h
   obtain ⟨n,hne⟩:∃n,x0.getD k 0=n:=⟨_,rfl⟩
   rw[hne] at c1 hn
   simp only[hne] at up1 up2
   obtain ⟨m,hm⟩:∃m:Nat,n%111=(m:Int):=⟨(n%111).toNat,by omega⟩
   have hm1:m < prmL.length:=by rw[prm_len];omega
   have htm:n.tmod 111=(m:Int):=by rw[Int.tmod_eq_emod_of_nonneg hn.1,hm]
   simp only[hm,Int.toNat_natCast] at up1 up2
   have hgd:prmL.getD m ([],0)=prmL[m]:=by rw[List.getD_eq_getElem?_getD,List.getElem?_eq_getElem hm1];rfl
   simp only[hgd] at up1 up2
   obtain ⟨bp,op,nm,rp,p0,p1,en⟩:=prm_cell (p2.below hw.b (prmR_below hw.b)) m hm1
   obtain ⟨⟨pn,pc⟩,hpe⟩:∃x,prmL[m]=x:=⟨_,rfl⟩
   have hpl:=prm_le m
   have hpb:=prm_by m
   rw[hgd] at hpl hpb
   rw[hpe] at en p1 hpl hpb
   simp only[hpe] at up1 up2
   simp only at en p1 hpl hpb
   subst en
   have hwn:IntKind.i64.wrap n=n:=by rw[IntKind.wrap_i64];omega
   have ht0:=tx_le x0 x1 k (by omega)
   have hm0:=up_len x0 x1 k
   clear hpe hgd hm
   go_upto_region 10 with fail
   have bX:=box_below wr (.cells #[.string (strOfNums pn), .int .i64 pc] 46)
   have sp:=stands_new wr #[.string (strOfNums pn), .int .i64 pc] 46
   have h0:=hw.below bX
   obtain ⟨P0,hP0⟩:∃P0,wr.heap.size=P0:=⟨_,rfl⟩
   have hsz0:=hw.b.size
   generalize wr.alloc (.cells #[.string (strOfNums pn), .int .i64 pc] 46)=W0 at bX sp h0 ⊢
   rw[hP0] at sp hsz0 ⊢
   have y0:=sp.cell 0 _ rfl
   have hLp:LB (strOfNums pn)=pn:=LB_nums pn hpb
   have hsp:(strOfNums pn).size=pn.length:=by rw[←LB_len,hLp]
   obtain ⟨ys,hys⟩:∃ys,txF (upL x0 x1 k)=ys:=⟨_,rfl⟩
   obtain ⟨ts,hts⟩:∃ts,wnF (upL x0 x1 k)=ts:=⟨_,rfl⟩
   have htl:(ts.length:Int)≤200:=by rw[←hts];unfold wnF;rw[List.length_map];omega
   rw[hys] at ht0 hw h0
   rw[hts] at hw h0
   simp only[hys,hts] at up1 up2
   have hyl:(ys.length:Int)≤3100:=by omega
   have hzB:(ys.length+(strOfNums pn).size:Nat)≤4000:=by omega
   have hM:4000≤maxLen:=by unfold maxLen;omega
   have hM2:=h0.b.size
   go_upto_region 11 with (at_builtin;refine wpList_append_rds rfl _ _ 29 9 rfl q2.heap.size 5 i0 Tryz.underlying29 Tryz.underlying9 hi0 hz0 hz1 hz2 _ ys rfl h0.t _ rfl (by omega) (by omega) hM2 ?_;intro v2 w2 o2 g2;rw[hLp] at o2)
   have h2':=h0.growT g2 o2
   have sp2:=stands_kept (Kept.own h0.t g2) (by decide) sp
   have bY:=box_below w2 (.cells #[.int .u8 32] 5)
   have h3:=h2'.below bY
   have hM3:=h3.b.size
   have hl3:((ys++pn).length:Int)≤3200:=by rw[List.length_append];omega
   go_upto_region 12 with (at_builtin;refine wpList_append_rd (k:= .u8) rfl _ _ 29 rfl q2.heap.size 5 i0 1 Tryz.underlying29 hi0 hz0 hz1 hz2 _ (ys++pn) rfl h3.t _ [32] rfl (rd_one w2 32 5) (by simp only[List.length_singleton];omega) (by simp only[List.length_singleton];omega) hM3 ?_;intro v3 w3 o3 g3)
   have h4:=h3.growT g3 o3
   have sp4:=stands_kept (Kept.own h3.t g3) (by decide) (sp2.below bY)
   have y1:=sp4.cell 1 _ rfl
   have bZ:=box_below w3 (.cells #[.int .i64 pc, .int .u32 0, .string ⟨#[]⟩, .int .i64 0] 40)
   have h5:=h4.below bZ
   have hM5:=h5.b.size
   have o5:=h5.m
   unfold OwQs at o5
   have one:∀r∈[[Value.int .i64 pc, .int .u32 0, .string ⟨#[]⟩, .int .i64 0]],∀u∈r,u.oneCell'=true:=fun r hr u hu=>by simp at hr;subst hr;simp at hu;rcases hu with rfl|rfl|rfl|rfl <;> rfl
   go_upto_region 13 with (at_builtin;refine wpList_append_rows rfl _ _ 23 rfl q2.heap.size 40 i9 _ 4 40 Tryz.underlying23 hi9 hz9 hz8 hz7 rfl (by decide) _ ts.length _ rfl o5 _ [[Value.int .i64 pc, .int .u32 0, .string ⟨#[]⟩, .int .i64 0]] rfl (slc_one w3 [Value.int .i64 pc, .int .u32 0, .string ⟨#[]⟩, .int .i64 0] 40 4 rfl) one (by simp only[List.length_singleton];omega) (by simp only[List.length_singleton];omega) hM5 ?_;intro v6 w6 o6 g6)
   have h6:WdM q2 w6 v3 v6 (ys++pn++[32]) (ts++[⟨pc,0,[],0⟩]):=by
    refine h5.growW g6 ?_
    unfold OwQs
    rw[List.flatMap_append,List.length_append]
    exact o6
   clear h0 h2' h3 h4 h5 sp sp2 sp4 y0 y1 o2 o3 o5 o6 g2 g3 g6 bX bY bZ one
   by_cases hv:k < x1.length
   ·have hv':(k:Int) < x1.length:=by omega
    obtain ⟨u1,u2⟩:=up1 hv
    have hvb:=f1 (x1.getD k 0) (by rw[List.getD_eq_getElem?_getD,List.getElem?_eq_getElem hv];exact List.getElem_mem hv)
    have hLL:((ys++pn++[32]).length:Int)≤3300:=by simp only[List.length_append,List.length_singleton];omega
    obtain ⟨v,hve⟩:∃v,x1.getD k 0=v:=⟨_,rfl⟩
    rw[hve] at hvb u1 u2
    have bX:=box_below w6 (.cells #[.int .u8 104, .int .u8 35] 5)
    have h7:=h6.below bX
    have hM7:=h7.b.size
    go_upto_region 15 with (at_builtin;refine wpList_append_rd (k:= .u8) rfl _ _ 29 rfl q2.heap.size 5 i0 1 Tryz.underlying29 hi0 hz0 hz1 hz2 _ (ys++pn++[32]) rfl h7.t _ [104,35] rfl (rd_lit w6 [104,35] 5 (by decide) (by decide)) (by simp only[List.length_cons,List.length_nil];omega) (by simp only[List.length_cons,List.length_nil];omega) hM7 ?_;intro v7 w7 o7 g7)
    have h8:=h7.growT g7 o7
    clear h7 o7 g7 bX h6 hw
    obtain ⟨zs,hzs⟩:∃zs,ys++pn++[32]=zs:=⟨_,rfl⟩
    rw[hzs] at h8 hLL
    go_upto_region 16 with fail
    go_loopw [6,10] (fun T I wx=>∃j:Nat,j≤8∧I= .int .i64 (28 - 4*(j:Int))∧WdM q2 wx T v6 (zs++(hexW v).take (2+j)) (ts++[⟨pc,0,[],0⟩])) (fun _ I _=>(intOf I+4).toNat)
    case atStart=>exact ⟨0,by omega,rfl,h8⟩
    case round=>
     obtain ⟨j,hj,rfl,hw⟩:=hrel
     obtain ⟨a2,ib,c2⟩:=rd_idx (r1.below (below_trans b12 hw.b)) u32L z32L k (by omega) hv'
     rw[show ((k:Int).toNat)=k from rfl,hve] at c2
     by_cases hj8:j < 8
     ·obtain ⟨J,hJ⟩:∃J:Int,28 - 4*(j:Int)=J:=⟨_,rfl⟩
      rw[hJ]
      have hJ1:0≤J:=by omega
      have hJ2:J≤28:=by omega
      have hJu:IntKind.u64.wrap J=J:=by rw[IntKind.wrap_u64];omega
      have hq0:0≤v / 2^J.toNat:=Int.ediv_nonneg hvb.1 (by exact Int.pow_nonneg (by decide))
      obtain ⟨d,hd⟩:∃d,v / 2^J.toNat%16=d:=⟨_,rfl⟩
      have htd:(v / 2^J.toNat).tmod 16=d:=by rw[Int.tmod_eq_emod_of_nonneg hq0,hd]
      have hd0:0≤d:=by omega
      have hd1:d < 16:=by omega
      go_upto_region 18 with fail
      have hlz:((zs++(hexW v).take (2+j)).length:Int)≤3400:=by
       have:=List.length_take_le (2+j) (hexW v)
       rw[List.length_append];omega
      have hst:=hex_step v j hj8
      rw[hJ,hd,Eq.comm] at hst
      go_upto_region 17 with (first|(at_builtin;refine wpList_append_rd (k:= .u8) rfl _ _ 29 rfl q2.heap.size 5 i0 1 Tryz.underlying29 hi0 hz0 hz1 hz2 _ (zs++(hexW v).take (2+j)) rfl (hw.below (box_below wr _)).t _ [_] rfl (rd_one wr _ 5) (by simp only[List.length_singleton];omega) (by simp only[List.length_singleton];omega) (hw.below (box_below wr _)).b.size ?_;intro v9 w9 o9 g9;have h9:=(hw.below (box_below wr _)).growT g9 o9;rw[dg_str d hd0 hd1] at h9;clear o9 g9)|fail)
      rw[List.append_assoc,hst] at h9
      have hJw:IntKind.i64.wrap (J - 4)=J - 4:=by rw[IntKind.wrap_i64];omega
      go_wp2_with fail
      go_roundw
      case rel=>exact ⟨j+1,by omega,by rw[←hJ];congr 1;omega,h9⟩
      case measure=>simp[intOf];omega
     ·obtain rfl:j=8:=by omega
      rw[show (hexW v).take (2+8)=hexW v from List.take_of_length_le (by rw[(hexW_good v).2.2];decide)] at hw
      rw[show (28:Int) - 4*((8:Nat):Int)= -4 from rfl]
      have hlz:((zs++hexW v).length:Int)≤3400:=by
       have:=(hexW_good v).2.2
       rw[List.length_append];omega
      go_upto_region 20 with (first|(at_builtin;refine wpList_append_rd (k:= .u8) rfl _ _ 29 rfl q2.heap.size 5 i0 1 Tryz.underlying29 hi0 hz0 hz1 hz2 _ (zs++hexW v) rfl (hw.below (box_below wr _)).t _ [10] rfl (rd_one wr 10 5) (by simp only[List.length_singleton];omega) (by simp only[List.length_singleton];omega) (hw.below (box_below wr _)).b.size ?_;intro v9 w9 o9 g9)|fail)
      have h9:=(hw.below (box_below wr (.cells #[.int .u8 10] 5))).growT g9 o9
      clear hw o9 g9 ib c2
      obtain ⟨a3,ic,c3⟩:=rd_idx (r1.below (below_trans b12 h9.b)) u32L z32L k (by omega) hv'
      rw[show ((k:Int).toNat)=k from rfl,hve] at c3
      obtain ⟨t2,ht2⟩:∃t2,ts++[(⟨pc,0,[],0⟩:Tq)]=t2:=⟨_,rfl⟩
      rw[ht2] at h9 u2
      have htl2:(t2.length:Int)≤201:=by rw[←ht2,List.length_append,List.length_singleton];omega
      have one:∀r∈[[Value.int .i64 16, .int .u32 v, .string ⟨#[]⟩, .int .i64 0]],∀u∈r,u.oneCell'=true:=fun r hr u hu=>by simp at hr;subst hr;simp at hu;rcases hu with rfl|rfl|rfl|rfl <;> rfl
      have HU1:=hid u1
      have HU2:=hid u2
      clear u1 u2 hvb up1 up2 ht2
      have h10:=h9.below (box_below w9 (.cells #[.int .i64 16, .int .u32 v, .string ⟨#[]⟩, .int .i64 0] 40))
      have hM5:=h10.b.size
      have o5:=h10.m
      unfold OwQs at o5
      go_upto_region 8 with (first|(at_builtin;go_loud (refine wpList_append_rows rfl _ _ 23 rfl q2.heap.size 40 i9 _ 4 40 Tryz.underlying23 hi9 hz9 hz8 hz7 rfl (by decide) _ t2.length _ rfl o5 _ [[Value.int .i64 16, .int .u32 v, .string ⟨#[]⟩, .int .i64 0]] rfl (slc_one w9 [Value.int .i64 16, .int .u32 v, .string ⟨#[]⟩, .int .i64 0] 40 4 rfl) one (by simp only[List.length_singleton];omega) (by simp only[List.length_singleton];omega) hM5 ?_;intro v10 w10 o10 g10))|fail)
      have h11:WdM q2 w10 v9 v10 (zs++hexW v++[10]) (t2++[⟨16,v,[],0⟩]):=by
       refine h10.growW g10 ?_
       unfold OwQs
       rw[List.flatMap_append,List.length_append]
       exact o10
      go_wp2_with fail
      go_roundw
      case rel=>
       refine ⟨k+1,by omega,by omega,by go_num, ?_⟩
       rw[HU1.out,HU2.out,←List.append_assoc ys,hzs,←List.append_assoc]
       exact h11
      case measure=>simp[intOf];omega
   ·have hv':¬(k:Int) < x1.length:=by omega
    obtain ⟨u1,u2⟩:=up2 hv
    rw[←List.append_assoc] at u1
    go_wp2_with fail
    go_roundw
    case rel=>exact ⟨k+1,by omega,by omega,by go_num,by rw[u1,u2];exact h6⟩
    case measure=>simp[intOf];omega
  ·have hk2:k≤100:=by omega
   obtain ⟨wt0,wt1⟩:=words_tok (x:=x0) (vs:=x1) hk2 f0 f1
   have htb:=up_tb x0 x1 k
   have ht0:=tx_le x0 x1 k (by omega)
   have hm0:=up_len x0 x1 k
   have hby:bytesL (txF (upL x0 x1 k)):=up_bytes x0 x1 k (by omega)
   have htl:((wnF (upL x0 x1 k)).length:Int)≤200:=by unfold wnF;rw[List.length_map];omega
   obtain ⟨ys,hys⟩:∃ys,txF (upL x0 x1 k)=ys:=⟨_,rfl⟩
   obtain ⟨ts,hts⟩:∃ts,wnF (upL x0 x1 k)=ts:=⟨_,rfl⟩
   rw[hys] at wt0 wt1 ht0 hby hw
   rw[hts] at wt1 htb htl hw
   have hL:L (strOfNums ys)=ys:=L_nums ys hby
   have hyl:(ys.length:Int)≤3100:=by omega
   have ct:=fw_tokens (strOfNums ys) wr (str_size (by omega)) (hT.below (below_trans b12 hw.b))
   unfold TokQ at ct
   rw[hL,wt1] at ct
   have hcv:=rd_str (P:=Tryz.prog) (Rd_own hw.t).1 (src:=29) (dst:=9) (e:=5) Tryz.underlying29 Tryz.underlying5 Tryz.underlying9
   have one:∀r∈[[Value.int .i64 0, .int .u32 0, .string ⟨#[]⟩, .int .i64 0]],∀u∈r,u.oneCell'=true:=fun r hr u hu=>by simp at hr;subst hr;simp at hu;rcases hu with rfl|rfl|rfl|rfl <;> rfl
   have hM:4000≤maxLen:=by unfold maxLen;omega
   clear wt1 hys hts ht0 hm0
   by_cases h1:(k:Int) < x0.length
   ·have h2:¬(k:Int) < 100:=by omega
    go_upto_region 22 with (first|(go_at_call 8;refine ct.mono ?_;rintro e w1 ⟨bt,vt,E,rfl, -,hq⟩;obtain ⟨hE,rt⟩:=hq wt0;obtain rfl:E=0:=hE)|fail)
    clear hq ct hcv
    have hx1:=hw.below bt
    have bX:=box_below w1 (.cells #[.int .i64 0, .int .u32 0, .string ⟨#[]⟩, .int .i64 0] 40)
    have hx2:=hx1.below bX
    have rt2:=own_belowN rt bX
    have hM5:=hx2.b.size
    have o5:=hx2.m
    unfold OwQs at o5
    go_wp2_with (first
     |(at_builtin;refine wpList_append_rowsg rfl _ _ 23 rfl q2.heap.size 40 i9 _ 4 40 Tryz.underlying23 hi9 hz9 hz8 hz7 rfl (by decide) _ ts.length _ rfl o5 _ [[Value.int .i64 0, .int .u32 0, .string ⟨#[]⟩, .int .i64 0]] rfl (slc_one w1 [Value.int .i64 0, .int .u32 0, .string ⟨#[]⟩, .int .i64 0] 40 4 rfl) one (by simp only[List.length_singleton];omega) (by simp only[List.length_singleton];omega) hM5 ?_;intro v10 w10 o10 g10;have rt3:OwQs wr.heap.size w10 vt (ts++[⟨0,0,[],0⟩]):=own_frm (D:=fun k=>u7.ownBlock=some k) rt2 (Frm.grown g10 (fun k hk=>hk)) (fun k hk hD=>by have:=(own_block rt hk).1;have:=(own_block hw.m hD).2.1;omega);have o11:OwQs q2.heap.size w10 v10 (ts++[⟨0,0,[],0⟩]):=(by unfold OwQs;rw[List.flatMap_append,List.length_append];exact o10);have hb11:=(hx2.growW g10 o11).b;have cs:=w_r13same vt v10 (ts++[⟨0,0,[],0⟩]) (ts++[⟨0,0,[],0⟩]) w10 (OwQs.read rt3) (OwQs.read o11) htb htb;rw[decide_eq_true rfl] at cs;clear o10 rt3 o11 g10)
     |(go_at_call 10;refine cs.mono ?_;rintro e w12 ⟨rfl,b12'⟩)|fail)
    go_ret
    exact ⟨rfl,below_trans (below_trans b12 hb11) b12'⟩
   ·have h2:(k:Int)≤100:=hk1
    go_upto_region 22 with (first|(go_at_call 8;refine ct.mono ?_;rintro e w1 ⟨bt,vt,E,rfl, -,hq⟩;obtain ⟨hE,rt⟩:=hq wt0;obtain rfl:E=0:=hE)|fail)
    clear hq ct hcv
    have hx1:=hw.below bt
    have bX:=box_below w1 (.cells #[.int .i64 0, .int .u32 0, .string ⟨#[]⟩, .int .i64 0] 40)
    have hx2:=hx1.below bX
    have rt2:=own_belowN rt bX
    have hM5:=hx2.b.size
    have o5:=hx2.m
    unfold OwQs at o5
    go_wp2_with (first
     |(at_builtin;refine wpList_append_rowsg rfl _ _ 23 rfl q2.heap.size 40 i9 _ 4 40 Tryz.underlying23 hi9 hz9 hz8 hz7 rfl (by decide) _ ts.length _ rfl o5 _ [[Value.int .i64 0, .int .u32 0, .string ⟨#[]⟩, .int .i64 0]] rfl (slc_one w1 [Value.int .i64 0, .int .u32 0, .string ⟨#[]⟩, .int .i64 0] 40 4 rfl) one (by simp only[List.length_singleton];omega) (by simp only[List.length_singleton];omega) hM5 ?_;intro v10 w10 o10 g10;have rt3:OwQs wr.heap.size w10 vt (ts++[⟨0,0,[],0⟩]):=own_frm (D:=fun k=>u7.ownBlock=some k) rt2 (Frm.grown g10 (fun k hk=>hk)) (fun k hk hD=>by have:=(own_block rt hk).1;have:=(own_block hw.m hD).2.1;omega);have o11:OwQs q2.heap.size w10 v10 (ts++[⟨0,0,[],0⟩]):=(by unfold OwQs;rw[List.flatMap_append,List.length_append];exact o10);have hb11:=(hx2.growW g10 o11).b;have cs:=w_r13same vt v10 (ts++[⟨0,0,[],0⟩]) (ts++[⟨0,0,[],0⟩]) w10 (OwQs.read rt3) (OwQs.read o11) htb htb;rw[decide_eq_true rfl] at cs;clear o10 rt3 o11 g10)
     |(go_at_call 10;refine cs.mono ?_;rintro e w12 ⟨rfl,b12'⟩)|fail)
    go_ret
    exact ⟨rfl,below_trans (below_trans b12 hb11) b12'⟩
open Go
def flatCells:DataW Unit→List Value
 | .lit (.int k n)=>[.int k n]
 | .lit (.bool b)=>[.bool b]
 | .lit (.string l)=>[.string ⟨l.toArray⟩]
 | .agg ds=>ds.attach.flatMap fun ⟨d,_⟩=>flatCells d
 |_=>[]
theorem flat_agg (ds:List (DataW Unit)):flatCells (.agg ds)=ds.flatMap flatCells:=by
 rw[flatCells]
 conv=>rhs;rw[←List.attach_map_subtype_val ds]
 rw[List.flatMap_map]
def contB (P:Program):List Field→Nat→Nat→Bool
 |[],o,e=>o==e
 |f::fs,o,e=>f.offset==o&&contB P fs (o+P.cellsOf f.type) e
theorem contB_le (P:Program):∀(fs:List Field) (o e:Nat),contB P fs o e=true→o≤e
 |[],o,e,h=>by simp[contB] at h;omega
 |f::fs,o,e,h=>by
  simp[contB] at h
  have:=contB_le P fs _ e h.2
  omega
def flatB (P:Program):Nat→TypeId→Bool
 |0,_=>false
 |m+1,t=>match P.underlying t with
  |some .bool=>true
  |some (.int _)=>true
  |some .string=>true
  |some (.struct fs)=>contB P fs.toList 0 (P.cellsOf t)&&fs.toList.all fun f=>flatB P m f.type
  |some (.array n e)=>P.cellsOf t==n*P.cellsOf e&&flatB P m e
  |_=>false
theorem flat_fields {P:Program} (cs:List Value) (g:TypeId→List Value→Option (DataW Unit×List MemPlace)):
  ∀(fs:List Field) (o e:Nat) (xs:List (DataW Unit×List MemPlace)),contB P fs o e=true→e≤cs.length→
   (∀f∈fs,∀l d p,g f.type l=some (d,p)→l=flatCells d)→
   fs.mapM (fun f=>g f.type ((cs.drop f.offset).take (P.cellsOf f.type)))=some xs→(cs.drop o).take (e - o)=(xs.map (·.1)).flatMap flatCells
 |[],o,e,xs,hc,he,hf,hm=>by
  simp[contB] at hc
  subst hc
  simp at hm
  subst hm
  simp
 |f::fs,o,e,xs,hc,he,hf,hm=>by
  simp only[List.mapM_cons,Option.bind_eq_bind,Option.bind_eq_some_iff,Option.pure_def,Option.some.injEq] at hm
  obtain ⟨⟨d,p⟩,hd,r,hr,rfl⟩:=hm
  simp[contB] at hc
  obtain ⟨ho,hc⟩:=hc
  have hle:=contB_le P fs _ e hc
  have ih:=flat_fields cs g fs _ e r hc he (fun f' h'=>hf f' (List.mem_cons_of_mem _ h')) hr
  have h1:=hf f (List.mem_cons_self ..) _ _ _ hd
  rw[ho] at h1
  simp only[List.map_cons,List.flatMap_cons]
  rw[←h1,←ih,show e - o=P.cellsOf f.type+(e - (o+P.cellsOf f.type)) by omega,List.take_add,List.drop_drop]
theorem flat_rows {P:Program} (cs:List Value) (c:Nat) (g:List Value→Option (DataW Unit×List MemPlace)) (hg:∀l d p,g l=some (d,p)→l=flatCells d):
  ∀(m s:Nat) (xs:List (DataW Unit×List MemPlace)),(List.range' s m).mapM (fun i=>g ((cs.drop (i*c)).take c))=some xs→(cs.drop (s*c)).take (m*c)=(xs.map (·.1)).flatMap flatCells
 |0,s,xs,hm=>by
  simp at hm
  subst hm
  simp
 |m+1,s,xs,hm=>by
  rw[List.range'_succ] at hm
  simp only[List.mapM_cons,Option.bind_eq_bind,Option.bind_eq_some_iff,Option.pure_def,Option.some.injEq] at hm
  obtain ⟨⟨d,p⟩,hd,r,hr,rfl⟩:=hm
  have ih:=flat_rows (P:=P) cs c g hg m (s+1) r hr
  have h1:=hg _ _ _ hd
  simp only[List.map_cons,List.flatMap_cons]
  rw[←h1,←ih,Nat.succ_mul,Nat.add_comm (m*c) c,List.take_add,List.drop_drop,Nat.succ_mul]
theorem flat_of_trod {enc:TypeId×Value→Unit} {P:Program} {w:World} {base:Nat} {sp:Nat→Bool} {held:Bool}:∀(m fuel:Nat) (t:TypeId) (cs:List Value) (d:DataW Unit) (p:List MemPlace),flatB P m t=true→
  DataW.trod enc P w base sp held fuel t cs=some (d,p)→cs=flatCells d
 |0,_,_,_,_,_,hf,_=>by simp[flatB] at hf
 |m+1,0,_,_,_,_,_,h=>by simp[DataW.trod] at h
 |m+1,fuel+1,t,cs,d,p,hf,h=>by
  unfold flatB at hf
  cases hu:P.underlying t with
  |none=>rw[hu] at hf;simp at hf
  |some u=>
   rw[hu] at hf
   cases u <;> simp only[] at hf
   case bool=>
    obtain ⟨z,hc,hx⟩:=DataW.trod_bool hu h
    obtain ⟨rfl,_⟩:=Prod.mk.inj hx
    simp[hc,flatCells]
   case int k=>
    obtain ⟨z,hc,hx,_⟩:=DataW.trod_int hu h
    obtain ⟨rfl,_⟩:=Prod.mk.inj hx
    simp[hc,flatCells]
   case string=>
    obtain ⟨z,hc,hx,_⟩:=DataW.trod_string hu h
    obtain ⟨rfl,_⟩:=Prod.mk.inj hx
    simp[hc,flatCells]
   case struct fs=>
    simp only[DataW.trod,hu] at h
    split at h
    ·rename_i hl
     obtain ⟨xs,hm,hx⟩:=Option.map_eq_some_iff.1 h
     rw[Bool.and_eq_true] at hf
     obtain ⟨rfl,_⟩: .agg (xs.map (·.1))=d∧_:=by simpa using hx
     rw[flat_agg]
     have:=flat_fields (P:=P) cs (fun t l=>DataW.trod enc P w base sp held fuel t l) fs.toList 0 (P.cellsOf t) xs hf.1 (by omega) (fun f hf' l d p hd=>flat_of_trod m fuel f.type l d p (List.all_eq_true.1 hf.2 f hf') hd) hm
     rw[←this,List.drop_zero,Nat.sub_zero,List.take_of_length_le (by omega)]
    ·cases h
   case array n e=>
    simp only[DataW.trod,hu] at h
    split at h
    ·rename_i hl
     obtain ⟨xs,hm,hx⟩:=Option.map_eq_some_iff.1 h
     rw[Bool.and_eq_true,beq_iff_eq] at hf
     obtain ⟨rfl,_⟩: .agg (xs.map (·.1))=d∧_:=by simpa using hx
     rw[flat_agg]
     rw[List.range_eq_range'] at hm
     have:=flat_rows (P:=P) cs (P.cellsOf e) (fun l=>DataW.trod enc P w base sp held fuel e l) (fun l d p hd=>flat_of_trod m fuel e l d p hf.2 hd) n 0 xs hm
     rw[←this,Nat.zero_mul,List.drop_zero,List.take_of_length_le (by omega)]
    ·cases h
   all_goals exact absurd hf (by decide)
theorem flat_laid {P:Program} {W:World} {name:String} {d:DataW Unit} {rest:List (String×DataW Unit)} {g:Nat} {t:TypeId} (m:Nat) (hg:P.globalNamed name=some g) (hty:(P.globals[g]?).map (·.type)=some t) (hf:flatB P m t=true)
  (h:laidMet P ((name,d)::rest) W):∀j v,(flatCells d)[j]? =some v→W.cell? ⟨g,j,none⟩=some v:=by
 obtain ⟨ps,⟨g',t',cs,fuel,p,q,hg',ht',hvar,hd,_,_⟩,_⟩:=h
 obtain rfl:=Option.some.inj (hg.symm.trans hg')
 obtain rfl:=Option.some.inj (hty.symm.trans ht')
 have e:=flat_of_trod m fuel t cs.toList d p hf hd
 intro j v hv
 rw[World.var?_cell hg hvar j,←Array.getElem?_toList,e,hv]
theorem g64 : Tryz.prog.globalNamed "math/bits.deBruijn64tab" = some 5 := by kernel_rfl
theorem g64T:(Tryz.prog.globals[5]?).map (·.type)=some 206:=by kernel_rfl
theorem g64F:flatB Tryz.prog 4 206=true:=by kernel_rfl
theorem gES : Tryz.prog.globalNamed "strconv.ErrSyntax" = some 1 := by kernel_rfl
theorem gEST:(Tryz.prog.globals[1]?).map (·.type)=some 154:=by kernel_rfl
theorem cellsE:Tryz.prog.cellsOf 193=1:=by kernel_rfl
theorem cellsS:Tryz.prog.cellsOf 9=1:=by kernel_rfl
theorem star : "*" ++ "errors.errorString" = "*errors.errorString" := by decide
theorem rowE (u : TypeId) (h : Tryz.prog.typeName? 3 u = some "*errors.errorString") : u = 191 :=
 typeName_ptr_named (nm := "errors.errorString") (by rw [star]; kernel_rfl) (by kernel_rfl) (by decide) u (by rw [star]; exact h)
theorem tab_of_laid {W : World} (h : laidMetH Tryz.prog [("math/bits.deBruijn32tab", Rows.laid_math_bits_deBruijn32tab), ("math/bits.deBruijn64tab", Rows.laid_math_bits_deBruijn64tab), ("internal/strconv.uint64pow10", Rows.laid_internal_strconv_uint64pow10), ("strconv.ErrRange", Rows.laid_strconv_ErrRange), ("strconv.ErrSyntax", Rows.laid_strconv_ErrSyntax)] W) : Tab W := by
 have h : laidMet Tryz.prog [("math/bits.deBruijn32tab", Rows.laid_math_bits_deBruijn32tab), ("math/bits.deBruijn64tab", Rows.laid_math_bits_deBruijn64tab), ("internal/strconv.uint64pow10", Rows.laid_internal_strconv_uint64pow10), ("strconv.ErrRange", Rows.laid_strconv_ErrRange), ("strconv.ErrSyntax", Rows.laid_strconv_ErrSyntax)] W := h
 have h1:=flat_laid 4 g64 g64T g64F h.tail 15 (.int .u8 4) (by simp[Rows.laid_math_bits_deBruijn64tab,flat_agg,flatCells])
 obtain ⟨a0,s0,hv0, -, -, -⟩:=laid_sentinel h.tail.tail.tail.tail gES gEST Tryz.underlying154 rowE Tryz.underlying191 Tryz.underlying193 rfl rfl Tryz.underlying9 cellsE cellsS
 exact ⟨⟨_,_,by have h0:=World.var?_cell gES hv0 0;simpa using h0⟩,h1⟩
def laidObjs:Array Obj:=#[.cells #[.string ⟨#[118,97,108,117,101,32,111,117,116,32,111,102,32,114,97,110,103,101]⟩] 193, .cells #[.string ⟨#[105,110,118,97,108,105,100,32,115,121,110,116,97,120]⟩] 193]
noncomputable def low:Nat:=(World.holding Tryz.prog default ⟨#[],#[],[]⟩).heap.size
noncomputable def laidBlocks:List (Nat×Array Value):=
 [(4,(([0,1,28,2,29,14,24,3,30,22,20,15,25,17,4,8,31,27,13,23,21,19,16,7,26,12,18,6,11,5,10,9]:List Int).map (Value.int .u8)).toArray),(5,(([0,1,56,2,57,49,28,3,61,58,42,50,38,29,17,4,62,47,59,36,45,43,51,22,53,39,33,30,24,18,12,5,63,55,48,27,60,41,37,16,46,35,44,21,52,32,23,11,54,26,40,15,34,20,31,10,25,14,19,9,13,8,7,6]:List Int).map (Value.int .u8)).toArray),(3,(([1,10,100,1000,10000,100000,1000000,10000000,100000000,1000000000,10000000000,100000000000,1000000000000,10000000000000,100000000000000,1000000000000000,10000000000000000,100000000000000000,1000000000000000000,10000000000000000000]:List Int).map (Value.int .u64)).toArray),
  (2,#[.iface 191 (.pointer (some ⟨low,0,none⟩))]),(1,#[.iface 191 (.pointer (some ⟨low+1,0,none⟩))])]
end Go.Proofs.YtkkehbdahniiaaaGreatDoor
