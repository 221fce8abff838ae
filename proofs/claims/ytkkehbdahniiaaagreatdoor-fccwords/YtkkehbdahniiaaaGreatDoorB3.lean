import Derived.Laws.IdiomCopy
import Derived.Test.YtkkehbdahniiaaaGreatDoorB2
set_option linter.unusedVariables false
set_option linter.unusedSimpArgs false
set_option maxRecDepth 100000
namespace Go.Proofs.YtkkehbdahniiaaaGreatDoor
structure Rst where
 tk:List Tq
 sz:Int
 ah:List (Int×Int)
 bk:List Int
 lp:List (Int×Int×Int)
 cs:List (Bool×Int×Int×List (Int×Int))
def cdT (c:Int):Tq:=⟨c,0,[],0⟩
def szT (t:Tq):Int:=(byQ t true).length
def szL (l:List Tq):Int:=(l.map szT).sum
def lay1 (s:Rst) (t:Tq):Rst:={s with tk:=s.tk++[t],sz:=s.sz+szT t}
def brn (s:Rst) (c:Int):Int×Int:=((s.tk.length:Int),s.sz+szT (cdT c) - 2)
def led1 (to:Int) (tk:List Tq) (b:Int×Int):List Tq:=tk.set b.1.toNat {(tk.getD b.1.toNat ⟨0,0,[],0⟩) with o:=to - b.2}
def ledL (to:Int) (tk:List Tq) (bs:List (Int×Int)):List Tq:=bs.foldl (led1 to) tk
def led (s:Rst) (to:Int) (bs:List (Int×Int)):Rst:={s with tk:=ledL to s.tk bs}
def actR (s:Rst) (a:Int):Option Rst:=
 if a=1 then some {lay1 s (cdT 20) with ah:=s.ah++[brn s 20]}
 else if a=2 then match s.ah.getLast? with
  |none=>none
  |some b=>some {lay1 s (cdT 19) with ah:=s.ah.dropLast++[brn s 19,b]}
 else if a=3 then match s.ah.getLast? with
  |none=>none
  |some b=>some (led (lay1 {s with ah:=s.ah.dropLast} (cdT 178)) (s.sz+szT (cdT 178)) [b])
 else if a=4 then some {lay1 s (cdT 177) with bk:=s.bk++[s.sz+szT (cdT 177)]}
 else if a=5 then match s.bk.getLast? with
  |none=>none
  |some to=>some (led (lay1 {s with bk:=s.bk.dropLast} (cdT 19)) to [brn s 19])
 else if a=6 then match s.bk.getLast? with
  |none=>none
  |some to=>some (led (lay1 {s with bk:=s.bk.dropLast} (cdT 20)) to [brn s 20])
 else if a=7 then some {lay1 s (cdT 23) with lp:=s.lp++[((brn s 23).1,(brn s 23).2,s.sz+szT (cdT 23))]}
 else if a=8 then some {lay1 s (cdT 24) with lp:=s.lp++[((brn s 24).1,(brn s 24).2,s.sz+szT (cdT 24))]}
 else if a=9 then match s.lp.getLast? with
  |none=>none
  |some l=>some (led (led (lay1 {s with lp:=s.lp.dropLast} (cdT 21)) l.2.2 [brn s 21]) (s.sz+szT (cdT 21)) [(l.1,l.2.1)])
 else if a=10 then match s.lp.getLast? with
  |none=>none
  |some l=>some (led (led (lay1 {s with lp:=s.lp.dropLast} (cdT 22)) l.2.2 [brn s 22]) (s.sz+szT (cdT 22)) [(l.1,l.2.1)])
 else if a=11 then match s.lp.getLast? with
  |none=>none
  |some l=>some (lay1 s (cdT 27))
 else if a=12 then some {lay1 s (cdT 196) with cs:=s.cs++[(false,0,0,[])]}
 else match s.cs.getLast? with
  |none=>none
  |some c=>
   if ¬c.1=decide (a=14) then none
   else if a=13 then some {lay1 s (cdT 28) with cs:=s.cs.dropLast++[(true,(brn s 28).1,(brn s 28).2,c.2.2.2)]}
   else if a=14 then some {led (lay1 s (cdT 198)) (s.sz+szT (cdT 198)) [(c.2.1,c.2.2.1)] with cs:=s.cs.dropLast++[(false,0,0,c.2.2.2++[brn s 198])]}
   else some (led (lay1 {s with cs:=s.cs.dropLast} (cdT 197)) (s.sz+szT (cdT 197)) c.2.2.2)
def actC (a:Int):Int×Bool:=
 if a=1 then (20,false) else if a=2 then (19,false) else if a=3 then (178,false) else if a=4 then (177,false) else if a=5 then (19,true) else if a=6 then (20,true)
 else if a=7 then (23,false) else if a=8 then (24,false) else if a=9 then (21,false) else if a=10 then (22,false) else if a=11 then (27,false) else if a=12 then (196,false)
 else if a=13 then (28,false) else if a=14 then (198,false) else (197,false)
def eA (out:List Tq) (i:Int):Int:=(endsF 0 out).getD i.toNat 0
def brA (out:List Tq) (i:Int):Int×Int:=(i,eA out i - 2)
def csA (out:List Tq) (x:Int×List Int):Bool×Int×Int×List (Int×Int):=
 (!decide (x.1= -1),if x.1= -1 then 0 else x.1,if x.1= -1 then 0 else eA out x.1 - 2,x.2.map (brA out))
def rstF (out:List Tq) (f:Fw):Rst:=
 ⟨offL (endsF 0 out) f.pr out,szL out,f.og.map (brA out),f.ds.map (eA out),f.lp.map (fun i=>(i,eA out i - 2,eA out i)),f.cs.map (csA out)⟩
theorem szL_snoc (l:List Tq) (t:Tq):szL (l++[t])=szL l+szT t:=by simp[szL]
theorem ends_snoc:∀(l:List Tq) (t:Tq) (a:Int),endsF a (l++[t])=endsF a l++[a+szL l+szT t]
 |[],t,a=>by simp[endsF,szL,szT]
 |x::l,t,a=>by
  rw[List.cons_append,endsF,endsF,ends_snoc l t,List.cons_append]
  simp only[szL,szT,List.map_cons,List.sum_cons]
  congr 3
  omega
theorem ends_len:∀(l:List Tq) (a:Int),(endsF a l).length=l.length
 |[],a=>rfl
 |x::l,a=>by rw[endsF,List.length_cons,ends_len l,List.length_cons]
theorem eA_old {out:List Tq} {t:Tq} {i:Int} (h:inR out i):eA (out++[t]) i=eA out i:=by
 unfold eA inR at*
 rw[ends_snoc,List.getD_eq_getElem?_getD,List.getElem?_append_left (by rw[ends_len];omega),←List.getD_eq_getElem?_getD]
theorem eA_new (out:List Tq) (t:Tq):eA (out++[t]) out.length=szL out+szT t:=by
 unfold eA
 rw[ends_snoc,List.getD_eq_getElem?_getD,Int.toNat_natCast,List.getElem?_append_right (by rw[ends_len];omega),ends_len]
 simp
theorem offL_app (E:List Int):∀(p q:List (Int×Int)) (l:List Tq),offL E (p++q) l=offL E q (offL E p l)
 |[],q,l=>rfl
 |x::p,q,l=>by rw[List.cons_append,offL,offL,offL_app E p q]
theorem getD_app {α:Type} (l m:List α) (i:Nat) (d:α) (h:i < l.length):(l++m).getD i d=l.getD i d:=by
 rw[List.getD_eq_getElem?_getD,List.getElem?_append_left h,←List.getD_eq_getElem?_getD]
theorem offL_snoc (E E':List Int):∀(pr:List (Int×Int)) (l:List Tq) (t:Tq),(∀p∈pr,p.1.toNat < l.length∧E'.getD p.1.toNat 0=E.getD p.1.toNat 0∧E'.getD p.2.toNat 0=E.getD p.2.toNat 0)→offL E' pr (l++[t])=offL E pr l++[t]
 |[],l,t,h=>rfl
 |p::r,l,t,h=>by
  obtain ⟨h1,h2,h3⟩:=h p List.mem_cons_self
  rw[offL,offL,h2,h3,getD_app l _ _ _ h1,List.set_append_left _ _ h1]
  exact offL_snoc E E' r _ t (fun q hq=>by
   have:=h q (List.mem_cons_of_mem _ hq)
   rwa [List.length_set])
theorem FlG.tks {out:List Tq} {f:Fw} (h:FlG out f) (t:Tq):offL (endsF 0 (out++[t])) f.pr (out++[t])=offL (endsF 0 out) f.pr out++[t]:=by
 refine offL_snoc _ _ _ _ _ (fun p hp=> ?_)
 obtain ⟨a,_,b⟩:=h.pr p hp
 refine ⟨?_,eA_old a,eA_old b⟩
 unfold inR at a
 omega
theorem map_same {α β:Type} {f g:α→β} (l:List α) (h:∀x∈l,f x=g x):l.map f=l.map g:=List.map_congr_left h
theorem FlG.rst {out:List Tq} {f:Fw} (h:FlG out f) (t:Tq):rstF (out++[t]) f=lay1 (rstF out f) t:=by
 unfold rstF lay1
 simp only[Rst.mk.injEq]
 refine ⟨h.tks t,szL_snoc _ _, ?_, ?_, ?_, ?_⟩
 ·exact map_same _ (fun i hi=>by unfold brA;rw[eA_old (h.og i hi).1])
 ·exact map_same _ (fun i hi=>eA_old (h.ds i hi))
 ·exact map_same _ (fun i hi=>by rw[eA_old (h.lp i hi).1])
 ·refine map_same _ (fun x hx=> ?_)
  obtain ⟨h1,h2⟩:=h.cs x hx
  unfold csA
  have e1:x.2.map (brA (out++[t]))=x.2.map (brA out):=map_same _ (fun i hi=>by unfold brA;rw[eA_old (h2 i hi).1])
  rw[e1]
  rcases h1 with h1|h1
  ·rw[h1];rfl
  ·rw[eA_old h1.1]
theorem off_len (out:List Tq) (f:Fw):(rstF out f).tk.length=out.length:=offL_len _ _ _
theorem brn_is (out:List Tq) (f:Fw) (c:Int):brn (rstF out f) c=brA (out++[cdT c]) out.length:=by
 unfold brn brA
 rw[off_len,eA_new]
 rfl
theorem led_pair (E:List Int) (l:List Tq) (a b:Int) (q:List (Int×Int)):offL E ((a,b)::q) l=offL E q (led1 (E.getD b.toNat 0) l (a,E.getD a.toNat 0 - 2)):=rfl
theorem led_pairs (out:List Tq) (n:Int):∀(l:List Int) (tk:List Tq),offL (endsF 0 out) (l.map (fun i=>(i,n))) tk=ledL (eA out n) tk (l.map (brA out))
 |[],tk=>rfl
 |i::l,tk=>by
  rw[List.map_cons,List.map_cons,led_pair,led_pairs out n l]
  rfl
theorem getLast_map {α β:Type} (f:α→β) (l:List α):(l.map f).getLast? =l.getLast?.map f:=by
 rw[List.getLast?_map]
theorem dropLast_map {α β:Type} (f:α→β) (l:List α):(l.map f).dropLast=l.dropLast.map f:=by
 rw[List.map_dropLast]
theorem lstW_some {l:List Int} {x:Int} (h:l.getLast? =some x):lstW l=some (l.dropLast,x):=by unfold lstW;rw[h]
theorem lstW_none {l:List Int} (h:l.getLast? =none):lstW l=none:=by unfold lstW;rw[h]
theorem last_mem {α:Type} {l:List α} {x:α} (h:l.getLast? =some x):x∈l:=List.mem_of_getLast? h
theorem drop_mem {α:Type} {l:List α} {x:α} (h:x∈l.dropLast):x∈l:=List.dropLast_subset _ h
section
variable {out:List Tq} {f:Fw} (h:FlG out f)
include h
theorem FlG.a1:actR (rstF out f) 1=(flwF f 20 out.length false).map (fun f'=>rstF (out++[cdT 20]) f'):=by
 have e:flwF f 20 out.length false=some {f with og:=f.og++[(out.length:Int)]}:=by unfold flwF;simp
 rw[e,Option.map_some]
 unfold actR
 rw[if_pos rfl,←h.rst,brn_is]
 have hb:(rstF out f).ah=(rstF (out++[cdT 20]) f).ah:=by rw[h.rst];rfl
 rw[hb]
 unfold rstF
 simp
theorem FlG.a2:actR (rstF out f) 2=(flwF f 19 out.length false).map (fun f'=>rstF (out++[cdT 19]) f'):=by
 have e:flwF f 19 out.length false=(lstW f.og).map fun x=>{f with og:=x.1++[(out.length:Int),x.2]}:=by unfold flwF;simp
 rw[e]
 unfold actR
 rw[if_neg (by decide),if_pos rfl]
 have hb:(rstF out f).ah=(rstF (out++[cdT 19]) f).ah:=by rw[h.rst];rfl
 rw[hb,brn_is,←h.rst]
 have hl:(rstF (out++[cdT 19]) f).ah=f.og.map (brA (out++[cdT 19])):=rfl
 rw[hl,getLast_map]
 rcases q:f.og.getLast? with _|i
 ·rw[lstW_none q];rfl
 ·rw[lstW_some q]
  simp only[Option.map_some,dropLast_map]
  unfold rstF
  simp
theorem FlG.a3:actR (rstF out f) 3=(flwF f 178 out.length false).map (fun f'=>rstF (out++[cdT 178]) f'):=by
 have e:flwF f 178 out.length false=(lstW f.og).map fun x=>{f with og:=x.1,pr:=f.pr++[(x.2,(out.length:Int))]}:=by unfold flwF;simp
 rw[e]
 unfold actR
 rw[if_neg (by decide),if_neg (by decide),if_pos rfl]
 have hb:(rstF out f).ah=(rstF (out++[cdT 178]) f).ah:=by rw[h.rst];rfl
 have hl:(rstF (out++[cdT 178]) f).ah=f.og.map (brA (out++[cdT 178])):=rfl
 have hz:(rstF out f).sz+szT (cdT 178)=eA (out++[cdT 178]) out.length:=(eA_new _ _).symm
 have hy:∀A,lay1 {(rstF out f) with ah:=A} (cdT 178)={rstF (out++[cdT 178]) f with ah:=A}:=fun A=>by rw[h.rst];rfl
 rw[hb,hl,hz,getLast_map]
 rcases q:f.og.getLast? with _|i
 ·rw[lstW_none q];rfl
 ·rw[lstW_some q]
  simp only[Option.map_some,dropLast_map,hy]
  unfold rstF led
  simp only[offL_app]
  rfl
theorem FlG.a4:actR (rstF out f) 4=(flwF f 177 out.length false).map (fun f'=>rstF (out++[cdT 177]) f'):=by
 have e:flwF f 177 out.length false=some {f with ds:=f.ds++[(out.length:Int)]}:=by unfold flwF;simp
 rw[e,Option.map_some]
 unfold actR
 rw[if_neg (by decide),if_neg (by decide),if_neg (by decide),if_pos rfl,←h.rst]
 have hz:(rstF out f).sz+szT (cdT 177)=eA (out++[cdT 177]) out.length:=(eA_new _ _).symm
 have hb:(rstF out f).bk=(rstF (out++[cdT 177]) f).bk:=by rw[h.rst];rfl
 rw[hb,hz]
 unfold rstF
 simp
theorem FlG.a56 (c:Int) (hc:c=19∨c=20):(match (rstF out f).bk.getLast? with
  |none=>none
  |some to=>some (led (lay1 {(rstF out f) with bk:=(rstF out f).bk.dropLast} (cdT c)) to [brn (rstF out f) c]))=(flwF f c out.length true).map (fun f'=>rstF (out++[cdT c]) f'):=by
 have e:flwF f c out.length true=(lstW f.ds).map fun x=>{f with ds:=x.1,pr:=f.pr++[((out.length:Int),x.2)]}:=by unfold flwF;rcases hc with rfl|rfl <;> simp
 rw[e]
 have hb:(rstF out f).bk=(rstF (out++[cdT c]) f).bk:=by rw[h.rst];rfl
 have hl:(rstF (out++[cdT c]) f).bk=f.ds.map (eA (out++[cdT c])):=rfl
 have hy:∀A,lay1 {(rstF out f) with bk:=A} (cdT c)={rstF (out++[cdT c]) f with bk:=A}:=fun A=>by rw[h.rst];rfl
 rw[hb,hl,brn_is,getLast_map]
 rcases q:f.ds.getLast? with _|i
 ·rw[lstW_none q];rfl
 ·rw[lstW_some q]
  simp only[Option.map_some,dropLast_map,hy]
  unfold rstF led
  simp only[offL_app]
  rfl
theorem FlG.a78 (c:Int) (hc:c=23∨c=24):some {lay1 (rstF out f) (cdT c) with lp:=(rstF out f).lp++[((brn (rstF out f) c).1,(brn (rstF out f) c).2,(rstF out f).sz+szT (cdT c))]}=(flwF f c out.length false).map (fun f'=>rstF (out++[cdT c]) f'):=by
 have e:flwF f c out.length false=some {f with lp:=f.lp++[(out.length:Int)]}:=by unfold flwF;rcases hc with rfl|rfl <;> simp
 rw[e,Option.map_some,←h.rst,brn_is]
 have hz:(rstF out f).sz+szT (cdT c)=eA (out++[cdT c]) out.length:=(eA_new _ _).symm
 have hb:(rstF out f).lp=(rstF (out++[cdT c]) f).lp:=by rw[h.rst];rfl
 rw[hb,hz]
 unfold rstF brA
 simp
theorem FlG.a9T (c:Int) (hc:c=21∨c=22):(match (rstF out f).lp.getLast? with
  |none=>none
  |some l=>some (led (led (lay1 {(rstF out f) with lp:=(rstF out f).lp.dropLast} (cdT c)) l.2.2 [brn (rstF out f) c]) ((rstF out f).sz+szT (cdT c)) [(l.1,l.2.1)]))=(flwF f c out.length false).map (fun f'=>rstF (out++[cdT c]) f'):=by
 have e:flwF f c out.length false=(lstW f.lp).map fun x=>{f with lp:=x.1,pr:=f.pr++[((out.length:Int),x.2),(x.2,(out.length:Int))]}:=by unfold flwF;rcases hc with rfl|rfl <;> simp
 rw[e]
 have hb:(rstF out f).lp=(rstF (out++[cdT c]) f).lp:=by rw[h.rst];rfl
 have hl:(rstF (out++[cdT c]) f).lp=f.lp.map (fun i=>(i,eA (out++[cdT c]) i - 2,eA (out++[cdT c]) i)):=rfl
 have hz:(rstF out f).sz+szT (cdT c)=eA (out++[cdT c]) out.length:=(eA_new _ _).symm
 have hy:∀A,lay1 {(rstF out f) with lp:=A} (cdT c)={rstF (out++[cdT c]) f with lp:=A}:=fun A=>by rw[h.rst];rfl
 rw[hb,hl,hz,brn_is,getLast_map]
 rcases q:f.lp.getLast? with _|i
 ·rw[lstW_none q];rfl
 ·rw[lstW_some q]
  simp only[Option.map_some,dropLast_map,hy]
  unfold rstF led
  simp only[offL_app]
  rfl
theorem FlG.a11:actR (rstF out f) 11=(flwF f 27 out.length false).map (fun f'=>rstF (out++[cdT 27]) f'):=by
 have e:flwF f 27 out.length false=if f.lp=[] then none else some f:=by unfold flwF;simp
 rw[e]
 unfold actR
 rw[if_neg (by decide),if_neg (by decide),if_neg (by decide),if_neg (by decide),if_neg (by decide),if_neg (by decide),if_neg (by decide),if_neg (by decide),if_neg (by decide),if_neg (by decide),if_pos rfl]
 have hl:(rstF out f).lp=f.lp.map (fun i=>(i,eA out i - 2,eA out i)):=rfl
 rw[hl,getLast_map]
 by_cases c:f.lp=[]
 ·rw[if_pos c,c];rfl
 ·rw[if_neg c,List.getLast?_eq_some_getLast c]
  simp only[Option.map_some]
  rw[h.rst]
theorem FlG.a12:actR (rstF out f) 12=(flwF f 196 out.length false).map (fun f'=>rstF (out++[cdT 196]) f'):=by
 have e:flwF f 196 out.length false=some {f with cs:=f.cs++[(-1,[])]}:=by unfold flwF;simp
 rw[e,Option.map_some]
 unfold actR
 rw[if_neg (by decide),if_neg (by decide),if_neg (by decide),if_neg (by decide),if_neg (by decide),if_neg (by decide),if_neg (by decide),if_neg (by decide),if_neg (by decide),if_neg (by decide),if_neg (by decide),if_pos rfl,←h.rst]
 have hb:(rstF out f).cs=(rstF (out++[cdT 196]) f).cs:=by rw[h.rst];rfl
 rw[hb]
 unfold rstF csA
 simp
theorem FlG.aC (a c:Int) (hc:a=13∧c=28∨a=14∧c=198∨a=15∧c=197):actR (rstF out f) a=(flwF f c out.length false).map (fun f'=>rstF (out++[cdT c]) f'):=by
 have e:flwF f c out.length false=(match f.cs.getLast? with
  |none=>none
  |some x=>
   if decide (x.1= -1)=decide (c=198) then none
   else if c=28 then some {f with cs:=f.cs.dropLast++[((out.length:Int),x.2)]}
   else if c=198 then some {f with cs:=f.cs.dropLast++[(-1,x.2++[(out.length:Int)])],pr:=f.pr++[(x.1,(out.length:Int))]}
   else some {f with cs:=f.cs.dropLast,pr:=f.pr++x.2.map (fun i=>(i,(out.length:Int)))}):=by
  rcases hc with ⟨_,rfl⟩|⟨_,rfl⟩|⟨_,rfl⟩ <;> (unfold flwF;iterate 9 rw[if_neg (by decide)]) <;> (cases f.cs.getLast? <;> rfl)
 rw[e]
 unfold actR
 rw[if_neg (by omega),if_neg (by omega),if_neg (by omega),if_neg (by omega),if_neg (by omega),if_neg (by omega),if_neg (by omega),if_neg (by omega),if_neg (by omega),if_neg (by omega),if_neg (by omega),if_neg (by omega)]
 have hb:(rstF out f).cs=(rstF (out++[cdT c]) f).cs:=by rw[h.rst];rfl
 have hl:(rstF (out++[cdT c]) f).cs=f.cs.map (csA (out++[cdT c])):=rfl
 have hz:(rstF out f).sz+szT (cdT c)=eA (out++[cdT c]) out.length:=(eA_new _ _).symm
 have hy:∀A,lay1 {(rstF out f) with cs:=A} (cdT c)={rstF (out++[cdT c]) f with cs:=A}:=fun A=>by rw[h.rst];rfl
 have hbr:=brn_is out f c
 have hn1:¬(out.length:Int)= -1:=by omega
 rw[hb,hl,getLast_map]
 rcases q:f.cs.getLast? with _|x
 ·rfl
 ·simp only[Option.map_some,dropLast_map]
  rcases hc with ⟨rfl,rfl⟩|⟨rfl,rfl⟩|⟨rfl,rfl⟩
  ·by_cases hx:x.1= -1
   ·rw[if_neg (by unfold csA;simp[hx]),if_pos rfl,if_neg (by simp[hx]),if_pos rfl,hbr,←h.rst]
    unfold rstF csA brA
    simp[hn1]
   ·rw[if_pos (by unfold csA;simp[hx]),if_pos (by simp[hx])];rfl
  ·by_cases hx:x.1= -1
   ·rw[if_pos (by unfold csA;simp[hx]),if_pos (by simp[hx])];rfl
   ·rw[if_neg (by unfold csA;simp[hx]),if_neg (by decide),if_pos rfl,if_neg (by simp[hx]),if_neg (by decide),if_pos rfl,hbr,hz,←h.rst]
    unfold rstF led
    simp only[offL_app,Option.map_some]
    unfold csA
    simp[hx]
    rfl
  ·by_cases hx:x.1= -1
   ·rw[if_neg (by unfold csA;simp[hx]),if_neg (by decide),if_neg (by decide),if_neg (by simp[hx]),if_neg (by decide),if_neg (by decide),hz,hy]
    unfold rstF led
    simp only[offL_app,led_pairs,Option.map_some]
    rfl
   ·rw[if_pos (by unfold csA;simp[hx]),if_pos (by simp[hx])];rfl
theorem FlG.act (a:Int) (ha:1≤a∧a≤15):
  actR (rstF out f) a=(flwF f (actC a).1 out.length (actC a).2).map (fun f'=>rstF (out++[cdT (actC a).1]) f'):=by
 have hc:a=1∨a=2∨a=3∨a=4∨a=5∨a=6∨a=7∨a=8∨a=9∨a=10∨a=11∨a=12∨a=13∨a=14∨a=15:=by omega
 rcases hc with rfl|rfl|rfl|rfl|rfl|rfl|rfl|rfl|rfl|rfl|rfl|rfl|rfl|rfl|rfl
 ·exact h.a1
 ·exact h.a2
 ·exact h.a3
 ·exact h.a4
 ·exact h.a56 19 (Or.inl rfl)
 ·exact h.a56 20 (Or.inr rfl)
 ·exact h.a78 23 (Or.inl rfl)
 ·exact h.a78 24 (Or.inr rfl)
 ·exact h.a9T 21 (Or.inl rfl)
 ·exact h.a9T 22 (Or.inr rfl)
 ·exact h.a11
 ·exact h.a12
 ·exact h.aC 13 28 (by omega)
 ·exact h.aC 14 198 (by omega)
 ·exact h.aC 15 197 (by omega)
end
open Go.ChangeShapes Go.WideShapes Go.ChangeAt Go.RowKit
structure Frm (D:Nat→Prop) (w w':World):Prop where
 os:w'.os=w.os
 tape:w'.tape=w.tape
 output:w'.output=w.output
 size:w.heap.size≤w'.heap.size
 block:∀k,k < w.heap.size→¬D k→w'.heap[k]? =w.heap[k]?
theorem Frm.refl (D:Nat→Prop) (w:World):Frm D w w:=⟨rfl,rfl,rfl,Nat.le_refl _,fun _ _ _=>rfl⟩
theorem Frm.trans {D D1:Nat→Prop} {a b c:World} (h:Frm D a b) (g:Frm D1 b c) (hd:∀k,k < a.heap.size→D1 k→D k):Frm D a c:=
 ⟨g.os.trans h.os,g.tape.trans h.tape,g.output.trans h.output,Nat.le_trans h.size g.size,fun k hk hn=>by
  rw[g.block k (Nat.lt_of_lt_of_le hk h.size) (fun q=>hn (hd k hk q)),h.block k hk hn]⟩
theorem Frm.grown {D:Nat→Prop} {w w':World} {r:Option Nat} (g:w.grownBy w' r) (hr:∀k,r=some k→D k):Frm D w w':=
 ⟨g.os,g.tape,g.output,g.size,fun k hk hn=>g.block k hk (fun e=>hn (hr k e.symm))⟩
theorem Frm.below {D:Nat→Prop} {w w':World} (g:Below w.heap.size w w'):Frm D w w':=⟨g.os,g.tape,g.output,g.size,fun k hk _=>g.block k hk⟩
theorem Frm.toBelow {D:Nat→Prop} {base:Nat} {w w':World} (g:Frm D w w') (hd:∀k,D k→base≤k) (hb:base≤w.heap.size):Below base w w':=
 ⟨g.os,g.tape,g.output,g.size,fun k hk=>g.block k (Nat.lt_of_lt_of_le hk hb) (fun q=>by have:=hd k q;omega)⟩
theorem Frm.set {D:Nat→Prop} (w:World) (q j:Nat) (u:Value) (hq:D q):Frm D w (w.setCell ⟨q,j,none⟩ u):=
 ⟨rfl,rfl,rfl,by simp[World.setCell],fun k hk hn=>Below.heap_setCell _ _ _ k (fun e=>hn (by have e3:k=q:=e;rw[e3];exact hq))⟩
theorem Frm.mono {D D':Nat→Prop} {w w':World} (h:Frm D w w') (hd:∀k,k < w.heap.size→D k→D' k):Frm D' w w':=
 ⟨h.os,h.tape,h.output,h.size,fun k hk hn=>h.block k hk (fun q=>hn (hd k hk q))⟩
theorem Stands.frm {D:Nat→Prop} {w w':World} {b:Nat} {cs:Array Value} {T:TypeId} (h:Stands w b cs T) (g:Frm D w w') (hn:¬D b):Stands w' b cs T:=by
 unfold Stands at h ⊢
 rw[g.block b (heap_lt' h) hn]
 exact h
theorem own_frm {D:Nat→Prop} {base:Nat} {e:TypeId} {sz:Nat} {w w':World} {v:Value} {n:Nat} {cs:List Value} (o:w.ownsRow base e sz v n cs) (g:Frm D w w') (hn:∀k,v.ownBlock=some k→¬D k):w'.ownsRow base e sz v n cs:=by
 obtain ⟨hl,o⟩:=o
 refine ⟨hl, ?_⟩
 rcases o with h|⟨b,cap,cur,rfl,h1,h2,h3⟩
 ·exact Or.inl h
 ·exact Or.inr ⟨b,cap,cur,rfl,h1,by rw[g.block b (heap_lt' h2) (hn b rfl)];exact h2,h3⟩
abbrev Ch:=Bool×Int×Int×List (Int×Int)
def brC (b:Int×Int):List Value:=[.int .i64 b.1, .int .i64 b.2]
def lpC (l:Int×Int×Int):List Value:=[.int .i64 l.1, .int .i64 l.2.1, .int .i64 l.2.2]
def chC (x:Ch×Value):List Value:=[.bool x.1.1, .int .i64 x.1.2.1, .int .i64 x.1.2.2.1,x.2]
def OwB2 (base:Nat) (w:World) (v:Value) (l:List (Int×Int)):Prop:=w.ownsRow base 158 2 v l.length (l.flatMap brC)
def OwJ (base:Nat) (w:World) (v:Value) (l:List Int):Prop:=w.ownsRow base 3 1 v l.length (l.map (Value.int .i64))
def OwLp (base:Nat) (w:World) (v:Value) (l:List (Int×Int×Int)):Prop:=w.ownsRow base 171 3 v l.length (l.flatMap lpC)
def OwCh (base:Nat) (w:World) (v:Value) (l:List (Ch×Value)):Prop:=w.ownsRow base 162 4 v l.length (l.flatMap chC)
structure Rv where
 t:Value
 a:Value
 b:Value
 l:Value
 k:Value
 K:List (Ch×Value)
def Apart (x y:Value):Prop:=∀k,x.ownBlock=some k→y.ownBlock≠some k
def Rv.has (V:Rv) (k:Nat):Prop:=V.t.ownBlock=some k∨V.a.ownBlock=some k∨V.b.ownBlock=some k∨V.l.ownBlock=some k∨V.k.ownBlock=some k∨∃x∈V.K,x.2.ownBlock=some k
theorem Rv.hasT {V:Rv} {v:Value} {k:Nat} (h:({V with t:=v}:Rv).has k):V.has k∨v.ownBlock=some k:=by unfold Rv.has at*;simp only at h;rcases h with z|z;exact Or.inr z;exact Or.inl (Or.inr z)
theorem Rv.hasA {V:Rv} {v:Value} {k:Nat} (h:({V with a:=v}:Rv).has k):V.has k∨v.ownBlock=some k:=by unfold Rv.has at*;simp only at h;rcases h with z|z|z;exact Or.inl (Or.inl z);exact Or.inr z;exact Or.inl (Or.inr (Or.inr z))
theorem Rv.hasB {V:Rv} {v:Value} {k:Nat} (h:({V with b:=v}:Rv).has k):V.has k∨v.ownBlock=some k:=by unfold Rv.has at*;simp only at h;rcases h with z|z|z|z;exact Or.inl (Or.inl z);exact Or.inl (Or.inr (Or.inl z));exact Or.inr z;exact Or.inl (Or.inr (Or.inr (Or.inr z)))
theorem Rv.hasL {V:Rv} {v:Value} {k:Nat} (h:({V with l:=v}:Rv).has k):V.has k∨v.ownBlock=some k:=by unfold Rv.has at*;simp only at h;rcases h with z|z|z|z|z;exact Or.inl (Or.inl z);exact Or.inl (Or.inr (Or.inl z));exact Or.inl (Or.inr (Or.inr (Or.inl z)));exact Or.inr z;exact Or.inl (Or.inr (Or.inr (Or.inr (Or.inr z))))
theorem Rv.hasK {V:Rv} {v:Value} {K:List (Ch×Value)} {k:Nat} (h:({V with k:=v,K:=K}:Rv).has k):V.has k∨v.ownBlock=some k∨∃x∈K,x.2.ownBlock=some k:=by unfold Rv.has at*;simp only at h;rcases h with z|z|z|z|z;exact Or.inl (Or.inl z);exact Or.inl (Or.inr (Or.inl z));exact Or.inl (Or.inr (Or.inr (Or.inl z)));exact Or.inl (Or.inr (Or.inr (Or.inr (Or.inl z))));exact Or.inr z
def inD (q:Nat) (V:Rv) (k:Nat):Prop:=k=q∨V.has k
structure Cx where
 x6:Value
 x7:Value
 x8:Value
 x9:Value
 x10:Value
 x11:Value
structure RowM (base q:Nat) (X:Cx) (w:World) (V:Rv) (s:Rst):Prop where
 st:Stands w q #[V.t, .int .i64 s.sz,V.a,V.b,V.l,V.k,X.x6,X.x7,X.x8,X.x9,X.x10,X.x11] 61
 tk:OwQs base w V.t s.tk
 ah:OwB2 base w V.a s.ah
 bk:OwJ base w V.b s.bk
 lp:OwLp base w V.l s.lp
 ks:V.K.map (·.1)=s.cs
 row:OwCh base w V.k V.K
 outs:∀x∈V.K,OwB2 base w x.2 x.1.2.2.2
 sep:(V.a::V.K.map (·.2)).Pairwise Apart
 hq:base≤q
 hs:base≤w.heap.size
structure Nxt (q:Nat) (w:World) (V:Rv) (w':World) (V':Rv):Prop where
 fr:Frm (inD q V) w w'
 bl:∀k,V'.has k→V.has k∨w.heap.size≤k
theorem Nxt.refl (q:Nat) (w:World) (V:Rv):Nxt q w V w V:=⟨Frm.refl _ _,fun _ h=>Or.inl h⟩
theorem Nxt.trans {q:Nat} {a b c:World} {V V1 V2:Rv} (h:Nxt q a V b V1) (g:Nxt q b V1 c V2):Nxt q a V c V2:=by
 refine ⟨h.fr.trans g.fr (fun k hk hd=> ?_),fun k hk=> ?_⟩
 ·rcases hd with rfl|hd
  ·exact Or.inl rfl
  ·rcases h.bl k hd with z|z
   ·exact Or.inr z
   ·omega
 ·rcases g.bl k hk with z|z
  ·exact h.bl k z
  ·exact Or.inr (Nat.le_trans h.fr.size z)
theorem Nxt.below {q:Nat} {w w':World} (V:Rv) (g:Below w.heap.size w w'):Nxt q w V w' V:=⟨Frm.below g,fun _ h=>Or.inl h⟩
theorem Nxt.box {q:Nat} {w w1 w2:World} {V V1:Rv} {D:Nat→Prop} (n:Nxt q w V w1 V1) (g:Frm D w1 w2) (hD:∀k,k < w.heap.size→¬D k):Nxt q w V w2 V1:=⟨n.fr.trans g (fun k hk hd=>absurd hd (hD k hk)),n.bl⟩
theorem Nxt.notin {q B:Nat} {w w':World} {V V':Rv} (n:Nxt q w V w' V') (hB:¬inD q V B) (hlt:B < w.heap.size):¬inD q V' B:=by
 rintro (rfl|z)
 ·exact hB (Or.inl rfl)
 ·rcases n.bl B z with y|y
  ·exact hB (Or.inr y)
  ·omega
def RowP (base q:Nat) (X:Cx) (w:World) (V:Rv) (w':World) (s:Rst):Prop:=∃V',RowM base q X w' V' s∧Nxt q w V w' V'
theorem nxtS {q:Nat} {w:World} {V:Rv} (j:Nat) (u:Value) {V':Rv} (hv:∀k,V'.has k→V.has k):Nxt q w V (w.setCell ⟨q,j,none⟩ u) V':=⟨Frm.set w q j u (Or.inl rfl),fun k hk=>Or.inl (hv k hk)⟩
theorem nxtG {q:Nat} {w:World} {V:Rv} {w':World} {v v':Value} {V':Rv} (hv:∀k,v.ownBlock=some k→V.has k) (g:w.grownBy w' v.ownBlock) (hV:∀k,V'.has k→V.has k∨v'.ownBlock=some k) (hl:AtLoc w v v') (j:Nat) (u:Value):Nxt q w V (w'.setCell ⟨q,j,none⟩ u) V':=by
 refine ⟨(Frm.grown g (fun k hk=>Or.inr (hv k hk))).trans (Frm.set (D:=inD q V) w' q j u (Or.inl rfl)) (fun _ _ z=>z),fun k hk=> ?_⟩
 rcases hV k hk with z|z
 ·exact Or.inl z
 ·rcases hl with e|e
  ·exact Or.inl (hv k (by rw[←e];exact z))
  ·rw[z] at e
   injection e with e
   exact Or.inr (by omega)
def RowT (base q:Nat) (X:Cx) (w:World) (V:Rv) (w':World) (s:Rst):Prop:=∃vt,RowM base q X w' {V with t:=vt} s∧Nxt q w V w' {V with t:=vt}
theorem own_block {base:Nat} {e:TypeId} {sz:Nat} {w:World} {v:Value} {n:Nat} {cs:List Value} (o:w.ownsRow base e sz v n cs) {k:Nat} (hk:v.ownBlock=some k):base≤k∧k < w.heap.size∧∃cur fr,w.heap[k]? =some (.cells cur e fr):=by
 obtain ⟨_,o⟩:=o
 rcases o with ⟨rfl,_⟩|⟨g,cap,cur,rfl,hb,h1,_⟩
 ·cases hk
 ·simp[Value.ownBlock] at hk
  subst hk
  exact ⟨hb,heap_lt' h1,cur,_,h1⟩
section
variable {base q:Nat} {X:Cx} {w:World} {V:Rv} {s:Rst} (h:RowM base q X w V s)
include h
theorem RowM.qlt:q < w.heap.size:=heap_lt' h.st
theorem RowM.hasge {k:Nat} (hk:V.has k):base≤k∧k < w.heap.size:=by
 rcases hk with z|z|z|z|z|⟨x,hx,z⟩
 ·exact ⟨(own_block h.tk z).1,(own_block h.tk z).2.1⟩
 ·exact ⟨(own_block h.ah z).1,(own_block h.ah z).2.1⟩
 ·exact ⟨(own_block h.bk z).1,(own_block h.bk z).2.1⟩
 ·exact ⟨(own_block h.lp z).1,(own_block h.lp z).2.1⟩
 ·exact ⟨(own_block h.row z).1,(own_block h.row z).2.1⟩
 ·exact ⟨(own_block (h.outs x hx) z).1,(own_block (h.outs x hx) z).2.1⟩
theorem RowM.inlt {k:Nat} (hk:inD q V k):base≤k∧k < w.heap.size:=by
 rcases hk with rfl|hk
 ·exact ⟨h.hq,h.qlt⟩
 ·exact h.hasge hk
theorem RowM.new {k:Nat} (hk:w.heap.size≤k):¬inD q V k:=fun z=>by have:=(h.inlt z).2;omega
theorem RowM.toB {w':World} {V':Rv} (n:Nxt q w V w' V'):Below base w w':=n.fr.toBelow (fun k hk=>(h.inlt hk).1) h.hs
theorem RowM.below {w':World} (g:Below w.heap.size w w'):RowM base q X w' V s where
 st:=h.st.below g
 tk:=own_belowN h.tk g
 ah:=own_belowN h.ah g
 bk:=own_belowN h.bk g
 lp:=own_belowN h.lp g
 ks:=h.ks
 row:=own_belowN h.row g
 outs:=fun x hx=>own_belowN (h.outs x hx) g
 sep:=h.sep
 hq:=h.hq
 hs:=Nat.le_trans h.hs g.size
theorem RowM.frm {w':World} {D:Nat→Prop} (g:Frm D w w') (hn:∀k,D k→¬inD q V k):RowM base q X w' V s where
 st:=h.st.frm g (fun z=>hn _ z (Or.inl rfl))
 tk:=own_frm h.tk g (fun k hk z=>hn _ z (Or.inr (Or.inl hk)))
 ah:=own_frm h.ah g (fun k hk z=>hn _ z (Or.inr (Or.inr (Or.inl hk))))
 bk:=own_frm h.bk g (fun k hk z=>hn _ z (Or.inr (Or.inr (Or.inr (Or.inl hk)))))
 lp:=own_frm h.lp g (fun k hk z=>hn _ z (Or.inr (Or.inr (Or.inr (Or.inr (Or.inl hk))))))
 ks:=h.ks
 row:=own_frm h.row g (fun k hk z=>hn _ z (Or.inr (Or.inr (Or.inr (Or.inr (Or.inr (Or.inl hk)))))))
 outs:=fun x hx=>own_frm (h.outs x hx) g (fun k hk z=>hn _ z (Or.inr (Or.inr (Or.inr (Or.inr (Or.inr (Or.inr ⟨x,hx,hk⟩)))))))
 sep:=h.sep
 hq:=h.hq
 hs:=Nat.le_trans h.hs g.size
theorem RowM.kS (j:Nat) (u:Value):Kept 61 w (w.setCell ⟨q,j,none⟩ u):=set_kept h.st j u
theorem RowM.put {j:Nat} {u:Value} {V':Rv} {s':Rst} {X':Cx} (hc:#[V'.t, .int .i64 s'.sz,V'.a,V'.b,V'.l,V'.k,X'.x6,X'.x7,X'.x8,X'.x9,X'.x10,X'.x11]=#[V.t, .int .i64 s.sz,V.a,V.b,V.l,V.k,X.x6,X.x7,X.x8,X.x9,X.x10,X.x11].setIfInBounds j u)
  (tk:OwQs base w V'.t s'.tk) (ah:OwB2 base w V'.a s'.ah) (bk:OwJ base w V'.b s'.bk) (lp:OwLp base w V'.l s'.lp) (ks:V'.K.map (·.1)=s'.cs) (row:OwCh base w V'.k V'.K) (outs:∀x∈V'.K,OwB2 base w x.2 x.1.2.2.2) (sep:(V'.a::V'.K.map (·.2)).Pairwise Apart):
  RowM base q X' (w.setCell ⟨q,j,none⟩ u) V' s' where
 st:=by rw[hc];exact h.st.set j u
 tk:=own_kept (h.kS j u) (by decide) tk
 ah:=own_kept (h.kS j u) (by decide) ah
 bk:=own_kept (h.kS j u) (by decide) bk
 lp:=own_kept (h.kS j u) (by decide) lp
 ks:=ks
 row:=own_kept (h.kS j u) (by decide) row
 outs:=fun x hx=>own_kept (h.kS j u) (by decide) (outs x hx)
 sep:=sep
 hq:=h.hq
 hs:=by simpa [World.setCell] using h.hs
theorem RowM.set1 (n:Int):RowM base q X (w.setCell ⟨q,1,none⟩ (.int .i64 n)) V {s with sz:=n}:=
 h.put (by simp) h.tk h.ah h.bk h.lp h.ks h.row h.outs h.sep
theorem RowM.growT {w':World} {vt:Value} {tk:List Tq} (g:w.grownBy w' V.t.ownBlock) (o:OwQs base w' vt tk):RowM base q X (w'.setCell ⟨q,0,none⟩ vt) {V with t:=vt} {s with tk:=tk}:=by
 have k:=Kept.own h.tk g
 have st:=stands_kept k (by decide) h.st
 have kS:=set_kept st 0 vt
 exact ⟨by have:=st.set 0 vt;simpa using this,own_kept kS (by decide) o,own_kept kS (by decide) (own_kept k (by decide) h.ah),own_kept kS (by decide) (own_kept k (by decide) h.bk),own_kept kS (by decide) (own_kept k (by decide) h.lp),h.ks,own_kept kS (by decide) (own_kept k (by decide) h.row),fun x hx=>own_kept kS (by decide) (own_kept k (by decide) (h.outs x hx)),h.sep,h.hq,by have:=g.size;have:=h.hs;simp[World.setCell];omega⟩
theorem RowM.wroteT {w':World} {tk:List Tq} (g:w.grownBy w' V.t.ownBlock) (o:OwQs base w' V.t tk):RowM base q X w' V {s with tk:=tk}:=by
 have k:=Kept.own h.tk g
 exact ⟨stands_kept k (by decide) h.st,o,own_kept k (by decide) h.ah,own_kept k (by decide) h.bk,own_kept k (by decide) h.lp,h.ks,own_kept k (by decide) h.row,fun x hx=>own_kept k (by decide) (h.outs x hx),h.sep,h.hq,Nat.le_trans h.hs g.size⟩
end
theorem siz_ok {t:Tq} (h:okQ t true=true):(sizF t true:Int)=szT t:=by unfold sizF szT;rw[if_pos h]
theorem wrap_i64 {c:Int} (h0: -4611686018427387904≤c) (h1:c≤4611686018427387904):IntKind.i64.wrap c=c:=by
 simp[IntKind.wrap,IntKind.bits,IntKind.signed]
 omega
set_option maxHeartbeats 4000000 in
set_option maxRecDepth 100000 in
theorem fw_lay {base q:Nat} {X:Cx} {w:World} {V:Rv} {s:Rst} (h:RowM base q X w V s) (C N O:Int) (S:ByteArray) (ok:okQ ⟨C,N,LB S,O⟩ true=true) (n0:0≤N) (n1:N < 4294967296) (hS:S.size≤maxLen) (hl:s.tk.length≤1000000) (z0:0≤s.sz) (z1:s.sz≤1000000):
  Calls Tryz.prog 64 #[.pointer (some ⟨q,0,none⟩), .agg #[.int .i64 C, .int .u32 N, .string S, .int .i64 O]] w fun e w'=>e= .returned (.tuple #[])∧RowT base q X w V w' (lay1 s ⟨C,N,LB S,O⟩):=by
 obtain ⟨i9,hi9,hz9,hz8,hz7⟩:=info_parts infoTq
 have bw:=box_below w (.cells #[.int .i64 C, .int .u32 N, .string S, .int .i64 O] 40)
 have sp:=stands_new w #[.int .i64 C, .int .u32 N, .string S, .int .i64 O] 40
 have hbl:=by_len ⟨C,N,LB S,O⟩ true ok
 have hsz:(sizF ⟨C,N,LB S,O⟩ true:Int)=szT ⟨C,N,LB S,O⟩:=siz_ok ok
 have cz:=fun w=>w_psize C N O S true w n0 n1 hS
 simp only[hsz] at cz
 have hsb:0≤szT ⟨C,N,LB S,O⟩∧szT ⟨C,N,LB S,O⟩≤260:=by unfold szT;omega
 obtain ⟨Z,hZ⟩:∃Z,szT ⟨C,N,LB S,O⟩=Z:=⟨_,rfl⟩
 rw[hZ] at hsb cz
 have HZ:=hid hZ
 have HW:Hid (IntKind.i64.wrap (s.sz+Z)=s.sz+Z):=hid (wrap_i64 (by omega) (by omega))
 clear hZ hbl ok hsz
 go_enter Tryz.func64,Tryz.ntmps64
 go_upto_region 1 with fail
 have h0:=h.below bw
 have nx0:=Nxt.below (q:=q) V bw
 generalize w.alloc (.cells #[.int .i64 C, .int .u32 N, .string S, .int .i64 O] 40)=W0 at bw sp h0 nx0 ⊢
 have f0:=h0.st.cell 0 _ rfl
 have y0:=sp.cell 0 _ rfl
 have y1:=sp.cell 1 _ rfl
 have y2:=sp.cell 2 _ rfl
 have y3:=sp.cell 3 _ rfl
 have bX:=box_below W0 (.cells #[.int .i64 C, .int .u32 N, .string S, .int .i64 O] 40)
 have bd:Below (W0.alloc (.cells #[.int .i64 C, .int .u32 N, .string S, .int .i64 O] 40)).heap.size (W0.alloc (.cells #[.int .i64 C, .int .u32 N, .string S, .int .i64 O] 40)) (W0.alloc (.cells #[.int .i64 C, .int .u32 N, .string S, .int .i64 O] 40)).drew:=below_drewN (Below.refl _ _) 1
 have b3:=below_trans bX bd
 have h3:=h0.below b3
 have nx3:=nx0.trans (Nxt.below V b3)
 have sp3:=sp.below b3
 have f1:=(h0.below bX).st.cell 0 _ rfl
 have y4:=(sp.below bX).cell 0 _ rfl
 have y5:=(sp.below bX).cell 1 _ rfl
 have y6:=(sp.below bX).cell 2 _ rfl
 have y7:=(sp.below bX).cell 3 _ rfl
 have hnew:∀j u,[Value.int .i64 C, .int .u32 N, .string S, .int .i64 O][j]? =some u→(W0.alloc (.cells #[.int .i64 C, .int .u32 N, .string S, .int .i64 O] 40)).drew.cell? ⟨W0.heap.size,j,none⟩=some u:=fun j u hu=>below_cell bd (alloc_row W0 [Value.int .i64 C, .int .u32 N, .string S, .int .i64 O] 40 j u hu)
 have one:∀u∈[Value.int .i64 C, .int .u32 N, .string S, .int .i64 O],u.oneCell'=true:=fun u hu=>by simp at hu;rcases hu with rfl|rfl|rfl|rfl <;> rfl
 have p3:=h3.tk
 unfold OwQs at p3
 have hsX:=h3.hs
 have H3:=hid h3
 have N3:=hid nx3
 have S3:=hid sp3
 have hqW:w.heap.size≠q:=fun e=>by have:=h.qlt;omega
 have hs1:=h.st.cell 1 _ rfl
 clear h3 nx3 b3 bX bd h0 nx0 sp sp3
 go_wp2_with fail
 go_region_law (refine step_append_at rfl (.tmp 8) (.tmp 10) 23 rfl base 40 i9 _ 4 40 Tryz.underlying23 hi9 hz9 hz8 hz7 rfl (by decide) V.t s.tk.length _ (by simp[Act.eval,Act.put]) p3 W0.heap.size 1 1 [.int .i64 C, .int .u32 N, .string S, .int .i64 O] (by simp[Act.eval,Act.put]) rfl hnew one (by unfold maxLen;omega) (by omega) hsX ?_;intro v9 w9 ho9 hg9 hl9;obtain ⟨a9,c9,rfl⟩:=own_form ho9;have so9:=stands_kept (Kept.own p3 hg9) (by decide) H3.out.st;have u0:=so9.cell 0 _ rfl;have uf:=so9.free 0;have HO:=hid ho9;clear ho9)
 all_goals (
  have oC9:OwQs base w9 (.slice a9 (s.tk.length+1) c9) (s.tk++[⟨C,N,LB S,O⟩]):=by
   have:=HO.out
   unfold OwQs
   rw[List.flatMap_append,List.length_append]
   simpa [tqC,nums_LB] using this
  have h9:=H3.out.growT hg9 oC9
  have n9:Nxt q _ V _ {V with t:= .slice a9 (s.tk.length+1) c9}:=N3.out.trans (nxtG (v:=V.t) (v':= .slice a9 (s.tk.length+1) c9) (fun k hk=>Or.inl hk) hg9 (fun k hk=>Rv.hasT hk) hl9 0 (.slice a9 (s.tk.length+1) c9))
  have hne9:some w.heap.size≠V.t.ownBlock:=fun e=>by have:=(h.hasge (Or.inl e.symm)).2;omega
  have sp9:=(S3.out.grown hg9 hne9).other 0 (.slice a9 (s.tk.length+1) c9) hqW
  generalize w9.setCell ⟨q,0,none⟩ (.slice a9 (s.tk.length+1) c9)=W9 at h9 n9 sp9 ⊢
  have H9:=hid h9
  have N9:=hid n9
  have e1:=h9.st.cell 1 _ rfl
  have e2:=sp9.cell 0 _ rfl
  have e3:=sp9.cell 1 _ rfl
  have e4:=sp9.cell 2 _ rfl
  have e5:=sp9.cell 3 _ rfl
  clear h9 n9 sp9 hg9 hl9 so9 u0 uf oC9 HO p3 H3 N3 S3 hnew one f0 f1 y0 y1 y2 y3 y4 y5 y6 y7 hsX
  go_wp2_with fail
  go_region_with (go_at_call 94;refine (cz _).mono ?_;rintro e w5 ⟨rfl,b5⟩;have h5:=H9.out.below (below_trans (below_drewN (Below.refl _ W9) 1) b5);have n5:=N9.out.trans (Nxt.below _ (below_trans (below_drewN (Below.refl _ W9) 1) b5));have g1:=h5.st.cell 1 _ rfl;have gf:=h5.st.free 1;have H5:=hid h5;have N5:=hid n5;clear h5 n5)
  all_goals (
   go_wp2_with fail
   go_end0
   refine ⟨rfl,_,(?_:RowM base q X _ _ _),N5.out.trans (nxtS 1 _ (fun k z=>z))⟩
   have:=H5.out.set1 (s.sz+Z)
   unfold lay1
   rw[HZ.out,HW.out]
   exact this))
theorem rd_st1 {w:World} {B:Nat} {c:Int} {T:TypeId} (h:Stands w B #[.int .i64 c] T):Rd .i64 w (.slice (some ⟨B,0,none⟩) 1 1) [c]:=by
 refine Or.inr ⟨B,0,1,rfl,by simp,by simp,by decide,fun i hi=> ?_⟩
 have:i=0:=by simp at hi;omega
 subst this
 exact h.cell 0 _ rfl
theorem uJf:Tryz.prog.underlying 55=some (.slice (Tryz.prog.elem 55)):=by kernel_rfl
theorem eJf:Tryz.prog.elem 55=3:=by kernel_rfl
theorem zJf (w:World):(sizeOf (Tryz.prog.elem 55)).run Tryz.prog w= .ok 1 w:=by rw[eJf];exact Tryz.sizeOf3 w
theorem emp_LB:LB ⟨#[]⟩=[]:=by decide
set_option maxHeartbeats 4000000 in
set_option maxRecDepth 100000 in
theorem fw_codes {base q:Nat} {X:Cx} {w:World} {V:Rv} {s:Rst} (h:RowM base q X w V s) (C:Int) (B:Nat) (sb:Stands w B #[.int .i64 C] 3) (hB:¬inD q V B) (ok:okQ (cdT C) true=true) (hl:s.tk.length≤1000000) (z0:0≤s.sz) (z1:s.sz≤1000000):
  Calls Tryz.prog 37 #[.pointer (some ⟨q,0,none⟩), .slice (some ⟨B,0,none⟩) 1 1] w fun e w'=>e= .returned (.tuple #[])∧RowT base q X w V w' (lay1 s (cdT C)):=by
 have hla:=rd_len (rd_st1 sb) uJf (P:=Tryz.prog)
 simp only[List.length_singleton] at hla
 obtain ⟨a1,i1,c1⟩:=rd_idx (rd_st1 sb) uJf zJf 0 (by omega) (by simp)
 simp only[List.getD_cons_zero,Int.toNat_zero] at c1
 have cl:=fw_lay h C 0 0 ⟨#[]⟩ (by rw[emp_LB];exact ok) (by decide) (by decide) (by decide) hl z0 z1
 rw[emp_LB] at cl
 clear h sb hB ok
 go_enter Tryz.func37,Tryz.ntmps37
 go_wp2_with fail
 go_loopw [8] (fun I wx=>(I= .int .i64 0∧wx=w)∨(I= .int .i64 1∧RowT base q X w V wx (lay1 s (cdT C)))) (fun I _=>(1 - intOf I).toNat)
 case atStart=>exact Or.inl ⟨rfl,rfl⟩
 case round=>
  rcases hrel with ⟨rfl,rfl⟩|⟨rfl,hr⟩
  ·go_wp2_with (first|(go_at_call 64;refine cl.mono ?_;rintro e w5 ⟨rfl,h5⟩)|fail)
   go_roundw
   case rel=>exact Or.inr ⟨by go_num,h5⟩
   case measure=>simp[intOf]
  ·go_wp2_with fail
   go_end0
   exact ⟨rfl,hr⟩
theorem res_row1 {P:Program} {fn:Func} {p:Tmp} {ty:TypeId} (h:fn.results=#[.cell p ty]) (tmps:Array Value) (w:World) (g:Nat) (t:TypeId) (cs:Array Value) (fr:Nat×Nat) (d:TypeDesc)
  (hp:tmps.getD p undef= .pointer (some ⟨g,0,none⟩)) (hg:w.heap[g]? =some (.cells cs t fr))
  (hu:P.underlying ty=some d) (hd:(match d with| .struct _| .array _ _=>true|_=>false)=true) (hi:(P.info? ty).map (·.size)=some cs.size):
  (results fn tmps).run P w= .ok (.agg cs) w:=by
 have hp':tmps[p]?.getD undef= .pointer (some ⟨g,0,none⟩):=by simpa using hp
 simp[results,h,hp',asAddr,run_loadVar_row w g t ty cs fr d hg hu hd hi]
theorem set2 {w:World} {b:Nat} {z0 z1:Value} {T:TypeId} (h:Stands w b #[z0,z1] T) (a0 a1:Value):Stands ((w.setCell ⟨b,0,none⟩ a0).setCell ⟨b,1,none⟩ a1) b #[a0,a1] T:=by
 have h4:=(h.set 0 a0).set 1 a1
 simpa only[List.setIfInBounds_toArray,List.set_cons_zero,List.set_cons_succ] using h4
def brV (b:Int×Int):Value:= .agg #[.int .i64 b.1, .int .i64 b.2]
set_option maxHeartbeats 4000000 in
set_option maxRecDepth 100000 in
theorem fw_branch {base q:Nat} {X:Cx} {w:World} {V:Rv} {s:Rst} (h:RowM base q X w V s) (C:Int) (ok:okQ (cdT C) true=true) (hl:s.tk.length≤1000000) (z0:0≤s.sz) (z1:s.sz≤1000000):
  Calls Tryz.prog 111 #[.pointer (some ⟨q,0,none⟩), .int .i64 C] w fun e w'=>e= .returned (brV (brn s C))∧RowT base q X w V w' (lay1 s (cdT C)):=by
 have hla:=slr_len (OwQs.read h.tk) uQ (P:=Tryz.prog)
 have hsb:=by_len (cdT C) true ok
 obtain ⟨Z,hZ⟩:∃Z,szT (cdT C)=Z:=⟨_,rfl⟩
 have hz:0≤Z∧Z≤260:=by rw[←hZ];unfold szT;omega
 have bw:=box_below w (.cells #[.int .i64 0, .int .i64 0] 158)
 have sp:=stands_new w #[.int .i64 0, .int .i64 0] 158
 have h0:=h.below bw
 have nx0:=Nxt.below (q:=q) V bw
 have hR:=h.new (Nat.le_refl w.heap.size)
 have f0:=h0.st.cell 0 _ rfl
 clear hsb
 go_enter Tryz.func111,Tryz.ntmps111
 go_upto_region 2 with fail
 generalize w.alloc (.cells #[.int .i64 0, .int .i64 0] 158)=W0 at bw sp h0 nx0 f0 ⊢
 have b1:=box_below W0 (.cells #[.int .i64 C] 3)
 have h1:=h0.below b1
 have cl:=fw_codes h1 C W0.heap.size (stands_new W0 _ _) (h0.new (Nat.le_refl _)) ok hl z0 z1
 have n1:=nx0.trans (Nxt.below V b1)
 have sp1:=sp.below b1
 have N1:=hid n1
 have S1:=hid sp1
 have HR:=hid hR
 have ZZ:=hid hZ
 have HS:Hid (s.sz+Z=(lay1 s (cdT C)).sz):=hid (by unfold lay1;rw[hZ])
 have hlt1:=Nat.lt_of_lt_of_le (heap_lt' sp) b1.size
 clear h h0 h1 nx0 n1 sp sp1 b1 hR hZ
 go_upto_region 3 with (go_at_call 37;refine cl.mono ?_;rintro e w5 ⟨rfl,V5,h5,n5⟩)
 have sp5:=S1.out.frm n5.fr HR.out
 have f1:=h5.st.cell 1 _ rfl
 rw[←HS.out] at f1
 have g0:=sp5.cell 0 _ rfl
 have g1:=sp5.cell 1 _ rfl
 have gf:=sp5.free
 have G1:Hid (Stands _ w.heap.size #[.int .i64 s.tk.length, .int .i64 (s.sz+Z - 2)] 158):=set2 sp5 (.int .i64 s.tk.length) (.int .i64 (s.sz+Z - 2))
 have bF:Hid (Frm (fun k=>k=w.heap.size) w5 _):=((Frm.set (D:=fun k=>k=w.heap.size) w5 w.heap.size 0 (.int .i64 s.tk.length) rfl).trans (Frm.set (D:=fun k=>k=w.heap.size) _ w.heap.size 1 (.int .i64 (s.sz+Z - 2)) rfl) (fun _ _ z=>z))
 have H5:=hid h5
 have N5:=hid (N1.out.trans n5)
 have HN:=hid (n5.notin HR.out hlt1)
 clear h5 n5 sp5
 go_wp2_with fail
 (try simp only[Exit.inBlock,Exit.then])
 refine bodyPost_ret (res_row1 rfl _ _ w.heap.size 158 _ (0,0) _ rfl G1.out Tryz.underlying158 rfl (show _=some 2 by kernel_rfl)) rfl ?_
 refine ⟨by unfold brV brn;rw[ZZ.out],V5,H5.out.frm bF.out (fun k hk=>by rw[hk];exact HN.out),N5.out.box bF.out (fun k hk=>by omega)⟩
def brR (_:World) (cs:List Value) (b:Int×Int):Prop:=cs=brC b
theorem uB2:Tryz.prog.underlying 54=some (.slice (Tryz.prog.elem 54)):=by kernel_rfl
theorem eB2:Tryz.prog.elem 54=158:=by kernel_rfl
theorem zB2 (w:World):(sizeOf (Tryz.prog.elem 54)).run Tryz.prog w= .ok 2 w:=by rw[eB2];exact Tryz.sizeOf158 w
theorem OwB2.read {base:Nat} {w:World} {v:Value} {l:List (Int×Int)} (h:OwB2 base w v l):SlR 2 brR w v l:=slr_rows brC (fun _ _=>rfl) (by decide) h (fun _ _=>rfl)
theorem br_one {w:World} {B:Nat} {b:Int×Int} {T:TypeId} (h:Stands w B #[.int .i64 b.1, .int .i64 b.2] T):SlR 2 brR w (.slice (some ⟨B,0,none⟩) 1 1) [b]:=by
 refine ⟨[brC b],Or.inr ⟨B,0,1,rfl,by simp,by simp,by decide,fun i hi=> ?_⟩,by simp,fun i hi=> ?_⟩
 ·have:i=0:=by simp at hi;omega
  subst this
  refine ⟨rfl,fun j hj=> ?_⟩
  have hj2:j=0∨j=1:=by omega
  rcases hj2 with rfl|rfl
  ·exact h.cell 0 _ rfl
  ·exact h.cell 1 _ rfl
 ·have:i=0:=by simp at hi;omega
  subst this
  rfl
theorem br_at {w:World} {v:Value} {l:List (Int×Int)} (h:SlR 2 brR w v l) (i:Nat) (h1:i < l.length):
  ∃(b o:Nat),(∀w',(Instr.indexAt 54 v (.int .i64 (i:Int))).run Tryz.prog w'= .ok (.pointer (some ⟨b,o,none⟩)) w')∧w.cell? ⟨b,o,none⟩=some (.int .i64 l[i].1)∧w.cell? ⟨b,o+1,none⟩=some (.int .i64 l[i].2):=by
 obtain ⟨b,o,cs,r,hl,hc,h2⟩:=slr_idxN h uB2 zB2 i h1
 have h3:cs=[.int .i64 l[i].1, .int .i64 l[i].2]:=h2
 subst h3
 exact ⟨b,o,r,hc 0 (by omega),hc 1 (by omega)⟩
theorem own_take {w:World} {base:Nat} {e:TypeId} {sz g n cap:Nat} {cs:List Value} (h:w.ownsRow base e sz (.slice (some ⟨g,0,none⟩) n cap) n cs) (m:Nat) (hm:m≤n):w.ownsRow base e sz (.slice (some ⟨g,0,none⟩) m cap) m (cs.take (m*sz)):=by
 obtain ⟨hl,h⟩:=h
 have hle:m*sz≤n*sz:=Nat.mul_le_mul_right _ hm
 refine ⟨by rw[List.length_take];omega, ?_⟩
 rcases h with ⟨h,_⟩|⟨g',cap',cur,he,hb,hg,hc,hx,hs,ht⟩
 ·simp at h
 ·simp at he
  obtain ⟨rfl,rfl⟩:=he
  refine Or.inr ⟨g,cap,cur,rfl,hb,hg,by omega,hx,hs, ?_⟩
  rw[←ht,List.take_take,Nat.min_eq_left hle]
theorem idx_g {t:TypeId} {sz:Nat} (ht:Tryz.prog.underlying t=some (.slice (Tryz.prog.elem t))) (hs:∀w,(sizeOf (Tryz.prog.elem t)).run Tryz.prog w= .ok sz w) (g n cap:Nat) (x:Int) (h0:0≤x) (h1:x < n):
  ∀w',(Instr.indexAt t (.slice (some ⟨g,0,none⟩) n cap) (.int .i64 x)).run Tryz.prog w'= .ok (.pointer (some ⟨g,x.toNat*sz,none⟩)) w':=by
 intro w'
 rw[run_indexAt_slice (h:=ht),if_pos ⟨h0,h1⟩,hs]
 simp only[Result.andThen]
 congr 3
 unfold Addr.add
 split
 ·rename_i hz;rw[hz]
 ·simp
theorem cut_g {t:TypeId} {sz:Nat} (ht:Tryz.prog.underlying t=some (.slice (Tryz.prog.elem t))) (hs:∀w,(sizeOf (Tryz.prog.elem t)).run Tryz.prog w= .ok sz w) (g n cap:Nat) (hn:0 < n) (hc:n≤cap):
  ∀w',(Instr.slice t (.slice (some ⟨g,0,none⟩) n cap) none (some (.int .i64 ((n:Int) - 1))) none).run Tryz.prog w'= .ok (.slice (some ⟨g,0,none⟩) (n - 1) cap) w':=by
 intro w'
 rw[run_slice_h w' t _ n cap ht .i64 ((n:Int) - 1) (by omega) (by omega),hs]
 simp[Result.andThen,sliced,Addr.add]
theorem own_cap {w:World} {base:Nat} {e:TypeId} {sz g n cap:Nat} {cs:List Value} (o:w.ownsRow base e sz (.slice (some ⟨g,0,none⟩) n cap) n cs):n≤cap:=by
 obtain ⟨_,o⟩:=o
 rcases o with ⟨h,_⟩|⟨b,cap',cur,h,h1,h2,h3⟩
 ·simp at h
 ·simp at h
  obtain ⟨rfl,rfl⟩:=h
  omega
theorem flat_same {α:Type} (f:α→List Value) (l:List α):l.flatMap f=(l.map f).flatten:=by rw[List.flatMap_def]
theorem led1_len (to:Int) (tk:List Tq) (b:Int×Int):(led1 to tk b).length=tk.length:=by unfold led1;simp
theorem ledL_len (to:Int):∀(bs:List (Int×Int)) (tk:List Tq),(ledL to tk bs).length=tk.length
 |[],tk=>rfl
 |b::bs,tk=>by unfold ledL;rw[List.foldl_cons];exact (ledL_len to bs _).trans (led1_len to tk b)
theorem tq_put {base g cap:Nat} {w:World} {tk:List Tq} (h:OwQs base w (.slice (some ⟨g,0,none⟩) tk.length cap) tk) (b:Int×Int) (to:Int) (h0:0≤b.1) (h1:b.1 < tk.length):
  OwQs base (w.setCell ⟨g,b.1.toNat*4+3,none⟩ (.int .i64 (to - b.2))) (.slice (some ⟨g,0,none⟩) tk.length cap) (led1 to tk b)∧(∃u,w.cell? ⟨g,b.1.toNat*4+3,none⟩=some u)∧w.frozen? ⟨g,b.1.toNat*4+3,none⟩=false:=by
 unfold OwQs at h ⊢
 have hb:b.1.toNat < tk.length:=by omega
 have h2:∀r∈tk.map tqC,r.length=4:=by
  intro r hr
  obtain ⟨x,_,rfl⟩:=List.mem_map.1 hr
  rfl
 obtain ⟨s1,s2⟩:=h.stored (b.1.toNat*4+3) (.int .i64 (to - b.2))
 have hg:(tk.map tqC).getD b.1.toNat []=tqC (tk.getD b.1.toNat ⟨0,0,[],0⟩):=by
  rw[List.getD_eq_getElem?_getD,List.getElem?_map,List.getElem?_eq_getElem hb,List.getD_eq_getElem?_getD,List.getElem?_eq_getElem hb]
  rfl
 refine ⟨?_,⟨_,own_cell h _ _ (by rw[flat_same,flat_get _ 4 _ _ h2 (by simpa using hb) (by decide),hg];rfl)⟩,h.frozenAt _⟩
 rw[flat_same,flat_set _ 4 _ _ _ h2 (by simpa using hb) (by decide),hg] at s1
 rw[led1_len,flat_same]
 have e:(led1 to tk b).map tqC=(tk.map tqC).set b.1.toNat ((tqC (tk.getD b.1.toNat ⟨0,0,[],0⟩)).set 3 (.int .i64 (to - b.2))):=by
  unfold led1
  rw[List.map_set]
  rfl
 rw[e]
 exact s1
theorem led_take (to:Int) (tk:List Tq) (bs:List (Int×Int)) (k:Nat) (h:k < bs.length):ledL to tk (bs.take (k+1))=led1 to (ledL to tk (bs.take k)) bs[k]:=by
 rw[List.take_succ_eq_append_getElem h]
 unfold ledL
 rw[List.foldl_append]
 rfl
set_option maxHeartbeats 4000000 in
set_option maxRecDepth 100000 in
theorem fw_lead {base q:Nat} {X:Cx} {w:World} {V:Rv} {s:Rst} (h:RowM base q X w V s) (to:Int) (vl:Value) (bs:List (Int×Int)) (hv:∀W,Kept 40 w W→SlR 2 brR W vl bs) (hin:∀b∈bs,(0≤b.1∧b.1 < s.tk.length)∧ -2000000≤b.2∧b.2≤2000000) (hp:0 < s.tk.length) (t0: -2000000≤to) (t1:to≤2000000):
  Calls Tryz.prog 127 #[.pointer (some ⟨q,0,none⟩), .int .i64 to,vl] w fun e w'=>e= .returned (.tuple #[])∧RowM base q X w' V (led s to bs)∧Nxt q w V w' V:=by
 obtain ⟨g,cap,hV⟩:=own_some h.tk hp
 have hv':∀W,w.grownBy W (some g)→SlR 2 brR W vl bs:=fun W hg=>hv W (Kept.own h.tk (by rw[hV];exact hg))
 have hla:=slr_len (hv' w (gb_refl w _)) uB2 (P:=Tryz.prog)
 have hm:=slr_max (hv' w (gb_refl w _))
 unfold maxLen at hm
 have otk:OwQs base w (.slice (some ⟨g,0,none⟩) s.tk.length cap) s.tk:=by rw[←hV];exact h.tk
 have hfin:∀W tk,w.grownBy W (some g)→OwQs base W (.slice (some ⟨g,0,none⟩) s.tk.length cap) tk→RowM base q X W V {s with tk:=tk}∧Nxt q w V W V:=fun W tk hg o=>by
  rw[←hV] at o
  have hg':w.grownBy W V.t.ownBlock:=by rw[hV];exact hg
  exact ⟨h.wroteT hg' o,Frm.grown hg' (fun k hk=>Or.inr (Or.inl hk)),fun k z=>Or.inl z⟩
 have HF:=hid hfin
 have HL:=hid hv'
 have HI:=hid hin
 have HV:=hid hV
 clear hv hv' hin hV h hfin
 go_enter Tryz.func127,Tryz.ntmps127
 go_wp2_with fail
 go_loopw [10] (fun I wx=>∃k:Nat,(k:Int)≤bs.length∧I= .int .i64 k∧OwQs base wx (.slice (some ⟨g,0,none⟩) s.tk.length cap) (ledL to s.tk (bs.take k))∧w.grownBy wx (some g)) (fun I _=>(bs.length - intOf I).toNat)
 case atStart=>exact ⟨0,by omega,rfl,otk,gb_refl _ _⟩
 case round=>
  clear otk
  obtain ⟨k,hk,rfl,oT,hg⟩:=hrel
  by_cases hlt:(k:Int) < bs.length
  ·have hkl:k < bs.length:=by omega
   obtain ⟨hR,hN⟩:=HF.out wr _ hg oT
   obtain ⟨b,o,r1,d0,d1⟩:=br_at (HL.out wr hg) k hkl
   have hx:=HI.out _ (List.getElem_mem hkl)
   have htk:=led_take to s.tk bs k hkl
   obtain ⟨Y,hY⟩:∃Y,bs[k]=Y:=⟨_,rfl⟩
   rw[hY] at d0 d1 hx htk
   obtain ⟨x,y⟩:=Y
   simp only at d0 d1 hx
   obtain ⟨⟨x0,x1⟩,y0,y1⟩:=hx
   obtain ⟨T,hT⟩:∃T,ledL to s.tk (bs.take k)=T:=⟨_,rfl⟩
   have hlT:T.length=s.tk.length:=by rw[←hT];exact ledL_len _ _ _
   rw[hT] at oT htk
   have st:=hR.st
   rw[HV.out] at st
   have bq:q≠g:=fun e=>stands_apart st oT (by decide) (by rw[e];rfl)
   have HT:=hid htk
   have HG:=hid hg
   have HO:=hid oT
   have ST:=hid st
   have SB:=hid (stands_new wr #[.int .i64 x, .int .i64 y] 158)
   have BB:=hid (box_below wr (.cells #[.int .i64 x, .int .i64 y] 158))
   clear hT hY hg oT st hR hN htk
   go_upto_region 3 with fail
   generalize wr.alloc (.cells #[.int .i64 x, .int .i64 y] 158)=Wb at SB BB ⊢
   have f0:=(ST.out.below BB.out).cell 0 _ rfl
   have e0:=SB.out.cell 0 _ rfl
   have e1:=SB.out.cell 1 _ rfl
   have oB:OwQs base Wb (.slice (some ⟨g,0,none⟩) T.length cap) T:=by rw[hlT];exact own_belowN HO.out BB.out
   have oBd:OwQs base Wb.drew (.slice (some ⟨g,0,none⟩) T.length cap) T:=own_belowN oB (below_drewN (Below.refl _ Wb) 1)
   obtain ⟨s1,⟨u,s2⟩,s3⟩:=tq_put oBd (x,y) to x0 (by show x < (T.length:Int);omega)
   obtain ⟨_,⟨u',y1'⟩,y2'⟩:=tq_put oB (x,y) to x0 (by show x < (T.length:Int);omega)
   simp only at s1 s2 s3 y1' y2'
   have ix:=idx_g uQ zQ g s.tk.length cap x x0 x1
   have S1:=hid s1
   have hlT':=hid hlT
   clear s1 oB oBd hlT d0 d1 r1
   go_wp2_with fail
   go_region
   all_goals (
    go_wp2_with fail
    have b9:w.grownBy _ (some g):=gb_set (gb_below (gb_below HG.out BB.out) (below_drewN (Below.refl _ Wb) 1)) (x.toNat*4+3) (.int .i64 (to - y))
    go_roundw
    case rel=>exact ⟨k+1,by omega,by go_num,by rw[HT.out];have:=S1.out;rw[hlT'.out] at this;exact this,b9⟩
    case measure=>simp[intOf];omega)
  ·have hfull:bs.take k=bs:=List.take_of_length_le (by omega)
   rw[hfull] at oT
   obtain ⟨hR,hN⟩:=HF.out wr _ hg oT
   go_wp2_with fail
   go_end0
   exact ⟨rfl,hR,hN⟩
end Go.Proofs.YtkkehbdahniiaaaGreatDoor
