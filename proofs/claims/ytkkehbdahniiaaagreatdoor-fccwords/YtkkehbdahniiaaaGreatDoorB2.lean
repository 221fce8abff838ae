import Derived.Test.YtkkehbdahniiaaaGreatDoorB1
set_option linter.unusedVariables false
set_option linter.unusedSimpArgs false
set_option maxRecDepth 100000
namespace Go.Proofs.YtkkehbdahniiaaaGreatDoor
abbrev Tk:=Int×List Int×Int
inductive Sc
 |btw
 |wrd (w:List Int) (p:Int)
 |cmt
 |par
 |sho (t:List Int) (p:Int)
 |qt (k:Int) (t:List Int) (p:Int)
 |qq (k:Int) (t:List Int) (p:Int)
 |hx (k:Int) (t h:List Int) (p:Int)
 |ert
 |erl
def hexG:Option Int→List Int→Option (List Int)
 |none,[]=>some []
 |some _,[]=>none
 |o,c::r=>if c≤32 then hexG o r else if isD c 16=false then none else
  match o with
  |none=>hexG (some (vl c 16)) r
  |some n=>(hexG none r).map ((n*16+vl c 16)::·)
def spec (w:List Int):Bool:=decide (w=[92]∨w=[40]∨w=[46,40]∨w=[34]∨w=[46,34])
def wend (w:List Int) (p c:Int) (out:List Tk):Sc×List Tk:=
 if w=[92] then (if c=10 then .btw else .cmt,out) else if w=[40] then (.par,out) else if w=[46,40] then (.sho [] p,out)
 else if w=[34] then (.qt 2 [] p,out) else if w=[46,34] then (.qt 3 [] p,out) else (.btw,out++[(1,w.map sm,p)])
def fin (k:Int) (t:List Int) (p:Int) (out:List Tk):Sc×List Tk:=if 255 < t.length then (.erl,out) else (.btw,out++[(k,t,p)])
def step (i c:Int) (s:Sc) (out:List Tk):Sc×List Tk:=
 match s with
 | .btw=>if c≤32 then (.btw,out) else (.wrd [c] i,out)
 | .wrd w p=>if c≤32 then wend w p c out else (.wrd (w++[c]) p,out)
 | .cmt=>(if c=10 then .btw else .cmt,out)
 | .par=>(if c=41 then .btw else .par,out)
 | .sho t p=>if c=41 then fin 3 t p out else (.sho (t++[c]) p,out)
 | .qt k t p=>if c=34 then (.qq k t p,out) else (.qt k (t++[c]) p,out)
 | .qq k t p=>if c=40 then (.hx k t [] p,out) else if c≤32 then fin k t p out else (.ert,out)
 | .hx k t h p=>if c=41 then (match hexG none h with
   |none=>(.ert,out)
   |some b=>(.qt k (t++b) p,out)) else (.hx k t (h++[c]) p,out)
 | .ert=>(.ert,out)
 | .erl=>(.erl,out)
def run (i:Int):List Int→Sc×List Tk→Sc×List Tk
 |[],s=>s
 |c::l,s=>run (i+1) l (step i c s.1 s.2)
def eof (s:Sc×List Tk):List Tk×Int:=
 match s.1 with
 | .btw=>(s.2,0)
 | .cmt=>(s.2,0)
 | .wrd w p=>if w=[92] then (s.2,0) else if spec w=true then ([],15) else (s.2++[(1,w.map sm,p)],0)
 | .qq k t p=>if 255 < t.length then ([],3) else (s.2++[(k,t,p)],0)
 | .ert=>([],15)
 | .erl=>([],3)
 | .par=>([],15)
 | .sho _ _=>([],15)
 | .qt _ _ _=>([],15)
 | .hx _ _ _ _=>([],15)
def cutF (X:List Int):List Tk×Int:=if 4096 < X.length then ([],3) else eof (run 0 X (.btw,[]))
theorem run_app (a b:List Int):∀(i:Int) (s:Sc×List Tk),run i (a++b) s=run (i+a.length) b (run i a s):=by
 induction a with
 |nil=>intro i s;simp[run]
 |cons c a ih=>
  intro i s
  simp only[List.cons_append,run,ih,List.length_cons]
  congr 1
  omega
theorem run_ert (l:List Int) (out:List Tk):∀i,run i l (.ert,out)=(.ert,out):=by
 induction l with
 |nil=>intro i;rfl
 |cons c l ih=>intro i;simp only[run,step];exact ih _
theorem run_erl (l:List Int) (out:List Tk):∀i,run i l (.erl,out)=(.erl,out):=by
 induction l with
 |nil=>intro i;rfl
 |cons c l ih=>intro i;simp only[run,step];exact ih _
def shS (d:Int):Sc→Sc
 | .wrd w p=> .wrd w (p+d)
 | .sho t p=> .sho t (p+d)
 | .qt k t p=> .qt k t (p+d)
 | .qq k t p=> .qq k t (p+d)
 | .hx k t h p=> .hx k t h (p+d)
 | .btw=> .btw
 | .cmt=> .cmt
 | .par=> .par
 | .ert=> .ert
 | .erl=> .erl
theorem eof_line (i:Int) (s:Sc) (out x:List Tk) (h:eof (s,out)=(x,0)):step i 10 s out=(.btw,x):=by
 cases s with
 |btw=>simp[eof] at h;subst h;simp[step]
 |cmt=>simp[eof] at h;subst h;simp[step]
 |wrd w p=>
  simp only[eof] at h
  simp only[step]
  rw[if_pos (by omega)]
  unfold wend
  split at h
  ·rename_i hw
   simp at h
   rw[if_pos hw,if_pos rfl,h]
  ·rename_i hw
   split at h
   ·simp at h
   ·rename_i hs
    simp[spec] at hs
    simp at h
    rw[if_neg hw,if_neg hs.2.1,if_neg hs.2.2.1,if_neg hs.2.2.2.1,if_neg hs.2.2.2.2,h]
 |qq k t p=>
  simp only[eof] at h
  simp only[step]
  rw[if_neg (by omega),if_pos (by omega)]
  unfold fin
  split at h
  ·simp at h
  ·rename_i hl
   simp at h
   rw[if_neg hl,h]
 |ert=>simp[eof] at h
 |erl=>simp[eof] at h
 |par=>simp[eof] at h
 |sho t p=>simp[eof] at h
 |qt k t p=>simp[eof] at h
 |hx k t h' p=>simp[eof] at h
def hxd (n:Int):Int:=dg n
def esc (c:Int):List Int:=if c=34∨c < 32∨126 < c then [34,40,hxd (c / 16),hxd (c%16),41] else [c]
def tokT (k:Int) (t:List Int):List Int:=if k=1 then t else (if k=3 then [46] else [])++([34,32]++(t.flatMap esc++[34]))
def good (k:Int) (t:List Int):Bool:=decide ((k=2∨k=3)∧t.length≤255∨k=1∧t≠[]∧t.map sm=t∧(∀c∈t,32 < c))&& !(decide (k=1)&&spec t)
def pend (k:Int) (t:List Int) (p:Int):Sc:=if k=1 then .wrd t p else .qq k t p
theorem hex_back (c:Int) (h0:0≤c) (h1:c < 256):hexG none [hxd (c / 16),hxd (c%16)]=some [c]:=by
 have hd:∀n:Int,0≤n→n < 16→¬dg n≤32∧isD (dg n) 16=true∧vl (dg n) 16=n:=by
  intro n n0 n1
  obtain ⟨i1,i2,i3,i4,i5⟩:=dg_isD 16 n (by omega) (by omega) n0 n1
  refine ⟨?_,i1,i2⟩
  unfold dg
  omega
 obtain ⟨a1,a2,a3⟩:=hd (c / 16) (by omega) (by omega)
 obtain ⟨b1,b2,b3⟩:=hd (c%16) (by omega) (by omega)
 unfold hxd
 simp only[hexG]
 rw[if_neg a1,if_neg (by rw[a2];decide),a3,if_neg b1,if_neg (by rw[b2];decide),b3]
 simp
 omega
theorem run_esc (i k p:Int) (t:List Int) (out:List Tk) (c:Int) (h0:0≤c) (h1:c < 256):run i (esc c) (.qt k t p,out)=(.qt k (t++[c]) p,out):=by
 unfold esc
 split
 ·have e:=hex_back c h0 h1
  have n1:¬hxd (c / 16)=41:=by unfold hxd dg;omega
  have n2:¬hxd (c%16)=41:=by unfold hxd dg;omega
  simp[run,step,n1,n2,e]
 ·rename_i h
  simp only[run,step]
  rw[if_neg (by omega)]
theorem run_escs (k p:Int) (out:List Tk) (t:List Int) (hb:∀c∈t,0≤c∧c < 256):∀(i:Int) (u:List Int),run i (t.flatMap esc) (.qt k u p,out)=(.qt k (u++t) p,out):=by
 induction t with
 |nil=>intro i u;simp[run]
 |cons c t ih=>
  intro i u
  rw[List.flatMap_cons,run_app,run_esc i k p u out c (hb c (by simp)).1 (hb c (by simp)).2,ih (fun x hx=>hb x (by simp[hx]))]
  simp
theorem run_word (t:List Int) (h:∀c∈t,32 < c) (p:Int) (out:List Tk):∀(i:Int) (w:List Int),run i t (.wrd w p,out)=(.wrd (w++t) p,out):=by
 induction t with
 |nil=>intro i w;simp[run]
 |cons c t ih=>
  intro i w
  have hc:=h c (by simp)
  simp only[run,step]
  rw[if_neg (by omega),ih (fun x hx=>h x (by simp[hx]))]
  simp
theorem run_tok (i:Int) (k:Int) (t:List Int) (out:List Tk) (hb:∀c∈t,0≤c∧c < 256) (hg:good k t=true):run i (tokT k t) (.btw,out)=(pend k t i,out):=by
 simp[good] at hg
 obtain ⟨hg,hs⟩:=hg
 unfold tokT pend
 rcases hg with ⟨hk,hl⟩|⟨rfl,hne,hsm,hbl⟩
 ·rcases hk with rfl|rfl
  ·rw[if_neg (by omega),if_neg (by omega),if_neg (by omega),List.nil_append,run_app,run_app]
   have e:run i [34,32] (.btw,out)=(.qt 2 [] i,out):=by simp[run,step,wend]
   rw[e,run_escs 2 i out t hb]
   simp[run,step]
  ·rw[if_neg (by omega),if_pos rfl,if_neg (by omega),run_app,run_app,run_app]
   have e:run i [46] (.btw,out)=(.wrd [46] i,out):=by simp[run,step]
   have e2:∀j,run j [34,32] (.wrd [46] i,out)=(.qt 3 [] i,out):=by intro j;simp[run,step,wend]
   rw[e,e2,run_escs 3 i out t hb]
   simp[run,step]
 ·rw[if_pos rfl,if_pos rfl]
  cases t with
  |nil=>exact absurd rfl hne
  |cons c t=>
   have hc:=hbl c (by simp)
   simp only[run,step]
   rw[if_neg (by omega),run_word t (fun x hx=>hbl x (by simp[hx]))]
   simp
theorem pend_blank (i:Int) (k:Int) (t:List Int) (p:Int) (out:List Tk) (hg:good k t=true):step i 32 (pend k t p) out=(.btw,out++[(k,t,p)]):=by
 simp[good] at hg
 obtain ⟨hg,hs⟩:=hg
 unfold pend
 rcases hg with ⟨hk,hl⟩|⟨rfl,hne,hsm,hbl⟩
 ·rw[if_neg (by omega)]
  simp only[step]
  rw[if_neg (by omega),if_pos (by omega)]
  unfold fin
  rw[if_neg (by omega)]
 ·rw[if_pos rfl]
  have hs2:spec t=false:=by simpa using hs
  simp[spec] at hs2
  simp only[step]
  rw[if_pos (by omega)]
  unfold wend
  rw[if_neg hs2.1,if_neg hs2.2.1,if_neg hs2.2.2.1,if_neg hs2.2.2.2.1,if_neg hs2.2.2.2.2,hsm]
theorem pend_eof (k:Int) (t:List Int) (p:Int) (out:List Tk) (hg:good k t=true):eof (pend k t p,out)=(out++[(k,t,p)],0):=by
 simp[good] at hg
 obtain ⟨hg,hs⟩:=hg
 unfold pend
 rcases hg with ⟨hk,hl⟩|⟨rfl,hne,hsm,hbl⟩
 ·rw[if_neg (by omega)]
  simp only[eof]
  rw[if_neg (by omega)]
 ·rw[if_pos rfl]
  have hs2:spec t=false:=by simpa using hs
  have hs3:=hs2
  simp[spec] at hs3
  simp only[eof]
  rw[if_neg hs3.1,if_neg (by rw[hs2];decide),hsm]
def tkOk (x:Tk):Prop:=good x.1 x.2.1=true∧bytesL x.2.1
def scOk:Sc→Prop
 | .wrd w _=>w≠[]∧∀c∈w,32 < c∧c < 256
 | .sho t _=>bytesL t
 | .qt k t _=>(k=2∨k=3)∧bytesL t
 | .qq k t _=>(k=2∨k=3)∧bytesL t
 | .hx k t h _=>(k=2∨k=3)∧bytesL t∧bytesL h
 | .btw=>True
 | .cmt=>True
 | .par=>True
 | .ert=>True
 | .erl=>True
theorem snoc_ok {P:Int→Prop} {t:List Int} {c:Int} (h:∀x∈t,P x) (hc:P c):∀x∈t++[c],P x:=by
 intro x hx
 rw[List.mem_append] at hx
 rcases hx with hx|hx
 ·exact h x hx
 ·simp at hx;subst hx;exact hc
theorem bytes_join {a b:List Int} (h:bytesL a) (g:bytesL b):bytesL (a++b):=fun x hx=>(List.mem_append.1 hx).elim (h x) (g x)
theorem tks_ok {out:List Tk} {x:Tk} (h:∀y∈out,tkOk y) (hx:tkOk x):∀y∈out++[x],tkOk y:=by
 intro y hy
 rw[List.mem_append] at hy
 rcases hy with hy|hy
 ·exact h y hy
 ·simp at hy;subst hy;exact hx
theorem vl_16 (c:Int):0≤vl c 16∧vl c 16 < 16∨¬(0≤c∧c < 256):=by
 by_cases hc:0≤c∧c < 256
 ·left
  unfold vl
  split
  ·rename_i h
   have:=dv_bd c hc.1 hc.2
   unfold isD at h
   simp at h
   omega
  ·omega
 ·exact Or.inr hc
theorem hexG_bytes:∀(h:List Int) (o:Option Int) (b:List Int),bytesL h→(∀n,o=some n→0≤n∧n < 16)→hexG o h=some b→bytesL b
 |[],none,b,_,_,e=>by
  simp[hexG] at e
  subst e
  intro x hx
  simp at hx
 |[],some n,b,_,_,e=>by simp[hexG] at e
 |c::r,o,b,hb,ho,e=>by
  have hr:bytesL r:=fun x hx=>hb x (by simp[hx])
  have hc:=hb c (by simp)
  have hv:0≤vl c 16∧vl c 16 < 16:=by
   rcases vl_16 c with h|h
   ·exact h
   ·exact absurd hc h
  cases o with
  |none=>
   simp only[hexG] at e
   split at e
   ·exact hexG_bytes r none b hr ho e
   ·split at e
    ·cases e
    ·exact hexG_bytes r _ b hr (fun n hn=>by cases hn;exact hv) e
  |some n=>
   simp only[hexG] at e
   split at e
   ·exact hexG_bytes r _ b hr ho e
   ·split at e
    ·cases e
    ·have hn:=ho n rfl
     simp only[Option.map_eq_some_iff] at e
     obtain ⟨b',e1,rfl⟩:=e
     have i:=hexG_bytes r none b' hr (fun m hm=>by cases hm) e1
     intro x hx
     rw[List.mem_cons] at hx
     rcases hx with rfl|hx
     ·omega
     ·exact i x hx
theorem sm_sm (c:Int):sm (sm c)=sm c:=by unfold sm;omega
theorem sm_hi (c:Int) (h:32 < c):32 < sm c:=by unfold sm;omega
theorem sm_spec (w:List Int):spec (w.map sm)=spec w:=by
 have h:∀c k:Int,(k=92∨k=40∨k=46∨k=34)→(sm c=k↔c=k):=by intro c k hk;unfold sm;omega
 unfold spec
 congr 1
 have l1:∀k:Int,(k=92∨k=40∨k=46∨k=34)→(w.map sm=[k]↔w=[k]):=by
  intro k hk
  match w with
  |[]=>simp
  |[a]=>simp[h a k hk]
  |_::_::_=>simp
 have l2:∀k j:Int,(k=92∨k=40∨k=46∨k=34)→(j=92∨j=40∨j=46∨j=34)→(w.map sm=[k,j]↔w=[k,j]):=by
  intro k j hk hj
  match w with
  |[]=>simp
  |[a]=>simp
  |[a,b]=>simp[h a k hk,h b j hj]
  |_::_::_::_=>simp
 rw[l1 92 (by omega),l1 40 (by omega),l2 46 40 (by omega) (by omega),l1 34 (by omega),l2 46 34 (by omega) (by omega)]
theorem word_ok (w:List Int) (p:Int) (h1:w≠[]) (h2:∀c∈w,32 < c∧c < 256) (h3:spec w=false):tkOk (1,w.map sm,p):=by
 refine ⟨?_, ?_⟩
 ·simp only[good]
  rw[sm_spec,h3]
  simp[h1,sm_sm]
  intro c hc
  exact sm_hi c (h2 c hc).1
 ·intro x hx
  simp only[List.mem_map] at hx
  obtain ⟨c,hc,rfl⟩:=hx
  have:=h2 c hc
  exact sm_bd c (by omega) (by omega)
theorem text_ok (k:Int) (t:List Int) (p:Int) (hk:k=2∨k=3) (hb:bytesL t) (hl:¬255 < t.length):tkOk (k,t,p):=by
 refine ⟨?_,hb⟩
 have:¬k=1:=by omega
 simp[good,this,hk]
 omega
theorem step_ok (i c:Int) (h0:0≤c) (h1:c < 256) (s:Sc) (out:List Tk) (hs:scOk s) (ho:∀x∈out,tkOk x):scOk (step i c s out).1∧∀x∈(step i c s out).2,tkOk x:=by
 cases s with
 |btw=>
  simp only[step]
  split
  ·exact ⟨trivial,ho⟩
  ·exact ⟨⟨by simp,by simp;omega⟩,ho⟩
 |wrd w p=>
  simp only[step]
  split
  ·unfold wend
   split
   ·refine ⟨?_,ho⟩
    show scOk (if c=10 then Sc.btw else Sc.cmt)
    split <;> trivial
   ·split
    ·exact ⟨trivial,ho⟩
    ·split
     ·exact ⟨fun x hx=>by simp at hx,ho⟩
     ·split
      ·exact ⟨⟨Or.inl rfl,fun x hx=>by simp at hx⟩,ho⟩
      ·split
       ·exact ⟨⟨Or.inr rfl,fun x hx=>by simp at hx⟩,ho⟩
       ·rename_i n1 n2 n3 n4 n5
        exact ⟨trivial,tks_ok ho (word_ok w p hs.1 hs.2 (by simp[spec,n1,n2,n3,n4,n5]))⟩
  ·exact ⟨⟨by simp,snoc_ok hs.2 ⟨by omega,h1⟩⟩,ho⟩
 |cmt=>simp only[step];refine ⟨?_,ho⟩;split <;> trivial
 |par=>simp only[step];refine ⟨?_,ho⟩;split <;> trivial
 |sho t p=>
  simp only[step]
  split
  ·unfold fin
   split
   ·exact ⟨trivial,ho⟩
   ·rename_i hl
    exact ⟨trivial,tks_ok ho (text_ok 3 t p (Or.inr rfl) hs hl)⟩
  ·exact ⟨snoc_ok hs ⟨h0,h1⟩,ho⟩
 |qt k t p=>
  simp only[step]
  split
  ·exact ⟨hs,ho⟩
  ·exact ⟨⟨hs.1,snoc_ok hs.2 ⟨h0,h1⟩⟩,ho⟩
 |qq k t p=>
  simp only[step]
  split
  ·exact ⟨⟨hs.1,hs.2,fun x hx=>by simp at hx⟩,ho⟩
  ·split
   ·unfold fin
    split
    ·exact ⟨trivial,ho⟩
    ·rename_i hl
     exact ⟨trivial,tks_ok ho (text_ok k t p hs.1 hs.2 hl)⟩
   ·exact ⟨trivial,ho⟩
 |hx k t h p=>
  simp only[step]
  split
  ·cases hq:hexG none h with
   |none=>exact ⟨trivial,ho⟩
   |some b=>exact ⟨⟨hs.1,bytes_join hs.2.1 (hexG_bytes h none b hs.2.2 (fun n hn=>by cases hn) hq)⟩,ho⟩
  ·exact ⟨⟨hs.1,hs.2.1,snoc_ok hs.2.2 ⟨h0,h1⟩⟩,ho⟩
 |ert=>exact ⟨trivial,ho⟩
 |erl=>exact ⟨trivial,ho⟩
theorem run_ok (l:List Int) (hb:bytesL l):∀(i:Int) (s:Sc) (out:List Tk),scOk s→(∀x∈out,tkOk x)→scOk (run i l (s,out)).1∧∀x∈(run i l (s,out)).2,tkOk x:=by
 induction l with
 |nil=>intro i s out h1 h2;exact ⟨h1,h2⟩
 |cons c l ih=>
  intro i s out h1 h2
  have hc:=hb c (by simp)
  have h3:=step_ok i c hc.1 hc.2 s out h1 h2
  simp only[run]
  exact ih (fun x hx=>hb x (by simp[hx])) _ _ _ h3.1 h3.2
theorem eof_ok (s:Sc) (out x:List Tk) (hs:scOk s) (ho:∀x∈out,tkOk x) (h:(eof (s,out)).1=x):∀y∈x,tkOk y:=by
 subst h
 cases s with
 |btw=>exact ho
 |cmt=>exact ho
 |wrd w p=>
  simp only[eof]
  split
  ·exact ho
  ·split
   ·intro y hy;simp at hy
   ·rename_i h1 h2
    exact tks_ok ho (word_ok w p hs.1 hs.2 (by simpa using h2))
 |qq k t p=>
  simp only[eof]
  split
  ·intro y hy;simp at hy
  ·rename_i hl
   exact tks_ok ho (text_ok k t p hs.1 hs.2 hl)
 |par=>intro y hy;simp[eof] at hy
 |sho t p=>intro y hy;simp[eof] at hy
 |qt k t p=>intro y hy;simp[eof] at hy
 |hx k t h p=>intro y hy;simp[eof] at hy
 |ert=>intro y hy;simp[eof] at hy
 |erl=>intro y hy;simp[eof] at hy
theorem cut_ok (X:List Int) (hb:bytesL X):∀y∈(cutF X).1,tkOk y:=by
 unfold cutF
 split
 ·intro y hy;simp at hy
 ·have h:=run_ok X hb 0 .btw [] trivial (fun x hx=>by simp at hx)
  exact eof_ok _ _ _ h.1 h.2 rfl
def prmL:List (List Int×Int):=[([105],25),([106],26),([101,120,101,99,117,116,101],29),([43],30),([45],31),([42],32),([47],33),([109,111,100],34),([97,110,100],35),([111,114],36),([120,111,114],37),([105,110,118,101,114,116],38),([108,115,104,105,102,116],39),([114,115,104,105,102,116],40),([62,62,97],41),([47,109,111,100],42),([117,47,109,111,100],43),([110,101,103,97,116,101],44),([97,98,115],45),([109,105,110],46),([109,97,120],47),([62,114],48),([114,62],49),([114,64],50),([48,61],52),([48,60,62],53),([48,60],54),([48,60,61],55),([48,62],56),([48,62,61],57),([60],58),([62],59),([61],60),([60,62],61),([117,62],62),([117,60,61],63),([117,60],64),([117,62,61],65),([62,61],66),([60,61],67),([100,114,111,112],70),([100,117,112],71),([111,118,101,114],72),([115,119,97,112],73),([114,111,116],74),([45,114,111,116],75),([116,117,99,107],76),([110,105,112],77),([112,105,99,107],78),([114,111,108,108],79),([63,100,117,112],80),([100,101,112,116,104],81),([50,100,114,111,112],82),([50,100,117,112],83),([50,111,118,101,114],84),([50,115,119,97,112],85),([50,114,111,116],86),([50,47],87),([117,50,47],88),([50,42],89),([43,33],108),([64],109),([119,64],111),([99,64],113),([33],114),([119,33],116),([99,33],117),([109,111,118,101],120),([102,105,108,108],121),([99,111,109,112],122),([108,98,115,112,108,105,116],126),([98,108,106,111,105,110],127),([119,98,102,108,105,112],128),([117,112,99],129),([108,99,99],130),([117,110,108,111,111,112],137),([97,108,108,111,99,45,109,101,109],139),([101,109,105,116],143),([116,121,112,101],144),([99,114],146),([117,46],155),([46],157),([98,97,115,101,33],160),([45,49],164),([48],165),([49],166),([50],167),([51],168),([98,108],169),([104,101,114,101],173),([117,109,42],212),([117,109,47,109,111,100],213),([100,43],216),([100,45],217),([112,114,111,112,101,114,116,121],272),([101,110,99,111,100,101,45,105,110,116],273),([101,110,99,111,100,101,43],274),([101,110,99,111,100,101,45,115,116,114,105,110,103],276),([110,101,119,45,100,101,118,105,99,101],287),([102,105,110,105,115,104,45,100,101,118,105,99,101],295),([115,109,47,114,101,109],469),([109,121,45,115,101,108,102],515),([109,121,45,112,97,114,101,110,116],522),([36,99,97,108,108,45,109,101,116,104,111,100],526),([99,97,116,99,104],535),([116,104,114,111,119],536),([103,101,116,45,109,121,45,112,114,111,112,101,114,116,121],538),([100,101,99,111,100,101,45,105,110,116],539),([100,101,99,111,100,101,45,115,116,114,105,110,103],540),([100,101,108,101,116,101,45,112,114,111,112,101,114,116,121],542),([102,109,47,109,111,100],725)]
def okC (c:Int):Bool:=decide (33≤c∧c≤126∧¬(65≤c∧c≤90))
def namF (s:List Int):Bool:=s.all okC&&decide (1≤s.length∧s.length≤31)
theorem prm_len:prmL.length=111:=by decide+kernel
def tabW:List (List Int×List Int):=[([105,102],[20]),([119,104,105,108,101],[20]),([117,110,116,105,108],[20]),([101,108,115,101],[19,178]),([114,101,112,101,97,116],[19,178]),([116,104,101,110],[178]),([98,101,103,105,110],[177]),([97,103,97,105,110],[19]),([100,111],[23]),([63,100,111],[24]),([108,111,111,112],[21]),([43,108,111,111,112],[22]),([108,101,97,118,101],[27]),([99,97,115,101],[196]),([111,102],[28]),([101,110,100,111,102],[198]),([101,110,100,99,97,115,101],[197])]
def byW:List (List Int×Int):=[([99,111,110,115,116,97,110,116],186),([118,97,108,117,101],184),([105,110,115,116,97,110,99,101],184),([118,97,114,105,97,98,108,101],185),([100,101,102,101,114],188),([98,117,102,102,101,114,58],189)]
def tabF (w:List Int):Option (List Int):=(tabW.find? (fun x=>decide (x.1=w))).map (·.2)
def byF (w:List Int):Option Int:=(byW.find? (fun x=>decide (x.1=w))).map (·.2)
structure Fw where
 og:List Int
 ds:List Int
 lp:List Int
 cs:List (Int×List Int)
 pr:List (Int×Int)
def lstW (l:List Int):Option (List Int×Int):=match l.getLast? with
 |none=>none
 |some x=>some (l.dropLast,x)
def flwF (f:Fw) (c n:Int) (back:Bool):Option Fw:=
 if c=177 then some {f with ds:=f.ds++[n]}
 else if (c=19∨c=20)∧back=true then (lstW f.ds).map fun x=>{f with ds:=x.1,pr:=f.pr++[(n,x.2)]}
 else if c=20 then some {f with og:=f.og++[n]}
 else if c=19 then (lstW f.og).map fun x=>{f with og:=x.1++[n,x.2]}
 else if c=178 then (lstW f.og).map fun x=>{f with og:=x.1,pr:=f.pr++[(x.2,n)]}
 else if c=23∨c=24 then some {f with lp:=f.lp++[n]}
 else if c=21∨c=22 then (lstW f.lp).map fun x=>{f with lp:=x.1,pr:=f.pr++[(n,x.2),(x.2,n)]}
 else if c=27 then if f.lp=[] then none else some f
 else if c=196 then some {f with cs:=f.cs++[(-1,[])]}
 else match f.cs.getLast? with
  |none=>none
  |some x=>
   if decide (x.1= -1)=decide (c=198) then none
   else if c=28 then some {f with cs:=f.cs.dropLast++[(n,x.2)]}
   else if c=198 then some {f with cs:=f.cs.dropLast++[(-1,x.2++[n])],pr:=f.pr++[(x.1,n)]}
   else some {f with cs:=f.cs.dropLast,pr:=f.pr++x.2.map (fun i=>(i,n))}
def opnF (f:Fw):Bool:= !(f.og.isEmpty&&f.ds.isEmpty&&f.lp.isEmpty&&f.cs.isEmpty)
structure Mk where
 out:List Tq
 nm:List (List Int×Int)
 nx:Int
 op:Bool
 na:List Int
 co:Int
 fl:Fw
def addT (m:Mk) (c n:Int) (t:List Int):Mk:={m with out:=m.out++[⟨c,n,t,0⟩]}
def fndN (nm:List (List Int×Int)) (s:List Int):Option Int:=match nm.reverse.find? (fun x=>decide (x.1=s)) with
 |some x=>some x.2
 |none=>(prmL.find? (fun x=>decide (x.1=s))).map (·.2)
def nameF:List Tk→Option (List Int×List Tk)
 |[]=>none
 |x::r=>if x.1=1 then some (x.2.1,r) else none
def frshF (m:Mk) (r:List Tk):(Mk×List Int×Int×List Tk) ⊕ Int:=match nameF r with
 |none=> .inr 15
 |some (s,q)=>if namF s=false then .inr 15 else if 4095 < m.nx then .inr 22 else .inl ({m with nx:=m.nx+1},s,m.nx,q)
def layF (back:Bool):List Int→Mk→Option Mk
 |[],m=>some m
 |c::l,m=>match flwF m.fl c m.out.length back with
  |none=>none
  |some f=>layF back l (addT {m with fl:=f} c 0 [])
def specF (m:Mk) (w:List Int) (r:List Tk):Option ((Mk×List Tk) ⊕ Int):=
 if w=[58]∨w=[39]∨(byF w).isSome=true then
  if m.op=true then some (.inr 13)
  else if w=[39] then match nameF r with
   |none=>some (.inr 15)
   |some (s,q)=>match fndN m.nm s with
    |none=>some (.inr 14)
    |some c=>some (.inl (addT m 17 c [],q))
  else if w=[58] then match frshF m r with
   | .inr e=>some (.inr e)
   | .inl (m',s,c,q)=>some (.inl ({addT (addT m' 182 c s) 183 0 [] with op:=true,na:=s,co:=c},q))
  else
   let x:(Mk×List Tk) ⊕ Int:=if w=[105,110,115,116,97,110,99,101] then match nameF r with
     |none=> .inr 15
     |some (s,q)=>if s=[118,97,108,117,101] then .inl (addT m 192 0 [],q) else .inr 15
    else .inl (m,r)
   match x with
   | .inr e=>some (.inr e)
   | .inl (m1,r1)=>match frshF m1 r1 with
    | .inr e=>some (.inr e)
    | .inl (m',s,c,q)=>some (.inl ({addT (addT m' 182 c s) ((byF w).getD 0) 0 [] with nm:=m'.nm++[(s,c)]},q))
 else if w=[59]∨w=[101,120,105,116]∨w=[91,39,93]∨(tabF w).isSome=true then
  if m.op=false then some (.inr 13)
  else if w=[59] then if opnF m.fl=true then some (.inr 13) else some (.inl ({addT m 194 0 [] with op:=false,nm:=m.nm++[(m.na,m.co)]},r))
  else if w=[101,120,105,116] then some (.inl (addT m 51 0 [],r))
  else if w=[91,39,93] then match nameF r with
   |none=>some (.inr 15)
   |some (s,q)=>match fndN m.nm s with
    |none=>some (.inr 14)
    |some c=>some (.inl (addT m 17 c [],q))
  else match layF (decide (w=[97,103,97,105,110]∨w=[117,110,116,105,108]∨w=[114,101,112,101,97,116])) ((tabF w).getD []) m with
   |none=>some (.inr 13)
   |some m'=>some (.inl (m',r))
 else if w=[116,111] then match nameF r with
  |none=>some (.inr 15)
  |some (s,q)=>match fndN m.nm s with
   |none=>some (.inr 14)
   |some c=>some (.inl (addT m 195 c [],q))
 else none
def tok1F (L:List Int→Int×Bool) (m:Mk) (x:Tk) (r:List Tk):(Mk×List Tk) ⊕ Int:=
 if ¬x.1=1 then .inl ((if x.1=3 then addT (addT m 18 0 x.2.1) 144 0 [] else addT m 18 0 x.2.1),r)
 else match specF m x.2.1 r with
  |some y=>y
  |none=>match fndN m.nm x.2.1 with
   |some c=> .inl (addT m c 0 [],r)
   |none=>if (L x.2.1).2=true then .inl (addT m 16 (L x.2.1).1 [],r) else .inr 14
def makG (L:List Int→Int×Bool):Nat→Mk→List Tk→Mk ⊕ Int
 |_,m,[]=> .inl m
 |0,m,_::_=> .inl m
 |n+1,m,x::r=>match tok1F L m x r with
  | .inr e=> .inr e
  | .inl (m',q)=>makG L n m' q
def endsF:Int→List Tq→List Int
 |_,[]=>[]
 |at_,t::l=>(at_+(byQ t true).length)::endsF (at_+(byQ t true).length) l
def offL (ends:List Int):List (Int×Int)→List Tq→List Tq
 |[],l=>l
 |p::r,l=>offL ends r (l.set p.1.toNat {(l.getD p.1.toNat ⟨0,0,[],0⟩) with o:=ends.getD p.2.toNat 0 - (ends.getD p.1.toNat 0 - 2)})
def mk0:Mk:=⟨[],[],2048,false,[],0,⟨[],[],[],[],[]⟩⟩
def toksG (L:List Int→Int×Bool) (t:List Tk):List Tq×Int:=match makG L t.length mk0 t with
 | .inr e=>([],e)
 | .inl m=>if m.op=true then ([],13) else (offL (endsF 0 (addT m 0 0 []).out) m.fl.pr (addT m 0 0 []).out,0)
def toksF (L:List Int→Int×Bool) (X:List Tk×Int):List Tq×Int:=if X.2=0 then toksG L X.1 else ([],X.2)
def cdA (out:List Tq) (i:Int):Int:=(out.getD i.toNat ⟨0,0,[],0⟩).c
def inR (out:List Tq) (i:Int):Prop:=0≤i∧i < out.length
structure FlG (out:List Tq) (f:Fw):Prop where
 og:∀i∈f.og,inR out i∧(cdA out i=19∨cdA out i=20)
 ds:∀i∈f.ds,inR out i
 lp:∀i∈f.lp,inR out i∧(cdA out i=23∨cdA out i=24)
 cs:∀x∈f.cs,(x.1= -1∨inR out x.1∧cdA out x.1=28)∧∀i∈x.2,inR out i∧cdA out i=198
 pr:∀p∈f.pr,inR out p.1∧bhF (cdA out p.1)=4∧inR out p.2
 al:∀i:Int,inR out i→bhF (cdA out i)=4→(i∈f.og∨i∈f.lp∨(∃x∈f.cs,x.1=i∨i∈x.2))∨∃p∈f.pr,p.1=i
theorem cdA_old {out:List Tq} {t:Tq} {i:Int} (h:inR out i):cdA (out++[t]) i=cdA out i:=by
 unfold cdA inR at*
 rw[List.getD_eq_getElem?_getD,List.getD_eq_getElem?_getD,List.getElem?_append_left (by omega)]
theorem cdA_new (out:List Tq) (t:Tq):cdA (out++[t]) out.length=t.c:=by
 unfold cdA
 rw[List.getD_eq_getElem?_getD,Int.toNat_natCast,List.getElem?_append_right (Nat.le_refl _)]
 simp
theorem inR_old {out:List Tq} {t:Tq} {i:Int} (h:inR out i):inR (out++[t]) i:=by
 unfold inR at*
 simp
 omega
theorem inR_new (out:List Tq) (t:Tq):inR (out++[t]) out.length:=by
 unfold inR
 simp;omega
theorem inR_cases {out:List Tq} {t:Tq} {i:Int} (h:inR (out++[t]) i):inR out i∨i=out.length:=by
 unfold inR at*
 simp at h
 omega
theorem FlG.add {out:List Tq} {f:Fw} (h:FlG out f) {t:Tq} (ht:¬bhF t.c=4):FlG (out++[t]) f where
 og i hi:=⟨inR_old (h.og i hi).1,by rw[cdA_old (h.og i hi).1];exact (h.og i hi).2⟩
 ds i hi:=inR_old (h.ds i hi)
 lp i hi:=⟨inR_old (h.lp i hi).1,by rw[cdA_old (h.lp i hi).1];exact (h.lp i hi).2⟩
 cs x hx:=⟨(h.cs x hx).1.imp id (fun q=>⟨inR_old q.1,by rw[cdA_old q.1];exact q.2⟩),fun i hi=>⟨inR_old ((h.cs x hx).2 i hi).1,by rw[cdA_old ((h.cs x hx).2 i hi).1];exact ((h.cs x hx).2 i hi).2⟩⟩
 pr p hp:=⟨inR_old (h.pr p hp).1,by rw[cdA_old (h.pr p hp).1];exact (h.pr p hp).2.1,inR_old (h.pr p hp).2.2⟩
 al i hi hb:=by
  rcases inR_cases hi with q|q
  ·rw[cdA_old q] at hb
   exact h.al i q hb
  ·subst q
   rw[cdA_new] at hb
   exact absurd hb ht
theorem offL_len (ends:List Int):∀(pr:List (Int×Int)) (l:List Tq),(offL ends pr l).length=l.length
 |[],l=>rfl
 |p::r,l=>by rw[offL,offL_len ends r];simp
theorem lstW_eq {l l':List Int} {x:Int} (h:lstW l=some (l',x)):l=l'++[x]:=by
 unfold lstW at h
 split at h
 ·cases h
 ·rename_i y hy
  injection h with h
  injection h with h1 h2
  subst h1 h2
  obtain ⟨ys,hs⟩:=List.getLast?_eq_some_iff.1 hy
  subst hs
  simp
def opI (f:Fw) (i:Int):Prop:=i∈f.og∨i∈f.lp∨∃x∈f.cs,x.1=i∨i∈x.2
structure FlO (out:List Tq) (n:Int) (f:Fw):Prop where
 og:∀i∈f.og,inR out i∧(cdA out i=19∨cdA out i=20)
 ds:∀i∈f.ds,inR out i
 lp:∀i∈f.lp,inR out i∧(cdA out i=23∨cdA out i=24)
 cs:∀x∈f.cs,(x.1= -1∨inR out x.1∧cdA out x.1=28)∧∀i∈x.2,inR out i∧cdA out i=198
 pr:∀p∈f.pr,inR out p.1∧bhF (cdA out p.1)=4∧inR out p.2
 al:∀i:Int,inR out i→bhF (cdA out i)=4→opI f i∨(∃p∈f.pr,p.1=i)∨i=n
theorem FlG.old {out:List Tq} {f:Fw} (h:FlG out f) (t:Tq):FlO (out++[t]) out.length f where
 og i hi:=⟨inR_old (h.og i hi).1,by rw[cdA_old (h.og i hi).1];exact (h.og i hi).2⟩
 ds i hi:=inR_old (h.ds i hi)
 lp i hi:=⟨inR_old (h.lp i hi).1,by rw[cdA_old (h.lp i hi).1];exact (h.lp i hi).2⟩
 cs x hx:=⟨(h.cs x hx).1.imp id (fun q=>⟨inR_old q.1,by rw[cdA_old q.1];exact q.2⟩),fun i hi=>⟨inR_old ((h.cs x hx).2 i hi).1,by rw[cdA_old ((h.cs x hx).2 i hi).1];exact ((h.cs x hx).2 i hi).2⟩⟩
 pr p hp:=⟨inR_old (h.pr p hp).1,by rw[cdA_old (h.pr p hp).1];exact (h.pr p hp).2.1,inR_old (h.pr p hp).2.2⟩
 al i hi hb:=by
  rcases inR_cases hi with q|q
  ·rw[cdA_old q] at hb
   rcases h.al i q hb with a|a
   ·exact .inl a
   ·exact .inr (.inl a)
  ·exact .inr (.inr q)
def tabC:List Int:=[177,19,20,178,23,24,21,22,27,196,28,198,197]
theorem bh4':bhF 19=4∧bhF 20=4∧bhF 21=4∧bhF 22=4∧bhF 23=4∧bhF 24=4∧bhF 28=4∧bhF 198=4:=by decide+kernel
theorem bh0':¬bhF 177=4∧¬bhF 178=4∧¬bhF 27=4∧¬bhF 196=4∧¬bhF 197=4:=by decide+kernel
theorem FlG.flw {out:List Tq} {f f':Fw} {c:Int} {back:Bool} (h:FlG out f) (hc:c∈tabC) (e:flwF f c out.length back=some f'):FlG (out++[⟨c,0,[],0⟩]) f':=by
 have O:=h.old ⟨c,0,[],0⟩
 have nr:=inR_new out ⟨c,0,[],0⟩
 have nc:=cdA_new out ⟨c,0,[],0⟩
 have b4:=bh4'
 have b0:=bh0'
 generalize hn:(out.length:Int)=n at*
 generalize hO:out++[(⟨c,0,[],0⟩:Tq)]=o at*
 simp only at nc
 have fin:∀f2:Fw,(∀i∈f2.og,inR o i∧(cdA o i=19∨cdA o i=20))→(∀i∈f2.ds,inR o i)→(∀i∈f2.lp,inR o i∧(cdA o i=23∨cdA o i=24))→
   (∀x∈f2.cs,(x.1= -1∨inR o x.1∧cdA o x.1=28)∧∀i∈x.2,inR o i∧cdA o i=198)→(∀p∈f2.pr,inR o p.1∧bhF (cdA o p.1)=4∧inR o p.2)→
   (∀i,inR o i→bhF (cdA o i)=4→opI f i∨(∃p∈f.pr,p.1=i)∨i=n→opI f2 i∨∃p∈f2.pr,p.1=i)→FlG o f2:=
  fun f2 a1 a2 a3 a4 a5 a6=>⟨a1,a2,a3,a4,a5,fun i hi hb=>a6 i hi hb (O.al i hi hb)⟩
 obtain ⟨og,ds,lp,cs,pr⟩:=f
 obtain ⟨o1,o2,o3,o4,o5,o6⟩:=O
 simp only[opI] at*
 simp only[tabC,List.mem_cons,List.not_mem_nil,or_false] at hc
 rcases hc with rfl|rfl|rfl|rfl|rfl|rfl|rfl|rfl|rfl|rfl|rfl|rfl|rfl
 all_goals simp[flwF] at e
 ·subst e
  exact fin _ (by clear fin;first|exact o1|exact o2|exact o3|exact o4|exact o5|grind) (by clear fin;first|exact o1|exact o2|exact o3|exact o4|exact o5|grind) (by clear fin;first|exact o1|exact o2|exact o3|exact o4|exact o5|grind) (by clear fin;first|exact o1|exact o2|exact o3|exact o4|exact o5|grind) (by clear fin;first|exact o1|exact o2|exact o3|exact o4|exact o5|grind) (fun i hi hb hq=>by have h0:0≤i:=hi.1;clear fin o1 o2 o3 o4 o5 o6 h;simp only[List.mem_append,or_and_right,exists_or,List.mem_cons,List.not_mem_nil,or_false,exists_eq_left,false_and,exists_false,List.mem_map] at hq ⊢;grind)
 ·split at e
  ·simp at e
   obtain ⟨a,b,e1,e2⟩:=e
   have e1:=lstW_eq e1
   subst e1 e2
   exact fin _ (by clear fin;first|exact o1|exact o2|exact o3|exact o4|exact o5|grind) (by clear fin;first|exact o1|exact o2|exact o3|exact o4|exact o5|grind) (by clear fin;first|exact o1|exact o2|exact o3|exact o4|exact o5|grind) (by clear fin;first|exact o1|exact o2|exact o3|exact o4|exact o5|grind) (by clear fin;first|exact o1|exact o2|exact o3|exact o4|exact o5|grind) (fun i hi hb hq=>by have h0:0≤i:=hi.1;clear fin o1 o2 o3 o4 o5 o6 h;simp only[List.mem_append,or_and_right,exists_or,List.mem_cons,List.not_mem_nil,or_false,exists_eq_left,false_and,exists_false,List.mem_map] at hq ⊢;grind)
  ·simp at e
   obtain ⟨a,b,e1,e2⟩:=e
   have e1:=lstW_eq e1
   subst e1 e2
   exact fin _ (by clear fin;first|exact o1|exact o2|exact o3|exact o4|exact o5|grind) (by clear fin;first|exact o1|exact o2|exact o3|exact o4|exact o5|grind) (by clear fin;first|exact o1|exact o2|exact o3|exact o4|exact o5|grind) (by clear fin;first|exact o1|exact o2|exact o3|exact o4|exact o5|grind) (by clear fin;first|exact o1|exact o2|exact o3|exact o4|exact o5|grind) (fun i hi hb hq=>by have h0:0≤i:=hi.1;clear fin o1 o2 o3 o4 o5 o6 h;simp only[List.mem_append,or_and_right,exists_or,List.mem_cons,List.not_mem_nil,or_false,exists_eq_left,false_and,exists_false,List.mem_map] at hq ⊢;grind)
 ·split at e
  ·simp at e
   obtain ⟨a,b,e1,e2⟩:=e
   have e1:=lstW_eq e1
   subst e1 e2
   exact fin _ (by clear fin;first|exact o1|exact o2|exact o3|exact o4|exact o5|grind) (by clear fin;first|exact o1|exact o2|exact o3|exact o4|exact o5|grind) (by clear fin;first|exact o1|exact o2|exact o3|exact o4|exact o5|grind) (by clear fin;first|exact o1|exact o2|exact o3|exact o4|exact o5|grind) (by clear fin;first|exact o1|exact o2|exact o3|exact o4|exact o5|grind) (fun i hi hb hq=>by have h0:0≤i:=hi.1;clear fin o1 o2 o3 o4 o5 o6 h;simp only[List.mem_append,or_and_right,exists_or,List.mem_cons,List.not_mem_nil,or_false,exists_eq_left,false_and,exists_false,List.mem_map] at hq ⊢;grind)
  ·injection e with e
   subst e
   exact fin _ (by clear fin;first|exact o1|exact o2|exact o3|exact o4|exact o5|grind) (by clear fin;first|exact o1|exact o2|exact o3|exact o4|exact o5|grind) (by clear fin;first|exact o1|exact o2|exact o3|exact o4|exact o5|grind) (by clear fin;first|exact o1|exact o2|exact o3|exact o4|exact o5|grind) (by clear fin;first|exact o1|exact o2|exact o3|exact o4|exact o5|grind) (fun i hi hb hq=>by have h0:0≤i:=hi.1;clear fin o1 o2 o3 o4 o5 o6 h;simp only[List.mem_append,or_and_right,exists_or,List.mem_cons,List.not_mem_nil,or_false,exists_eq_left,false_and,exists_false,List.mem_map] at hq ⊢;grind)
 ·obtain ⟨a,b,e1,e2⟩:=e
  have e1:=lstW_eq e1
  subst e1 e2
  exact fin _ (by clear fin;first|exact o1|exact o2|exact o3|exact o4|exact o5|grind) (by clear fin;first|exact o1|exact o2|exact o3|exact o4|exact o5|grind) (by clear fin;first|exact o1|exact o2|exact o3|exact o4|exact o5|grind) (by clear fin;first|exact o1|exact o2|exact o3|exact o4|exact o5|grind) (by clear fin;first|exact o1|exact o2|exact o3|exact o4|exact o5|grind) (fun i hi hb hq=>by have h0:0≤i:=hi.1;clear fin o1 o2 o3 o4 o5 o6 h;simp only[List.mem_append,or_and_right,exists_or,List.mem_cons,List.not_mem_nil,or_false,exists_eq_left,false_and,exists_false,List.mem_map] at hq ⊢;grind)
 ·subst e
  exact fin _ (by clear fin;first|exact o1|exact o2|exact o3|exact o4|exact o5|grind) (by clear fin;first|exact o1|exact o2|exact o3|exact o4|exact o5|grind) (by clear fin;first|exact o1|exact o2|exact o3|exact o4|exact o5|grind) (by clear fin;first|exact o1|exact o2|exact o3|exact o4|exact o5|grind) (by clear fin;first|exact o1|exact o2|exact o3|exact o4|exact o5|grind) (fun i hi hb hq=>by have h0:0≤i:=hi.1;clear fin o1 o2 o3 o4 o5 o6 h;simp only[List.mem_append,or_and_right,exists_or,List.mem_cons,List.not_mem_nil,or_false,exists_eq_left,false_and,exists_false,List.mem_map] at hq ⊢;grind)
 ·subst e
  exact fin _ (by clear fin;first|exact o1|exact o2|exact o3|exact o4|exact o5|grind) (by clear fin;first|exact o1|exact o2|exact o3|exact o4|exact o5|grind) (by clear fin;first|exact o1|exact o2|exact o3|exact o4|exact o5|grind) (by clear fin;first|exact o1|exact o2|exact o3|exact o4|exact o5|grind) (by clear fin;first|exact o1|exact o2|exact o3|exact o4|exact o5|grind) (fun i hi hb hq=>by have h0:0≤i:=hi.1;clear fin o1 o2 o3 o4 o5 o6 h;simp only[List.mem_append,or_and_right,exists_or,List.mem_cons,List.not_mem_nil,or_false,exists_eq_left,false_and,exists_false,List.mem_map] at hq ⊢;grind)
 ·obtain ⟨a,b,e1,e2⟩:=e
  have e1:=lstW_eq e1
  subst e1 e2
  exact fin _ (by clear fin;first|exact o1|exact o2|exact o3|exact o4|exact o5|grind) (by clear fin;first|exact o1|exact o2|exact o3|exact o4|exact o5|grind) (by clear fin;first|exact o1|exact o2|exact o3|exact o4|exact o5|grind) (by clear fin;first|exact o1|exact o2|exact o3|exact o4|exact o5|grind) (by clear fin;first|exact o1|exact o2|exact o3|exact o4|exact o5|grind) (fun i hi hb hq=>by have h0:0≤i:=hi.1;clear fin o1 o2 o3 o4 o5 o6 h;simp only[List.mem_append,or_and_right,exists_or,List.mem_cons,List.not_mem_nil,or_false,exists_eq_left,false_and,exists_false,List.mem_map] at hq ⊢;grind)
 ·obtain ⟨a,b,e1,e2⟩:=e
  have e1:=lstW_eq e1
  subst e1 e2
  exact fin _ (by clear fin;first|exact o1|exact o2|exact o3|exact o4|exact o5|grind) (by clear fin;first|exact o1|exact o2|exact o3|exact o4|exact o5|grind) (by clear fin;first|exact o1|exact o2|exact o3|exact o4|exact o5|grind) (by clear fin;first|exact o1|exact o2|exact o3|exact o4|exact o5|grind) (by clear fin;first|exact o1|exact o2|exact o3|exact o4|exact o5|grind) (fun i hi hb hq=>by have h0:0≤i:=hi.1;clear fin o1 o2 o3 o4 o5 o6 h;simp only[List.mem_append,or_and_right,exists_or,List.mem_cons,List.not_mem_nil,or_false,exists_eq_left,false_and,exists_false,List.mem_map] at hq ⊢;grind)
 ·obtain ⟨-,e⟩:=e
  subst e
  exact fin _ (by clear fin;first|exact o1|exact o2|exact o3|exact o4|exact o5|grind) (by clear fin;first|exact o1|exact o2|exact o3|exact o4|exact o5|grind) (by clear fin;first|exact o1|exact o2|exact o3|exact o4|exact o5|grind) (by clear fin;first|exact o1|exact o2|exact o3|exact o4|exact o5|grind) (by clear fin;first|exact o1|exact o2|exact o3|exact o4|exact o5|grind) (fun i hi hb hq=>by have h0:0≤i:=hi.1;clear fin o1 o2 o3 o4 o5 o6 h;simp only[List.mem_append,or_and_right,exists_or,List.mem_cons,List.not_mem_nil,or_false,exists_eq_left,false_and,exists_false,List.mem_map] at hq ⊢;grind)
 ·subst e
  exact fin _ (by clear fin;first|exact o1|exact o2|exact o3|exact o4|exact o5|grind) (by clear fin;first|exact o1|exact o2|exact o3|exact o4|exact o5|grind) (by clear fin;first|exact o1|exact o2|exact o3|exact o4|exact o5|grind) (fun y hy=>(List.mem_append.1 hy).elim (o4 y) (fun z=>by simp only[List.mem_cons,List.not_mem_nil,or_false] at z;subst z;exact ⟨.inl rfl,fun i hi=>absurd hi (by simp)⟩)) (by clear fin;first|exact o1|exact o2|exact o3|exact o4|exact o5|grind) (fun i hi hb hq=>by have h0:0≤i:=hi.1;clear fin o1 o2 o3 o4 o5 o6 h;simp only[List.mem_append,or_and_right,exists_or,List.mem_cons,List.not_mem_nil,or_false,exists_eq_left,false_and,exists_false,List.mem_map] at hq ⊢;grind)
 all_goals
  split at e
  ·cases e
  rename_i x hx
  obtain ⟨ys,hs⟩:=List.getLast?_eq_some_iff.1 hx
  subst hs
  clear hx
  simp at e
  obtain ⟨e1,e⟩:=e
  subst e
  have x4:=o4 x (by simp)
  have y4:∀y∈ys,_:=fun y hy=>o4 y (List.mem_append.2 (.inl hy))
  obtain ⟨x1,x2⟩:=x
  exact fin _ (by clear fin;first|exact o1|exact o2|exact o3|exact o4|exact o5|grind) (by clear fin;first|exact o1|exact o2|exact o3|exact o4|exact o5|grind) (by clear fin;first|exact o1|exact o2|exact o3|exact o4|exact o5|grind) (by clear fin;first|exact y4|(intro y hy;rcases List.mem_append.1 hy with q|q;exact y4 y q;simp only[List.mem_cons,List.not_mem_nil,or_false] at q;subst q;first|exact ⟨.inr ⟨nr,nc⟩,x4.2⟩|exact ⟨.inl rfl,fun i hi=>(List.mem_append.1 hi).elim (x4.2 i) (fun z=>by simp only[List.mem_cons,List.not_mem_nil,or_false] at z;subst z;exact ⟨nr,nc⟩)⟩)) (by clear fin;first|exact o5|(intro p hp;clear o1 o2 o3 o4 o6 h y4;simp only[List.mem_append,List.mem_map,List.mem_cons,List.not_mem_nil,or_false] at hp;rcases hp with hp|hp;exact o5 p hp;(first|(obtain ⟨i,hi,rfl⟩:=hp;have:=x4.2 i hi;exact ⟨this.1,by rw[this.2];exact b4.2.2.2.2.2.2.2,nr⟩)|(subst hp;rcases x4.1 with q|q;exact absurd q e1;exact ⟨q.1,by rw[q.2];exact b4.2.2.2.2.2.2.1,nr⟩)))) (fun i hi hb hq=>by have h0:0≤i:=hi.1;clear fin o1 o2 o3 o4 o5 o6 h;simp only[List.mem_append,or_and_right,exists_or,List.mem_cons,List.not_mem_nil,or_false,exists_eq_left,false_and,exists_false,List.mem_map] at hq ⊢;grind)
def efC (t:Tq):Int:=if t.c=17∨t.c=195 then t.n else t.c
def knS (k:Int) (t:Tq):Int:=if efC t=182 then k+1 else k
def knF (l:List Tq) (k:Int):Int:=l.foldl knS k
def ord1 (k:Int) (t:Tq):Prop:=(efC t=182→t.n=k)∧(2048≤efC t→efC t < knS k t)
def ordF:List Tq→Int→Prop
 |[],_=>True
 |t::l,k=>ord1 k t∧ordF l (knS k t)
theorem knF_snoc (l:List Tq) (t:Tq) (k:Int):knF (l++[t]) k=knS (knF l k) t:=by
 unfold knF
 rw[List.foldl_append]
 rfl
theorem ordF_snoc:∀(l:List Tq) (t:Tq) (k:Int),ordF l k→ord1 (knF l k) t→ordF (l++[t]) k
 |[],t,k,h,h1=>⟨h1,trivial⟩
 |x::l,t,k,h,h1=>⟨h.1,ordF_snoc l t (knS k x) h.2 h1⟩
theorem prm_ok:∀x∈prmL,¬bhF x.2=4∧x.2 < 2048∧¬x.2=182∧¬x.2=17∧¬x.2=195:=by decide+kernel
structure MkG (m:Mk):Prop where
 fl:FlG m.out m.fl
 op:m.op=false→opnF m.fl=false
 ord:ordF m.out 2048
 kn:knF m.out 2048=m.nx
 nm:∀x∈m.nm,2048≤x.2∧x.2 < m.nx
 co:m.op=true→2048≤m.co∧m.co < m.nx
 tk:∀t∈m.out,t.c=17∨t.c=195→¬bhF t.n=4
 hx:2048≤m.nx
theorem mk0_ok:MkG mk0 where
 fl:=⟨by simp[mk0],by simp[mk0],by simp[mk0],by simp[mk0],by simp[mk0],fun i hi=>by unfold inR at hi;simp[mk0] at hi;omega⟩
 op _:=rfl
 ord:=trivial
 kn:=rfl
 nm:=by simp[mk0]
 co:=by simp[mk0]
 tk:=by simp[mk0]
 hx:=by simp[mk0]
theorem MkG.add {m:Mk} (h:MkG m) (c n:Int) (t:List Int) (hb:¬bhF c=4) (h2:c=17∨c=195→n < m.nx∧¬bhF n=4∧¬n=182) (h3:¬c=182) (h4:c < m.nx):MkG (addT m c n t) where
 fl:=h.fl.add hb
 op:=h.op
 ord:=ordF_snoc _ _ _ h.ord (by
  rw[h.kn]
  unfold ord1 knS efC
  simp only
  by_cases c1:c=17∨c=195
  ·rw[if_pos c1,if_neg (h2 c1).2.2]
   exact ⟨fun q=>absurd q (h2 c1).2.2,fun _=>(h2 c1).1⟩
  ·rw[if_neg c1,if_neg h3]
   exact ⟨fun q=>absurd q h3,fun _=>h4⟩)
 kn:=by
  show knF (m.out++_) 2048=m.nx
  rw[knF_snoc,h.kn]
  unfold knS efC
  simp only
  by_cases c1:c=17∨c=195
  ·rw[if_pos c1,if_neg (h2 c1).2.2]
  ·rw[if_neg c1,if_neg h3]
 nm:=h.nm
 co:=h.co
 tk x hx hc:=by
  rcases List.mem_append.1 hx with q|q
  ·exact h.tk x q hc
  ·simp only[List.mem_cons,List.not_mem_nil,or_false] at q
   subst q
   exact (h2 hc).2.1
 hx:=h.hx
theorem MkG.defn {m:Mk} (h:MkG m) (s:List Int):MkG (addT {m with nx:=m.nx+1} 182 m.nx s) where
 fl:=h.fl.add (show ¬bhF 182=4 by decide+kernel)
 op:=h.op
 ord:=ordF_snoc _ _ _ h.ord (by
  rw[h.kn]
  unfold ord1 knS efC
  simp)
 kn:=by
  show knF (m.out++_) 2048=m.nx+1
  rw[knF_snoc,h.kn]
  unfold knS efC
  simp
 nm x hx:=by have:=h.nm x hx;exact ⟨this.1,by show x.2 < m.nx+1;omega⟩
 co ho:=by have:=h.co ho;exact ⟨this.1,by show m.co < m.nx+1;omega⟩
 tk x hx hc:=by
  rcases List.mem_append.1 hx with q|q
  ·exact h.tk x q hc
  ·simp only[List.mem_cons,List.not_mem_nil,or_false] at q
   subst q
   simp at hc
 hx:=by have:=h.hx;show 2048≤m.nx+1;omega
theorem tabC_ok:∀c∈tabC,¬c=17∧¬c=195∧¬c=182∧c < 2048:=by decide+kernel
theorem MkG.lay (back:Bool):∀(l:List Int) {m m':Mk},(∀c∈l,c∈tabC)→MkG m→m.op=true→layF back l m=some m'→MkG m'
 |[],m,m',hl,h,ho,e=>by
  injection e with e
  subst e
  exact h
 |c::l,m,m',hl,h,ho,e=>by
  unfold layF at e
  split at e
  ·cases e
  ·rename_i f hf
   have hc:=hl c List.mem_cons_self
   obtain ⟨t1,t2,t3,t4⟩:=tabC_ok c hc
   have t5:¬(c=17∨c=195):=fun q=>q.elim t1 t2
   refine MkG.lay back l (fun c q=>hl c (List.mem_cons_of_mem _ q)) ?_ ?_ e
   ·exact {
     fl:=h.fl.flw hc hf
     op:=fun q=>by exact absurd (ho.symm.trans q) (by simp)
     ord:=ordF_snoc _ _ _ h.ord (by
      unfold ord1 knS efC
      simp only
      rw[if_neg t5,if_neg t3]
      exact ⟨fun q=>absurd q t3,fun q=>absurd q (by omega)⟩)
     kn:=by
      show knF (m.out++_) 2048=m.nx
      rw[knF_snoc,h.kn]
      unfold knS efC
      simp only
      rw[if_neg t5,if_neg t3]
     nm:=h.nm
     co:=h.co
     tk:=fun x hx hc=>by
      rcases List.mem_append.1 hx with q|q
      ·exact h.tk x q hc
      ·simp only[List.mem_cons,List.not_mem_nil,or_false] at q
       subst q
       exact absurd hc t5
     hx:=h.hx}
   ·exact ho
theorem bhF_big {c:Int} (h:2048≤c):¬bhF c=4:=by
 unfold bhF
 rw[if_neg (by omega),if_neg (by omega),if_neg (by omega),if_neg (by omega),if_neg (by omega),if_neg (by omega)]
 decide
theorem MkG.fnd {m:Mk} (h:MkG m) {s:List Int} {c:Int} (e:fndN m.nm s=some c):c < m.nx∧¬bhF c=4∧¬c=182∧¬c=17∧¬c=195:=by
 unfold fndN at e
 split at e
 ·rename_i x hx
  injection e with e
  subst e
  have:=h.nm x (List.mem_reverse.1 (List.mem_of_find?_eq_some hx))
  exact ⟨this.2,bhF_big this.1,by omega,by omega,by omega⟩
 ·have h0:=h.hx
  rcases hq:prmL.find? (fun x=>decide (x.1=s)) with _|x
  ·rw[hq] at e
   cases e
  ·rw[hq] at e
   injection e with e
   subst e
   obtain ⟨a1,a2,a3,a4,a5⟩:=prm_ok x (List.mem_of_find?_eq_some hq)
   exact ⟨by show x.2 < m.nx;omega,a1,a3,a4,a5⟩
theorem tabF_ok {w l:List Int} (e:tabF w=some l):∀c∈l,c∈tabC:=by
 have h:∀x∈tabW,∀c∈x.2,c∈tabC:=by decide+kernel
 unfold tabF at e
 rcases hq:tabW.find? (fun x=>decide (x.1=w)) with _|x
 ·rw[hq] at e
  cases e
 ·rw[hq] at e
  injection e with e
  subst e
  exact h x (List.mem_of_find?_eq_some hq)
theorem byF_ok {w:List Int} {c:Int} (e:byF w=some c):¬bhF c=4∧c < 2048∧¬c=182∧¬c=17∧¬c=195:=by
 have h:∀x∈byW,¬bhF x.2=4∧x.2 < 2048∧¬x.2=182∧¬x.2=17∧¬x.2=195:=by decide+kernel
 unfold byF at e
 rcases hq:byW.find? (fun x=>decide (x.1=w)) with _|x
 ·rw[hq] at e
  cases e
 ·rw[hq] at e
  injection e with e
  subst e
  exact h x (List.mem_of_find?_eq_some hq)
theorem MkG.frsh {m m':Mk} (h:MkG m) {r q:List Tk} {s:List Int} {c:Int} (e:frshF m r= .inl (m',s,c,q)):c=m.nx∧m'={m with nx:=m.nx+1}:=by
 unfold frshF at e
 split at e
 ·cases e
 ·split at e
  ·cases e
  ·split at e
   ·cases e
   ·injection e with e
    injection e with e1 e
    injection e with e2 e
    injection e with e3 e4
    exact ⟨e3.symm,e1.symm⟩
theorem MkG.spec {m m':Mk} (h:MkG m) {w:List Int} {r q:List Tk} (e:specF m w r=some (.inl (m',q))):MkG m':=by
 have h0:=h.hx
 have k17:∀{c:Int} {s:List Int},fndN m.nm s=some c→MkG (addT m 17 c []):=fun hf=>
  have g:=h.fnd hf
  h.add 17 _ [] (by decide+kernel) (fun _=>⟨g.1,g.2.1,g.2.2.1⟩) (by decide) (by omega)
 have k195:∀{c:Int} {s:List Int},fndN m.nm s=some c→MkG (addT m 195 c []):=fun hf=>
  have g:=h.fnd hf
  h.add 195 _ [] (by decide+kernel) (fun _=>⟨g.1,g.2.1,g.2.2.1⟩) (by decide) (by omega)
 have kb:∀{m1 m2:Mk} {r1 q1:List Tk} {s:List Int} {c:Int},MkG m1→frshF m1 r1= .inl (m2,s,c,q1)→(byF w).isSome=true→MkG {addT (addT m2 182 c s) ((byF w).getD 0) 0 [] with nm:=m2.nm++[(s,c)]}:=by
  intro m1 m2 r1 q1 s c g hf hw
  obtain ⟨rfl,rfl⟩:=g.frsh hf
  obtain ⟨b,hb⟩:=Option.isSome_iff_exists.1 hw
  obtain ⟨b1,b2,b3,b4,b5⟩:=byF_ok hb
  have g0:=g.hx
  have G:=(g.defn s).add ((byF w).getD 0) 0 [] (by rw[hb];exact b1) (by rw[hb];exact fun x=>absurd x (fun y=>y.elim b4 b5)) (by rw[hb];exact b3) (by rw[hb];show b < m1.nx+1;omega)
  exact ⟨G.fl,G.op,G.ord,G.kn,fun x hx=>by
   rcases List.mem_append.1 hx with z|z
   ·exact G.nm x z
   ·simp only[List.mem_cons,List.not_mem_nil,or_false] at z
    subst z
    exact ⟨g0,by show m1.nx < m1.nx+1;omega⟩,G.co,G.tk,G.hx⟩
 unfold specF at e
 split at e
 ·rename_i c1
  split at e
  ·cases e
  ·rename_i ho
   split at e
   ·split at e
    ·cases e
    ·split at e
     ·cases e
     ·rename_i hf
      injection e with e
      injection e with e
      injection e with e1 e2
      subst e1
      exact k17 hf
   ·split at e
    ·split at e
     ·cases e
     ·rename_i mm ss cc qq hf
      obtain ⟨rfl,rfl⟩:=h.frsh hf
      injection e with e
      injection e with e
      injection e with e1 e2
      subst e1
      have G:=(h.defn ss).add 183 0 [] (by decide+kernel) (fun q=>absurd q (by decide)) (by decide) (by show (183:Int) < m.nx+1;omega)
      exact ⟨G.fl,fun q=>absurd q (by simp),G.ord,G.kn,G.nm,fun _=>⟨h0,by show m.nx < m.nx+1;omega⟩,G.tk,G.hx⟩
    ·rename_i n1 n2
     have hw:(byF w).isSome=true:=c1.elim (fun x=>absurd x n2) (fun x=>x.elim (fun y=>absurd y n1) id)
     simp only at e
     split at e
     ·cases e
     ·rename_i m1 r1 hx
      have g1:MkG m1:=by
       split at hx
       ·split at hx
        ·cases hx
        ·split at hx
         ·injection hx with hx
          injection hx with x1 x2
          subst x1
          exact h.add 192 0 [] (by decide+kernel) (fun q=>absurd q (by decide)) (by decide) (by omega)
         ·cases hx
       ·injection hx with hx
        injection hx with x1 x2
        subst x1
        exact h
      split at e
      ·cases e
      ·rename_i hf
       injection e with e
       injection e with e
       injection e with e1 e2
       subst e1
       exact kb g1 hf hw
 ·split at e
  ·rename_i c2
   split at e
   ·cases e
   ·rename_i ho
    have ho:m.op=true:=by simpa using ho
    split at e
    ·split at e
     ·cases e
     ·rename_i hn
      injection e with e
      injection e with e
      injection e with e1 e2
      subst e1
      have G:=h.add 194 0 [] (by decide+kernel) (fun q=>absurd q (by decide)) (by decide) (by omega)
      exact ⟨G.fl,fun _=>by show opnF m.fl=false;simpa using hn,G.ord,G.kn,fun x hx=>by
       rcases List.mem_append.1 hx with z|z
       ·exact G.nm x z
       ·simp only[List.mem_cons,List.not_mem_nil,or_false] at z
        subst z
        exact h.co ho,fun q=>absurd q (by simp),G.tk,G.hx⟩
    ·split at e
     ·injection e with e
      injection e with e
      injection e with e1 e2
      subst e1
      exact h.add 51 0 [] (by decide+kernel) (fun q=>absurd q (by decide)) (by decide) (by omega)
     ·split at e
      ·split at e
       ·cases e
       ·split at e
        ·cases e
        ·rename_i hf
         injection e with e
         injection e with e
         injection e with e1 e2
         subst e1
         exact k17 hf
      ·rename_i n1 n2 n3
       have hw:(tabF w).isSome=true:=c2.elim (fun x=>absurd x n1) (fun x=>x.elim (fun y=>absurd y n2) (fun y=>y.elim (fun z=>absurd z n3) id))
       obtain ⟨l,hl⟩:=Option.isSome_iff_exists.1 hw
       rw[hl] at e
       split at e
       ·cases e
       ·rename_i hm
        injection e with e
        injection e with e
        injection e with e1 e2
        subst e1
        exact MkG.lay _ l (tabF_ok hl) h ho hm
  ·split at e
   ·split at e
    ·cases e
    ·split at e
     ·cases e
     ·rename_i hf
      injection e with e
      injection e with e
      injection e with e1 e2
      subst e1
      exact k195 hf
   ·cases e
theorem MkG.tok1 {L:List Int→Int×Bool} {m m':Mk} (h:MkG m) {x:Tk} {r q:List Tk} (e:tok1F L m x r= .inl (m',q)):MkG m':=by
 have h0:=h.hx
 have h18:MkG (addT m 18 0 x.2.1):=h.add 18 0 _ (by decide+kernel) (fun q=>absurd q (by decide)) (by decide) (by omega)
 unfold tok1F at e
 split at e
 ·injection e with e
  injection e with e1 e2
  subst e1
  split
  ·exact h18.add 144 0 [] (by decide+kernel) (fun q=>absurd q (by decide)) (by decide) (by show (144:Int) < m.nx;omega)
  ·exact h18
 ·split at e
  ·rename_i y hy
   subst e
   exact h.spec hy
  ·split at e
   ·rename_i hf
    injection e with e
    injection e with e1 e2
    subst e1
    obtain ⟨g1,g2,g3,g4,g5⟩:=h.fnd hf
    exact h.add _ 0 [] g2 (fun q=>absurd q (fun y=>y.elim g4 g5)) g3 g1
   ·split at e
    ·injection e with e
     injection e with e1 e2
     subst e1
     exact h.add 16 _ [] (by decide+kernel) (fun q=>absurd q (by decide)) (by decide) (by omega)
    ·cases e
end Go.Proofs.YtkkehbdahniiaaaGreatDoor
