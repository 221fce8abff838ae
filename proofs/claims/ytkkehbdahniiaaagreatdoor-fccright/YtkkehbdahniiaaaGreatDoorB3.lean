import Derived.Test.YtkkehbdahniiaaaGreatDoorB2
set_option linter.unusedVariables false
set_option linter.unusedSimpArgs false
set_option maxRecDepth 100000
namespace Go.Proofs.YtkkehbdahniiaaaGreatDoor
def cdA (out:List Tq) (i:Int):Int:=(out.getD i.toNat ⟨0,0,[],0⟩).c
def inR (out:List Tq) (i:Int):Prop:=0≤i∧i < out.length
structure FlG (out:List Tq) (f:Fw):Prop where
 og:∀i∈f.og,inR out i∧(cdA out i=19∨cdA out i=20)
 ds:∀i∈f.ds,inR out i
 lp:∀i∈f.lp,inR out i∧(cdA out i=23∨cdA out i=24)
 cs:∀x∈f.cs,(x.1= -1∨inR out x.1∧cdA out x.1=28)∧∀i∈x.2,inR out i∧cdA out i=198
 pr:∀p∈f.pr,inR out p.1∧bhF (cdA out p.1)=4∧inR out p.2
 al:∀i:Int,inR out i→bhF (cdA out i)=4→(i∈f.og∨i∈f.lp∨(∃x∈f.cs,x.1=i∨i∈x.2))∨∃p∈f.pr,p.1=i
theorem cdA_old {out:List Tq} {t:Tq} {i:Int} (h:inR out i):cdA (out++[t]) i=cdA out i:=by
 unfold cdA inR at*
 rw[List.getD_eq_getElem?_getD,List.getD_eq_getElem?_getD,List.getElem?_append_left (by omega)]
theorem cdA_new (out:List Tq) (t:Tq):cdA (out++[t]) out.length=t.c:=by
 unfold cdA
 rw[List.getD_eq_getElem?_getD,Int.toNat_natCast,List.getElem?_append_right (Nat.le_refl _)]
 simp
theorem inR_old {out:List Tq} {t:Tq} {i:Int} (h:inR out i):inR (out++[t]) i:=by
 unfold inR at*
 simp
 omega
theorem inR_new (out:List Tq) (t:Tq):inR (out++[t]) out.length:=by
 unfold inR
 simp;omega
theorem inR_cases {out:List Tq} {t:Tq} {i:Int} (h:inR (out++[t]) i):inR out i∨i=out.length:=by
 unfold inR at*
 simp at h
 omega
theorem FlG.add {out:List Tq} {f:Fw} (h:FlG out f) {t:Tq} (ht:¬bhF t.c=4):FlG (out++[t]) f where
 og i hi:=⟨inR_old (h.og i hi).1,by rw[cdA_old (h.og i hi).1];exact (h.og i hi).2⟩
 ds i hi:=inR_old (h.ds i hi)
 lp i hi:=⟨inR_old (h.lp i hi).1,by rw[cdA_old (h.lp i hi).1];exact (h.lp i hi).2⟩
 cs x hx:=⟨(h.cs x hx).1.imp id (fun q=>⟨inR_old q.1,by rw[cdA_old q.1];exact q.2⟩),fun i hi=>⟨inR_old ((h.cs x hx).2 i hi).1,by rw[cdA_old ((h.cs x hx).2 i hi).1];exact ((h.cs x hx).2 i hi).2⟩⟩
 pr p hp:=⟨inR_old (h.pr p hp).1,by rw[cdA_old (h.pr p hp).1];exact (h.pr p hp).2.1,inR_old (h.pr p hp).2.2⟩
 al i hi hb:=by
  rcases inR_cases hi with q|q
  ·rw[cdA_old q] at hb
   exact h.al i q hb
  ·subst q
   rw[cdA_new] at hb
   exact absurd hb ht
theorem offL_len (ends:List Int):∀(pr:List (Int×Int)) (l:List Tq),(offL ends pr l).length=l.length
 |[],l=>rfl
 |p::r,l=>by rw[offL,offL_len ends r];simp
theorem offL_same (ends:List Int):∀(pr:List (Int×Int)) (l:List Tq) (i:Nat),((offL ends pr l).getD i ⟨0,0,[],0⟩).c=(l.getD i ⟨0,0,[],0⟩).c∧((offL ends pr l).getD i ⟨0,0,[],0⟩).n=(l.getD i ⟨0,0,[],0⟩).n∧((offL ends pr l).getD i ⟨0,0,[],0⟩).t=(l.getD i ⟨0,0,[],0⟩).t
 |[],l,i=>⟨rfl,rfl,rfl⟩
 |p::r,l,i=>by
  have h:=offL_same ends r (l.set p.1.toNat {(l.getD p.1.toNat ⟨0,0,[],0⟩) with o:=ends.getD p.2.toNat 0 - (ends.getD p.1.toNat 0 - 2)}) i
  have e:∀(g:Tq→Tq) (hg:(g (l.getD p.1.toNat ⟨0,0,[],0⟩)).c=(l.getD p.1.toNat ⟨0,0,[],0⟩).c∧(g (l.getD p.1.toNat ⟨0,0,[],0⟩)).n=(l.getD p.1.toNat ⟨0,0,[],0⟩).n∧(g (l.getD p.1.toNat ⟨0,0,[],0⟩)).t=(l.getD p.1.toNat ⟨0,0,[],0⟩).t),
    ((l.set p.1.toNat (g (l.getD p.1.toNat ⟨0,0,[],0⟩))).getD i ⟨0,0,[],0⟩).c=(l.getD i ⟨0,0,[],0⟩).c∧((l.set p.1.toNat (g (l.getD p.1.toNat ⟨0,0,[],0⟩))).getD i ⟨0,0,[],0⟩).n=(l.getD i ⟨0,0,[],0⟩).n∧((l.set p.1.toNat (g (l.getD p.1.toNat ⟨0,0,[],0⟩))).getD i ⟨0,0,[],0⟩).t=(l.getD i ⟨0,0,[],0⟩).t:=by
   intro g hg
   rw[List.getD_eq_getElem?_getD (l:=l.set _ _),List.getElem?_set]
   by_cases c:p.1.toNat=i
   ·subst c
    by_cases d:p.1.toNat < l.length
    ·rw[if_pos rfl,if_pos d]
     exact hg
    ·rw[if_pos rfl,if_neg d,List.getD_eq_getElem?_getD,List.getElem?_eq_none (by omega)]
     exact ⟨rfl,rfl,rfl⟩
   ·rw[if_neg c,←List.getD_eq_getElem?_getD]
    exact ⟨rfl,rfl,rfl⟩
  have e2:=e (fun t=>{t with o:=ends.getD p.2.toNat 0 - (ends.getD p.1.toNat 0 - 2)}) ⟨rfl,rfl,rfl⟩
  rw[offL]
  exact ⟨h.1.trans e2.1,h.2.1.trans e2.2.1,h.2.2.trans e2.2.2⟩
theorem offL_at (ends:List Int):∀(pr:List (Int×Int)) (l:List Tq) (i:Nat),i < l.length→(∃p∈pr,p.1.toNat=i)→
  ∃p∈pr,p.1.toNat=i∧((offL ends pr l).getD i ⟨0,0,[],0⟩).o=ends.getD p.2.toNat 0 - (ends.getD i 0 - 2)
 |[],l,i,hi,h=>by obtain ⟨p,hp,_⟩:=h;simp at hp
 |p::r,l,i,hi,h=>by
  by_cases c:∃q∈r,q.1.toNat=i
  ·obtain ⟨q,h1,h2,h3⟩:=offL_at ends r (l.set p.1.toNat {(l.getD p.1.toNat ⟨0,0,[],0⟩) with o:=ends.getD p.2.toNat 0 - (ends.getD p.1.toNat 0 - 2)}) i (by simpa using hi) c
   exact ⟨q,List.mem_cons_of_mem _ h1,h2,by rw[offL];exact h3⟩
  ·have hp:p.1.toNat=i:=by
    obtain ⟨q,h1,h2⟩:=h
    rcases List.mem_cons.1 h1 with rfl|h1
    ·exact h2
    ·exact absurd ⟨q,h1,h2⟩ c
   refine ⟨p,List.mem_cons_self ..,hp, ?_⟩
   rw[offL]
   have keep:∀(r:List (Int×Int)) (l:List Tq),(¬∃q∈r,q.1.toNat=i)→((offL ends r l).getD i ⟨0,0,[],0⟩).o=(l.getD i ⟨0,0,[],0⟩).o:=by
    intro r
    induction r with
    |nil=>intro l _;rfl
    |cons q r ih=>
     intro l hn
     rw[offL,ih _ (fun ⟨z,hz,hz2⟩=>hn ⟨z,List.mem_cons_of_mem _ hz,hz2⟩)]
     have hq:¬q.1.toNat=i:=fun z=>hn ⟨q,List.mem_cons_self ..,z⟩
     rw[List.getD_eq_getElem?_getD,List.getElem?_set,if_neg hq,←List.getD_eq_getElem?_getD]
   rw[keep r _ c,List.getD_eq_getElem?_getD,List.getElem?_set,if_pos hp,if_pos (by omega)]
   simp only[Option.getD_some]
   rw[hp]
theorem lstW_eq {l l':List Int} {x:Int} (h:lstW l=some (l',x)):l=l'++[x]:=by
 unfold lstW at h
 split at h
 ·cases h
 ·rename_i y hy
  injection h with h
  injection h with h1 h2
  subst h1 h2
  obtain ⟨ys,hs⟩:=List.getLast?_eq_some_iff.1 hy
  subst hs
  simp
def opI (f:Fw) (i:Int):Prop:=i∈f.og∨i∈f.lp∨∃x∈f.cs,x.1=i∨i∈x.2
structure FlO (out:List Tq) (n:Int) (f:Fw):Prop where
 og:∀i∈f.og,inR out i∧(cdA out i=19∨cdA out i=20)
 ds:∀i∈f.ds,inR out i
 lp:∀i∈f.lp,inR out i∧(cdA out i=23∨cdA out i=24)
 cs:∀x∈f.cs,(x.1= -1∨inR out x.1∧cdA out x.1=28)∧∀i∈x.2,inR out i∧cdA out i=198
 pr:∀p∈f.pr,inR out p.1∧bhF (cdA out p.1)=4∧inR out p.2
 al:∀i:Int,inR out i→bhF (cdA out i)=4→opI f i∨(∃p∈f.pr,p.1=i)∨i=n
theorem FlG.old {out:List Tq} {f:Fw} (h:FlG out f) (t:Tq):FlO (out++[t]) out.length f where
 og i hi:=⟨inR_old (h.og i hi).1,by rw[cdA_old (h.og i hi).1];exact (h.og i hi).2⟩
 ds i hi:=inR_old (h.ds i hi)
 lp i hi:=⟨inR_old (h.lp i hi).1,by rw[cdA_old (h.lp i hi).1];exact (h.lp i hi).2⟩
 cs x hx:=⟨(h.cs x hx).1.imp id (fun q=>⟨inR_old q.1,by rw[cdA_old q.1];exact q.2⟩),fun i hi=>⟨inR_old ((h.cs x hx).2 i hi).1,by rw[cdA_old ((h.cs x hx).2 i hi).1];exact ((h.cs x hx).2 i hi).2⟩⟩
 pr p hp:=⟨inR_old (h.pr p hp).1,by rw[cdA_old (h.pr p hp).1];exact (h.pr p hp).2.1,inR_old (h.pr p hp).2.2⟩
 al i hi hb:=by
  rcases inR_cases hi with q|q
  ·rw[cdA_old q] at hb
   rcases h.al i q hb with a|a
   ·exact .inl a
   ·exact .inr (.inl a)
  ·exact .inr (.inr q)
def tabC:List Int:=[177,19,20,178,23,24,21,22,27,196,28,198,197]
theorem bh4':bhF 19=4∧bhF 20=4∧bhF 21=4∧bhF 22=4∧bhF 23=4∧bhF 24=4∧bhF 28=4∧bhF 198=4:=by decide+kernel
theorem bh0':¬bhF 177=4∧¬bhF 178=4∧¬bhF 27=4∧¬bhF 196=4∧¬bhF 197=4:=by decide+kernel
theorem FlG.flw {out:List Tq} {f f':Fw} {c:Int} {back:Bool} (h:FlG out f) (hc:c∈tabC) (e:flwF f c out.length back=some f'):FlG (out++[⟨c,0,[],0⟩]) f':=by
 have O:=h.old ⟨c,0,[],0⟩
 have nr:=inR_new out ⟨c,0,[],0⟩
 have nc:=cdA_new out ⟨c,0,[],0⟩
 have b4:=bh4'
 have b0:=bh0'
 generalize hn:(out.length:Int)=n at*
 generalize hO:out++[(⟨c,0,[],0⟩:Tq)]=o at*
 simp only at nc
 have fin:∀f2:Fw,(∀i∈f2.og,inR o i∧(cdA o i=19∨cdA o i=20))→(∀i∈f2.ds,inR o i)→(∀i∈f2.lp,inR o i∧(cdA o i=23∨cdA o i=24))→
   (∀x∈f2.cs,(x.1= -1∨inR o x.1∧cdA o x.1=28)∧∀i∈x.2,inR o i∧cdA o i=198)→(∀p∈f2.pr,inR o p.1∧bhF (cdA o p.1)=4∧inR o p.2)→
   (∀i,inR o i→bhF (cdA o i)=4→opI f i∨(∃p∈f.pr,p.1=i)∨i=n→opI f2 i∨∃p∈f2.pr,p.1=i)→FlG o f2:=
  fun f2 a1 a2 a3 a4 a5 a6=>⟨a1,a2,a3,a4,a5,fun i hi hb=>a6 i hi hb (O.al i hi hb)⟩
 obtain ⟨og,ds,lp,cs,pr⟩:=f
 obtain ⟨o1,o2,o3,o4,o5,o6⟩:=O
 simp only[opI] at*
 simp only[tabC,List.mem_cons,List.not_mem_nil,or_false] at hc
 rcases hc with rfl|rfl|rfl|rfl|rfl|rfl|rfl|rfl|rfl|rfl|rfl|rfl|rfl
 all_goals simp[flwF] at e
 ·subst e
  exact fin _ (by clear fin;first|exact o1|exact o2|exact o3|exact o4|exact o5|grind) (by clear fin;first|exact o1|exact o2|exact o3|exact o4|exact o5|grind) (by clear fin;first|exact o1|exact o2|exact o3|exact o4|exact o5|grind) (by clear fin;first|exact o1|exact o2|exact o3|exact o4|exact o5|grind) (by clear fin;first|exact o1|exact o2|exact o3|exact o4|exact o5|grind) (fun i hi hb hq=>by have h0:0≤i:=hi.1;clear fin o1 o2 o3 o4 o5 o6 h;simp only[List.mem_append,or_and_right,exists_or,List.mem_cons,List.not_mem_nil,or_false,exists_eq_left,false_and,exists_false,List.mem_map] at hq ⊢;grind)
 ·split at e
  ·simp at e
   obtain ⟨a,b,e1,e2⟩:=e
   have e1:=lstW_eq e1
   subst e1 e2
   exact fin _ (by clear fin;first|exact o1|exact o2|exact o3|exact o4|exact o5|grind) (by clear fin;first|exact o1|exact o2|exact o3|exact o4|exact o5|grind) (by clear fin;first|exact o1|exact o2|exact o3|exact o4|exact o5|grind) (by clear fin;first|exact o1|exact o2|exact o3|exact o4|exact o5|grind) (by clear fin;first|exact o1|exact o2|exact o3|exact o4|exact o5|grind) (fun i hi hb hq=>by have h0:0≤i:=hi.1;clear fin o1 o2 o3 o4 o5 o6 h;simp only[List.mem_append,or_and_right,exists_or,List.mem_cons,List.not_mem_nil,or_false,exists_eq_left,false_and,exists_false,List.mem_map] at hq ⊢;grind)
  ·simp at e
   obtain ⟨a,b,e1,e2⟩:=e
   have e1:=lstW_eq e1
   subst e1 e2
   exact fin _ (by clear fin;first|exact o1|exact o2|exact o3|exact o4|exact o5|grind) (by clear fin;first|exact o1|exact o2|exact o3|exact o4|exact o5|grind) (by clear fin;first|exact o1|exact o2|exact o3|exact o4|exact o5|grind) (by clear fin;first|exact o1|exact o2|exact o3|exact o4|exact o5|grind) (by clear fin;first|exact o1|exact o2|exact o3|exact o4|exact o5|grind) (fun i hi hb hq=>by have h0:0≤i:=hi.1;clear fin o1 o2 o3 o4 o5 o6 h;simp only[List.mem_append,or_and_right,exists_or,List.mem_cons,List.not_mem_nil,or_false,exists_eq_left,false_and,exists_false,List.mem_map] at hq ⊢;grind)
 ·split at e
  ·simp at e
   obtain ⟨a,b,e1,e2⟩:=e
   have e1:=lstW_eq e1
   subst e1 e2
   exact fin _ (by clear fin;first|exact o1|exact o2|exact o3|exact o4|exact o5|grind) (by clear fin;first|exact o1|exact o2|exact o3|exact o4|exact o5|grind) (by clear fin;first|exact o1|exact o2|exact o3|exact o4|exact o5|grind) (by clear fin;first|exact o1|exact o2|exact o3|exact o4|exact o5|grind) (by clear fin;first|exact o1|exact o2|exact o3|exact o4|exact o5|grind) (fun i hi hb hq=>by have h0:0≤i:=hi.1;clear fin o1 o2 o3 o4 o5 o6 h;simp only[List.mem_append,or_and_right,exists_or,List.mem_cons,List.not_mem_nil,or_false,exists_eq_left,false_and,exists_false,List.mem_map] at hq ⊢;grind)
  ·injection e with e
   subst e
   exact fin _ (by clear fin;first|exact o1|exact o2|exact o3|exact o4|exact o5|grind) (by clear fin;first|exact o1|exact o2|exact o3|exact o4|exact o5|grind) (by clear fin;first|exact o1|exact o2|exact o3|exact o4|exact o5|grind) (by clear fin;first|exact o1|exact o2|exact o3|exact o4|exact o5|grind) (by clear fin;first|exact o1|exact o2|exact o3|exact o4|exact o5|grind) (fun i hi hb hq=>by have h0:0≤i:=hi.1;clear fin o1 o2 o3 o4 o5 o6 h;simp only[List.mem_append,or_and_right,exists_or,List.mem_cons,List.not_mem_nil,or_false,exists_eq_left,false_and,exists_false,List.mem_map] at hq ⊢;grind)
 ·obtain ⟨a,b,e1,e2⟩:=e
  have e1:=lstW_eq e1
  subst e1 e2
  exact fin _ (by clear fin;first|exact o1|exact o2|exact o3|exact o4|exact o5|grind) (by clear fin;first|exact o1|exact o2|exact o3|exact o4|exact o5|grind) (by clear fin;first|exact o1|exact o2|exact o3|exact o4|exact o5|grind) (by clear fin;first|exact o1|exact o2|exact o3|exact o4|exact o5|grind) (by clear fin;first|exact o1|exact o2|exact o3|exact o4|exact o5|grind) (fun i hi hb hq=>by have h0:0≤i:=hi.1;clear fin o1 o2 o3 o4 o5 o6 h;simp only[List.mem_append,or_and_right,exists_or,List.mem_cons,List.not_mem_nil,or_false,exists_eq_left,false_and,exists_false,List.mem_map] at hq ⊢;grind)
 ·subst e
  exact fin _ (by clear fin;first|exact o1|exact o2|exact o3|exact o4|exact o5|grind) (by clear fin;first|exact o1|exact o2|exact o3|exact o4|exact o5|grind) (by clear fin;first|exact o1|exact o2|exact o3|exact o4|exact o5|grind) (by clear fin;first|exact o1|exact o2|exact o3|exact o4|exact o5|grind) (by clear fin;first|exact o1|exact o2|exact o3|exact o4|exact o5|grind) (fun i hi hb hq=>by have h0:0≤i:=hi.1;clear fin o1 o2 o3 o4 o5 o6 h;simp only[List.mem_append,or_and_right,exists_or,List.mem_cons,List.not_mem_nil,or_false,exists_eq_left,false_and,exists_false,List.mem_map] at hq ⊢;grind)
 ·subst e
  exact fin _ (by clear fin;first|exact o1|exact o2|exact o3|exact o4|exact o5|grind) (by clear fin;first|exact o1|exact o2|exact o3|exact o4|exact o5|grind) (by clear fin;first|exact o1|exact o2|exact o3|exact o4|exact o5|grind) (by clear fin;first|exact o1|exact o2|exact o3|exact o4|exact o5|grind) (by clear fin;first|exact o1|exact o2|exact o3|exact o4|exact o5|grind) (fun i hi hb hq=>by have h0:0≤i:=hi.1;clear fin o1 o2 o3 o4 o5 o6 h;simp only[List.mem_append,or_and_right,exists_or,List.mem_cons,List.not_mem_nil,or_false,exists_eq_left,false_and,exists_false,List.mem_map] at hq ⊢;grind)
 ·obtain ⟨a,b,e1,e2⟩:=e
  have e1:=lstW_eq e1
  subst e1 e2
  exact fin _ (by clear fin;first|exact o1|exact o2|exact o3|exact o4|exact o5|grind) (by clear fin;first|exact o1|exact o2|exact o3|exact o4|exact o5|grind) (by clear fin;first|exact o1|exact o2|exact o3|exact o4|exact o5|grind) (by clear fin;first|exact o1|exact o2|exact o3|exact o4|exact o5|grind) (by clear fin;first|exact o1|exact o2|exact o3|exact o4|exact o5|grind) (fun i hi hb hq=>by have h0:0≤i:=hi.1;clear fin o1 o2 o3 o4 o5 o6 h;simp only[List.mem_append,or_and_right,exists_or,List.mem_cons,List.not_mem_nil,or_false,exists_eq_left,false_and,exists_false,List.mem_map] at hq ⊢;grind)
 ·obtain ⟨a,b,e1,e2⟩:=e
  have e1:=lstW_eq e1
  subst e1 e2
  exact fin _ (by clear fin;first|exact o1|exact o2|exact o3|exact o4|exact o5|grind) (by clear fin;first|exact o1|exact o2|exact o3|exact o4|exact o5|grind) (by clear fin;first|exact o1|exact o2|exact o3|exact o4|exact o5|grind) (by clear fin;first|exact o1|exact o2|exact o3|exact o4|exact o5|grind) (by clear fin;first|exact o1|exact o2|exact o3|exact o4|exact o5|grind) (fun i hi hb hq=>by have h0:0≤i:=hi.1;clear fin o1 o2 o3 o4 o5 o6 h;simp only[List.mem_append,or_and_right,exists_or,List.mem_cons,List.not_mem_nil,or_false,exists_eq_left,false_and,exists_false,List.mem_map] at hq ⊢;grind)
 ·obtain ⟨-,e⟩:=e
  subst e
  exact fin _ (by clear fin;first|exact o1|exact o2|exact o3|exact o4|exact o5|grind) (by clear fin;first|exact o1|exact o2|exact o3|exact o4|exact o5|grind) (by clear fin;first|exact o1|exact o2|exact o3|exact o4|exact o5|grind) (by clear fin;first|exact o1|exact o2|exact o3|exact o4|exact o5|grind) (by clear fin;first|exact o1|exact o2|exact o3|exact o4|exact o5|grind) (fun i hi hb hq=>by have h0:0≤i:=hi.1;clear fin o1 o2 o3 o4 o5 o6 h;simp only[List.mem_append,or_and_right,exists_or,List.mem_cons,List.not_mem_nil,or_false,exists_eq_left,false_and,exists_false,List.mem_map] at hq ⊢;grind)
 ·subst e
  exact fin _ (by clear fin;first|exact o1|exact o2|exact o3|exact o4|exact o5|grind) (by clear fin;first|exact o1|exact o2|exact o3|exact o4|exact o5|grind) (by clear fin;first|exact o1|exact o2|exact o3|exact o4|exact o5|grind) (fun y hy=>(List.mem_append.1 hy).elim (o4 y) (fun z=>by simp only[List.mem_cons,List.not_mem_nil,or_false] at z;subst z;exact ⟨.inl rfl,fun i hi=>absurd hi (by simp)⟩)) (by clear fin;first|exact o1|exact o2|exact o3|exact o4|exact o5|grind) (fun i hi hb hq=>by have h0:0≤i:=hi.1;clear fin o1 o2 o3 o4 o5 o6 h;simp only[List.mem_append,or_and_right,exists_or,List.mem_cons,List.not_mem_nil,or_false,exists_eq_left,false_and,exists_false,List.mem_map] at hq ⊢;grind)
 all_goals
  split at e
  ·cases e
  rename_i x hx
  obtain ⟨ys,hs⟩:=List.getLast?_eq_some_iff.1 hx
  subst hs
  clear hx
  simp at e
  obtain ⟨e1,e⟩:=e
  subst e
  have x4:=o4 x (by simp)
  have y4:∀y∈ys,_:=fun y hy=>o4 y (List.mem_append.2 (.inl hy))
  obtain ⟨x1,x2⟩:=x
  exact fin _ (by clear fin;first|exact o1|exact o2|exact o3|exact o4|exact o5|grind) (by clear fin;first|exact o1|exact o2|exact o3|exact o4|exact o5|grind) (by clear fin;first|exact o1|exact o2|exact o3|exact o4|exact o5|grind) (by clear fin;first|exact y4|(intro y hy;rcases List.mem_append.1 hy with q|q;exact y4 y q;simp only[List.mem_cons,List.not_mem_nil,or_false] at q;subst q;first|exact ⟨.inr ⟨nr,nc⟩,x4.2⟩|exact ⟨.inl rfl,fun i hi=>(List.mem_append.1 hi).elim (x4.2 i) (fun z=>by simp only[List.mem_cons,List.not_mem_nil,or_false] at z;subst z;exact ⟨nr,nc⟩)⟩)) (by clear fin;first|exact o5|(intro p hp;clear o1 o2 o3 o4 o6 h y4;simp only[List.mem_append,List.mem_map,List.mem_cons,List.not_mem_nil,or_false] at hp;rcases hp with hp|hp;exact o5 p hp;(first|(obtain ⟨i,hi,rfl⟩:=hp;have:=x4.2 i hi;exact ⟨this.1,by rw[this.2];exact b4.2.2.2.2.2.2.2,nr⟩)|(subst hp;rcases x4.1 with q|q;exact absurd q e1;exact ⟨q.1,by rw[q.2];exact b4.2.2.2.2.2.2.1,nr⟩)))) (fun i hi hb hq=>by have h0:0≤i:=hi.1;clear fin o1 o2 o3 o4 o5 o6 h;simp only[List.mem_append,or_and_right,exists_or,List.mem_cons,List.not_mem_nil,or_false,exists_eq_left,false_and,exists_false,List.mem_map] at hq ⊢;grind)
def efC (t:Tq):Int:=if t.c=17∨t.c=195 then t.n else t.c
def knS (k:Int) (t:Tq):Int:=if efC t=182 then k+1 else k
def knF (l:List Tq) (k:Int):Int:=l.foldl knS k
def ord1 (k:Int) (t:Tq):Prop:=(efC t=182→t.n=k)∧(2048≤efC t→efC t < knS k t)
def ordF:List Tq→Int→Prop
 |[],_=>True
 |t::l,k=>ord1 k t∧ordF l (knS k t)
theorem knF_snoc (l:List Tq) (t:Tq) (k:Int):knF (l++[t]) k=knS (knF l k) t:=by
 unfold knF
 rw[List.foldl_append]
 rfl
theorem ordF_snoc:∀(l:List Tq) (t:Tq) (k:Int),ordF l k→ord1 (knF l k) t→ordF (l++[t]) k
 |[],t,k,h,h1=>⟨h1,trivial⟩
 |x::l,t,k,h,h1=>⟨h.1,ordF_snoc l t (knS k x) h.2 h1⟩
theorem prm_ok:∀x∈prmL,¬bhF x.2=4∧x.2 < 2048∧¬x.2=182∧¬x.2=17∧¬x.2=195:=by decide+kernel
structure MkG (m:Mk):Prop where
 fl:FlG m.out m.fl
 op:m.op=false→opnF m.fl=false
 ord:ordF m.out 2048
 kn:knF m.out 2048=m.nx
 nm:∀x∈m.nm,2048≤x.2∧x.2 < m.nx
 co:m.op=true→2048≤m.co∧m.co < m.nx
 tk:∀t∈m.out,t.c=17∨t.c=195→¬bhF t.n=4
 hx:2048≤m.nx
theorem mk0_ok:MkG mk0 where
 fl:=⟨by simp[mk0],by simp[mk0],by simp[mk0],by simp[mk0],by simp[mk0],fun i hi=>by unfold inR at hi;simp[mk0] at hi;omega⟩
 op _:=rfl
 ord:=trivial
 kn:=rfl
 nm:=by simp[mk0]
 co:=by simp[mk0]
 tk:=by simp[mk0]
 hx:=by simp[mk0]
theorem MkG.add {m:Mk} (h:MkG m) (c n:Int) (t:List Int) (hb:¬bhF c=4) (h2:c=17∨c=195→n < m.nx∧¬bhF n=4∧¬n=182) (h3:¬c=182) (h4:c < m.nx):MkG (addT m c n t) where
 fl:=h.fl.add hb
 op:=h.op
 ord:=ordF_snoc _ _ _ h.ord (by
  rw[h.kn]
  unfold ord1 knS efC
  simp only
  by_cases c1:c=17∨c=195
  ·rw[if_pos c1,if_neg (h2 c1).2.2]
   exact ⟨fun q=>absurd q (h2 c1).2.2,fun _=>(h2 c1).1⟩
  ·rw[if_neg c1,if_neg h3]
   exact ⟨fun q=>absurd q h3,fun _=>h4⟩)
 kn:=by
  show knF (m.out++_) 2048=m.nx
  rw[knF_snoc,h.kn]
  unfold knS efC
  simp only
  by_cases c1:c=17∨c=195
  ·rw[if_pos c1,if_neg (h2 c1).2.2]
  ·rw[if_neg c1,if_neg h3]
 nm:=h.nm
 co:=h.co
 tk x hx hc:=by
  rcases List.mem_append.1 hx with q|q
  ·exact h.tk x q hc
  ·simp only[List.mem_cons,List.not_mem_nil,or_false] at q
   subst q
   exact (h2 hc).2.1
 hx:=h.hx
theorem MkG.defn {m:Mk} (h:MkG m) (s:List Int):MkG (addT {m with nx:=m.nx+1} 182 m.nx s) where
 fl:=h.fl.add (show ¬bhF 182=4 by decide+kernel)
 op:=h.op
 ord:=ordF_snoc _ _ _ h.ord (by
  rw[h.kn]
  unfold ord1 knS efC
  simp)
 kn:=by
  show knF (m.out++_) 2048=m.nx+1
  rw[knF_snoc,h.kn]
  unfold knS efC
  simp
 nm x hx:=by have:=h.nm x hx;exact ⟨this.1,by show x.2 < m.nx+1;omega⟩
 co ho:=by have:=h.co ho;exact ⟨this.1,by show m.co < m.nx+1;omega⟩
 tk x hx hc:=by
  rcases List.mem_append.1 hx with q|q
  ·exact h.tk x q hc
  ·simp only[List.mem_cons,List.not_mem_nil,or_false] at q
   subst q
   simp at hc
 hx:=by have:=h.hx;show 2048≤m.nx+1;omega
theorem tabC_ok:∀c∈tabC,¬c=17∧¬c=195∧¬c=182∧c < 2048:=by decide+kernel
theorem MkG.lay (back:Bool):∀(l:List Int) {m m':Mk},(∀c∈l,c∈tabC)→MkG m→m.op=true→layF back l m=some m'→MkG m'
 |[],m,m',hl,h,ho,e=>by
  injection e with e
  subst e
  exact h
 |c::l,m,m',hl,h,ho,e=>by
  unfold layF at e
  split at e
  ·cases e
  ·rename_i f hf
   have hc:=hl c List.mem_cons_self
   obtain ⟨t1,t2,t3,t4⟩:=tabC_ok c hc
   have t5:¬(c=17∨c=195):=fun q=>q.elim t1 t2
   refine MkG.lay back l (fun c q=>hl c (List.mem_cons_of_mem _ q)) ?_ ?_ e
   ·exact {
     fl:=h.fl.flw hc hf
     op:=fun q=>by exact absurd (ho.symm.trans q) (by simp)
     ord:=ordF_snoc _ _ _ h.ord (by
      unfold ord1 knS efC
      simp only
      rw[if_neg t5,if_neg t3]
      exact ⟨fun q=>absurd q t3,fun q=>absurd q (by omega)⟩)
     kn:=by
      show knF (m.out++_) 2048=m.nx
      rw[knF_snoc,h.kn]
      unfold knS efC
      simp only
      rw[if_neg t5,if_neg t3]
     nm:=h.nm
     co:=h.co
     tk:=fun x hx hc=>by
      rcases List.mem_append.1 hx with q|q
      ·exact h.tk x q hc
      ·simp only[List.mem_cons,List.not_mem_nil,or_false] at q
       subst q
       exact absurd hc t5
     hx:=h.hx}
   ·exact ho
theorem bhF_big {c:Int} (h:2048≤c):¬bhF c=4:=by
 unfold bhF
 rw[if_neg (by omega),if_neg (by omega),if_neg (by omega),if_neg (by omega),if_neg (by omega),if_neg (by omega)]
 decide
theorem MkG.fnd {m:Mk} (h:MkG m) {s:List Int} {c:Int} (e:fndN m.nm s=some c):c < m.nx∧¬bhF c=4∧¬c=182∧¬c=17∧¬c=195:=by
 unfold fndN at e
 split at e
 ·rename_i x hx
  injection e with e
  subst e
  have:=h.nm x (List.mem_reverse.1 (List.mem_of_find?_eq_some hx))
  exact ⟨this.2,bhF_big this.1,by omega,by omega,by omega⟩
 ·have h0:=h.hx
  rcases hq:prmL.find? (fun x=>decide (x.1=s)) with _|x
  ·rw[hq] at e
   cases e
  ·rw[hq] at e
   injection e with e
   subst e
   obtain ⟨a1,a2,a3,a4,a5⟩:=prm_ok x (List.mem_of_find?_eq_some hq)
   exact ⟨by show x.2 < m.nx;omega,a1,a3,a4,a5⟩
theorem tabF_ok {w l:List Int} (e:tabF w=some l):∀c∈l,c∈tabC:=by
 have h:∀x∈tabW,∀c∈x.2,c∈tabC:=by decide+kernel
 unfold tabF at e
 rcases hq:tabW.find? (fun x=>decide (x.1=w)) with _|x
 ·rw[hq] at e
  cases e
 ·rw[hq] at e
  injection e with e
  subst e
  exact h x (List.mem_of_find?_eq_some hq)
theorem byF_ok {w:List Int} {c:Int} (e:byF w=some c):¬bhF c=4∧c < 2048∧¬c=182∧¬c=17∧¬c=195:=by
 have h:∀x∈byW,¬bhF x.2=4∧x.2 < 2048∧¬x.2=182∧¬x.2=17∧¬x.2=195:=by decide+kernel
 unfold byF at e
 rcases hq:byW.find? (fun x=>decide (x.1=w)) with _|x
 ·rw[hq] at e
  cases e
 ·rw[hq] at e
  injection e with e
  subst e
  exact h x (List.mem_of_find?_eq_some hq)
theorem MkG.frsh {m m':Mk} (h:MkG m) {r q:List Tk} {s:List Int} {c:Int} (e:frshF m r= .inl (m',s,c,q)):c=m.nx∧m'={m with nx:=m.nx+1}:=by
 unfold frshF at e
 split at e
 ·cases e
 ·split at e
  ·cases e
  ·split at e
   ·cases e
   ·injection e with e
    injection e with e1 e
    injection e with e2 e
    injection e with e3 e4
    exact ⟨e3.symm,e1.symm⟩
theorem MkG.spec {m m':Mk} (h:MkG m) {w:List Int} {r q:List Tk} (e:specF m w r=some (.inl (m',q))):MkG m':=by
 have h0:=h.hx
 have k17:∀{c:Int} {s:List Int},fndN m.nm s=some c→MkG (addT m 17 c []):=fun hf=>
  have g:=h.fnd hf
  h.add 17 _ [] (by decide+kernel) (fun _=>⟨g.1,g.2.1,g.2.2.1⟩) (by decide) (by omega)
 have k195:∀{c:Int} {s:List Int},fndN m.nm s=some c→MkG (addT m 195 c []):=fun hf=>
  have g:=h.fnd hf
  h.add 195 _ [] (by decide+kernel) (fun _=>⟨g.1,g.2.1,g.2.2.1⟩) (by decide) (by omega)
 have kb:∀{m1 m2:Mk} {r1 q1:List Tk} {s:List Int} {c:Int},MkG m1→frshF m1 r1= .inl (m2,s,c,q1)→(byF w).isSome=true→MkG {addT (addT m2 182 c s) ((byF w).getD 0) 0 [] with nm:=m2.nm++[(s,c)]}:=by
  intro m1 m2 r1 q1 s c g hf hw
  obtain ⟨rfl,rfl⟩:=g.frsh hf
  obtain ⟨b,hb⟩:=Option.isSome_iff_exists.1 hw
  obtain ⟨b1,b2,b3,b4,b5⟩:=byF_ok hb
  have g0:=g.hx
  have G:=(g.defn s).add ((byF w).getD 0) 0 [] (by rw[hb];exact b1) (by rw[hb];exact fun x=>absurd x (fun y=>y.elim b4 b5)) (by rw[hb];exact b3) (by rw[hb];show b < m1.nx+1;omega)
  exact ⟨G.fl,G.op,G.ord,G.kn,fun x hx=>by
   rcases List.mem_append.1 hx with z|z
   ·exact G.nm x z
   ·simp only[List.mem_cons,List.not_mem_nil,or_false] at z
    subst z
    exact ⟨g0,by show m1.nx < m1.nx+1;omega⟩,G.co,G.tk,G.hx⟩
 unfold specF at e
 split at e
 ·rename_i c1
  split at e
  ·cases e
  ·rename_i ho
   split at e
   ·split at e
    ·cases e
    ·split at e
     ·cases e
     ·rename_i hf
      injection e with e
      injection e with e
      injection e with e1 e2
      subst e1
      exact k17 hf
   ·split at e
    ·split at e
     ·cases e
     ·rename_i mm ss cc qq hf
      obtain ⟨rfl,rfl⟩:=h.frsh hf
      injection e with e
      injection e with e
      injection e with e1 e2
      subst e1
      have G:=(h.defn ss).add 183 0 [] (by decide+kernel) (fun q=>absurd q (by decide)) (by decide) (by show (183:Int) < m.nx+1;omega)
      exact ⟨G.fl,fun q=>absurd q (by simp),G.ord,G.kn,G.nm,fun _=>⟨h0,by show m.nx < m.nx+1;omega⟩,G.tk,G.hx⟩
    ·rename_i n1 n2
     have hw:(byF w).isSome=true:=c1.elim (fun x=>absurd x n2) (fun x=>x.elim (fun y=>absurd y n1) id)
     simp only at e
     split at e
     ·cases e
     ·rename_i m1 r1 hx
      have g1:MkG m1:=by
       split at hx
       ·split at hx
        ·cases hx
        ·split at hx
         ·injection hx with hx
          injection hx with x1 x2
          subst x1
          exact h.add 192 0 [] (by decide+kernel) (fun q=>absurd q (by decide)) (by decide) (by omega)
         ·cases hx
       ·injection hx with hx
        injection hx with x1 x2
        subst x1
        exact h
      split at e
      ·cases e
      ·rename_i hf
       injection e with e
       injection e with e
       injection e with e1 e2
       subst e1
       exact kb g1 hf hw
 ·split at e
  ·rename_i c2
   split at e
   ·cases e
   ·rename_i ho
    have ho:m.op=true:=by simpa using ho
    split at e
    ·split at e
     ·cases e
     ·rename_i hn
      injection e with e
      injection e with e
      injection e with e1 e2
      subst e1
      have G:=h.add 194 0 [] (by decide+kernel) (fun q=>absurd q (by decide)) (by decide) (by omega)
      exact ⟨G.fl,fun _=>by show opnF m.fl=false;simpa using hn,G.ord,G.kn,fun x hx=>by
       rcases List.mem_append.1 hx with z|z
       ·exact G.nm x z
       ·simp only[List.mem_cons,List.not_mem_nil,or_false] at z
        subst z
        exact h.co ho,fun q=>absurd q (by simp),G.tk,G.hx⟩
    ·split at e
     ·injection e with e
      injection e with e
      injection e with e1 e2
      subst e1
      exact h.add 51 0 [] (by decide+kernel) (fun q=>absurd q (by decide)) (by decide) (by omega)
     ·split at e
      ·split at e
       ·cases e
       ·split at e
        ·cases e
        ·rename_i hf
         injection e with e
         injection e with e
         injection e with e1 e2
         subst e1
         exact k17 hf
      ·rename_i n1 n2 n3
       have hw:(tabF w).isSome=true:=c2.elim (fun x=>absurd x n1) (fun x=>x.elim (fun y=>absurd y n2) (fun y=>y.elim (fun z=>absurd z n3) id))
       obtain ⟨l,hl⟩:=Option.isSome_iff_exists.1 hw
       rw[hl] at e
       split at e
       ·cases e
       ·rename_i hm
        injection e with e
        injection e with e
        injection e with e1 e2
        subst e1
        exact MkG.lay _ l (tabF_ok hl) h ho hm
  ·split at e
   ·split at e
    ·cases e
    ·split at e
     ·cases e
     ·rename_i hf
      injection e with e
      injection e with e
      injection e with e1 e2
      subst e1
      exact k195 hf
   ·cases e
theorem MkG.tok1 {L:List Int→Int×Bool} {m m':Mk} (h:MkG m) {x:Tk} {r q:List Tk} (e:tok1F L m x r= .inl (m',q)):MkG m':=by
 have h0:=h.hx
 have h18:MkG (addT m 18 0 x.2.1):=h.add 18 0 _ (by decide+kernel) (fun q=>absurd q (by decide)) (by decide) (by omega)
 unfold tok1F at e
 split at e
 ·injection e with e
  injection e with e1 e2
  subst e1
  split
  ·exact h18.add 144 0 [] (by decide+kernel) (fun q=>absurd q (by decide)) (by decide) (by show (144:Int) < m.nx;omega)
  ·exact h18
 ·split at e
  ·rename_i y hy
   subst e
   exact h.spec hy
  ·split at e
   ·rename_i hf
    injection e with e
    injection e with e1 e2
    subst e1
    obtain ⟨g1,g2,g3,g4,g5⟩:=h.fnd hf
    exact h.add _ 0 [] g2 (fun q=>absurd q (fun y=>y.elim g4 g5)) g3 g1
   ·split at e
    ·injection e with e
     injection e with e1 e2
     subst e1
     exact h.add 16 _ [] (by decide+kernel) (fun q=>absurd q (by decide)) (by decide) (by omega)
    ·cases e
theorem MkG.mak {L:List Int→Int×Bool}:∀(n:Nat) {m m':Mk} {l:List Tk},MkG m→makG L n m l= .inl m'→MkG m'
 |n,m,m',[],h,e=>by
  unfold makG at e
  injection e with e
  subst e
  exact h
 |0,m,m',_::_,h,e=>by
  unfold makG at e
  injection e with e
  subst e
  exact h
 |n+1,m,m',x::r,h,e=>by
  unfold makG at e
  split at e
  ·cases e
  ·rename_i hx
   exact MkG.mak n (h.tok1 hx) e
theorem getD_get (l:List Tq) (d:Tq) {i:Nat} (h:i < l.length):l.getD i d=l[i]:=by
 rw[List.getD_eq_getElem?_getD,List.getElem?_eq_getElem h]
 rfl
def cnT (t:Tq):Int×Int×List Int:=(t.c,t.n,t.t)
theorem offL_map (ends:List Int) (pr:List (Int×Int)) (l:List Tq):(offL ends pr l).map cnT=l.map cnT:=by
 apply List.ext_getElem
 ·simp[offL_len]
 ·intro i h1 h2
  have a1:i < (offL ends pr l).length:=by simpa using h1
  have a2:i < l.length:=by simpa using h2
  obtain ⟨e1,e2,e3⟩:=offL_same ends pr l i
  rw[getD_get _ _ a1,getD_get _ _ a2] at e1 e2 e3
  rw[List.getElem_map,List.getElem_map]
  unfold cnT
  rw[e1,e2,e3]
theorem ordF_map:∀(l l':List Tq) (k:Int),l.map cnT=l'.map cnT→ordF l k→ordF l' k
 |[],[],k,e,h=>h
 |[],_::_,k,e,h=>by cases e
 |_::_,[],k,e,h=>by cases e
 |x::l,y::l',k,e,h=>by
  injection e with e1 e2
  unfold cnT at e1
  injection e1 with c1 c2
  injection c2 with c2 c3
  have f:efC x=efC y:=by unfold efC;rw[c1,c2]
  have g:knS k x=knS k y:=by unfold knS;rw[f]
  refine ⟨?_, ?_⟩
  ·have:=h.1
   unfold ord1 at this ⊢
   rw[←f,←c2,←g]
   exact this
  ·rw[←g]
   exact ordF_map l l' _ e2 h.2
theorem beQ_len (k:Nat) (t t':Tq) (h:cnT t=cnT t'):(beQ k t true).length=(beQ k t' true).length:=by
 unfold cnT at h
 injection h with c1 c2
 injection c2 with c2 c3
 unfold beQ
 split <;> simp[c1,c2,c3]
theorem byQ_len {t t':Tq} (h:cnT t=cnT t'):(byQ t true).length=(byQ t' true).length:=by
 have c1:t.c=t'.c:=congrArg (·.1) h
 unfold byQ
 rw[List.length_append,List.length_append,c1,beQ_len _ t t' h]
theorem endsF_map:∀(l l':List Tq) (a:Int),l.map cnT=l'.map cnT→endsF a l=endsF a l'
 |[],[],a,e=>rfl
 |[],_::_,a,e=>by cases e
 |_::_,[],a,e=>by cases e
 |x::l,y::l',a,e=>by
  injection e with e1 e2
  unfold endsF
  rw[byQ_len e1,endsF_map l l' _ e2]
theorem MkG.right {m:Mk} (h:MkG m) (ho:m.op=false) {l:List Tq} (hl:l=offL (endsF 0 (addT m 0 0 []).out) m.fl.pr (addT m 0 0 []).out):
  ordF l 2048∧l.length=m.out.length+1∧cdA l m.out.length=0∧
  ∀i:Nat,i < l.length→bhF (efC (l.getD i ⟨0,0,[],0⟩))=4→∃k < l.length,(l.getD i ⟨0,0,[],0⟩).o=(endsF 0 l).getD k 0 - ((endsF 0 l).getD i 0 - 2):=by
 have G:=h.add 0 0 [] (by decide+kernel) (fun q=>absurd q (by decide)) (by decide) (by have:=h.hx;omega)
 have hm:=offL_map (endsF 0 (addT m 0 0 []).out) m.fl.pr (addT m 0 0 []).out
 have hk:=offL_len (endsF 0 (addT m 0 0 []).out) m.fl.pr (addT m 0 0 []).out
 have hE:endsF 0 l=endsF 0 (addT m 0 0 []).out:=by rw[hl];exact endsF_map _ _ _ hm
 have hlen:l.length=m.out.length+1:=by rw[hl,hk];simp[addT]
 refine ⟨?_,hlen, ?_, ?_⟩
 ·rw[hl]
  exact ordF_map _ _ _ hm.symm G.ord
 ·have:=(offL_same (endsF 0 (addT m 0 0 []).out) m.fl.pr (addT m 0 0 []).out m.out.length).1
  rw[hl]
  unfold cdA
  rw[Int.toNat_natCast,this]
  exact (cdA_new m.out ⟨0,0,[],0⟩)
 ·intro i hi hb
  have hi':i < (addT m 0 0 []).out.length:=by rw[←hk,←hl];exact hi
  obtain ⟨s1,s2,s3⟩:=offL_same (endsF 0 (addT m 0 0 []).out) m.fl.pr (addT m 0 0 []).out i
  have ef:efC (l.getD i ⟨0,0,[],0⟩)=efC ((addT m 0 0 []).out.getD i ⟨0,0,[],0⟩):=by
   rw[hl]
   unfold efC
   rw[s1,s2]
  rw[ef] at hb
  have hmem:(addT m 0 0 []).out.getD i ⟨0,0,[],0⟩∈(addT m 0 0 []).out:=by
   rw[getD_get _ _ hi']
   exact List.getElem_mem hi'
  have hb4:bhF (cdA (addT m 0 0 []).out i)=4:=by
   unfold efC at hb
   split at hb
   ·rename_i hc
    exact absurd hb (G.tk _ hmem hc)
   ·exact hb
  have hop:=h.op ho
  unfold opnF at hop
  simp at hop
  obtain ⟨⟨⟨z1,z2⟩,z3⟩,z4⟩:=hop
  rcases G.fl.al i ⟨by omega,by exact_mod_cast hi'⟩ hb4 with q|⟨p,hp,hp1⟩
  ·exfalso
   have z1':(addT m 0 0 []).fl.og=[]:=z1
   have z3':(addT m 0 0 []).fl.lp=[]:=z3
   have z4':(addT m 0 0 []).fl.cs=[]:=z4
   rw[z1',z3',z4'] at q
   simp at q
  ·obtain ⟨p2,g1,g2,g3⟩:=offL_at (endsF 0 (addT m 0 0 []).out) m.fl.pr (addT m 0 0 []).out i hi' ⟨p,hp,by omega⟩
   have hr:=(G.fl.pr p2 g1).2.2
   unfold inR at hr
   refine ⟨p2.2.toNat,by rw[hl,hk];omega, ?_⟩
   rw[hE,hl]
   exact g3
structure Rst where
 tk:List Tq
 sz:Int
 ah:List (Int×Int)
 bk:List Int
 lp:List (Int×Int×Int)
 cs:List (Bool×Int×Int×List (Int×Int))
def cdT (c:Int):Tq:=⟨c,0,[],0⟩
def szT (t:Tq):Int:=(byQ t true).length
def szL (l:List Tq):Int:=(l.map szT).sum
def lay1 (s:Rst) (t:Tq):Rst:={s with tk:=s.tk++[t],sz:=s.sz+szT t}
def brn (s:Rst) (c:Int):Int×Int:=((s.tk.length:Int),s.sz+szT (cdT c) - 2)
def led1 (to:Int) (tk:List Tq) (b:Int×Int):List Tq:=tk.set b.1.toNat {(tk.getD b.1.toNat ⟨0,0,[],0⟩) with o:=to - b.2}
def ledL (to:Int) (tk:List Tq) (bs:List (Int×Int)):List Tq:=bs.foldl (led1 to) tk
def led (s:Rst) (to:Int) (bs:List (Int×Int)):Rst:={s with tk:=ledL to s.tk bs}
def actR (s:Rst) (a:Int):Option Rst:=
 if a=1 then some {lay1 s (cdT 20) with ah:=s.ah++[brn s 20]}
 else if a=2 then match s.ah.getLast? with
  |none=>none
  |some b=>some {lay1 s (cdT 19) with ah:=s.ah.dropLast++[brn s 19,b]}
 else if a=3 then match s.ah.getLast? with
  |none=>none
  |some b=>some (led (lay1 {s with ah:=s.ah.dropLast} (cdT 178)) (s.sz+szT (cdT 178)) [b])
 else if a=4 then some {lay1 s (cdT 177) with bk:=s.bk++[s.sz+szT (cdT 177)]}
 else if a=5 then match s.bk.getLast? with
  |none=>none
  |some to=>some (led (lay1 {s with bk:=s.bk.dropLast} (cdT 19)) to [brn s 19])
 else if a=6 then match s.bk.getLast? with
  |none=>none
  |some to=>some (led (lay1 {s with bk:=s.bk.dropLast} (cdT 20)) to [brn s 20])
 else if a=7 then some {lay1 s (cdT 23) with lp:=s.lp++[((brn s 23).1,(brn s 23).2,s.sz+szT (cdT 23))]}
 else if a=8 then some {lay1 s (cdT 24) with lp:=s.lp++[((brn s 24).1,(brn s 24).2,s.sz+szT (cdT 24))]}
 else if a=9 then match s.lp.getLast? with
  |none=>none
  |some l=>some (led (led (lay1 {s with lp:=s.lp.dropLast} (cdT 21)) l.2.2 [brn s 21]) (s.sz+szT (cdT 21)) [(l.1,l.2.1)])
 else if a=10 then match s.lp.getLast? with
  |none=>none
  |some l=>some (led (led (lay1 {s with lp:=s.lp.dropLast} (cdT 22)) l.2.2 [brn s 22]) (s.sz+szT (cdT 22)) [(l.1,l.2.1)])
 else if a=11 then match s.lp.getLast? with
  |none=>none
  |some l=>some (lay1 s (cdT 27))
 else if a=12 then some {lay1 s (cdT 196) with cs:=s.cs++[(false,0,0,[])]}
 else match s.cs.getLast? with
  |none=>none
  |some c=>
   if ¬c.1=decide (a=14) then none
   else if a=13 then some {lay1 s (cdT 28) with cs:=s.cs.dropLast++[(true,(brn s 28).1,(brn s 28).2,c.2.2.2)]}
   else if a=14 then some {led (lay1 s (cdT 198)) (s.sz+szT (cdT 198)) [(c.2.1,c.2.2.1)] with cs:=s.cs.dropLast++[(false,0,0,c.2.2.2++[brn s 198])]}
   else some (led (lay1 {s with cs:=s.cs.dropLast} (cdT 197)) (s.sz+szT (cdT 197)) c.2.2.2)
def actC (a:Int):Int×Bool:=
 if a=1 then (20,false) else if a=2 then (19,false) else if a=3 then (178,false) else if a=4 then (177,false) else if a=5 then (19,true) else if a=6 then (20,true)
 else if a=7 then (23,false) else if a=8 then (24,false) else if a=9 then (21,false) else if a=10 then (22,false) else if a=11 then (27,false) else if a=12 then (196,false)
 else if a=13 then (28,false) else if a=14 then (198,false) else (197,false)
def eA (out:List Tq) (i:Int):Int:=(endsF 0 out).getD i.toNat 0
def brA (out:List Tq) (i:Int):Int×Int:=(i,eA out i - 2)
def csA (out:List Tq) (x:Int×List Int):Bool×Int×Int×List (Int×Int):=
 (!decide (x.1= -1),if x.1= -1 then 0 else x.1,if x.1= -1 then 0 else eA out x.1 - 2,x.2.map (brA out))
def rstF (out:List Tq) (f:Fw):Rst:=
 ⟨offL (endsF 0 out) f.pr out,szL out,f.og.map (brA out),f.ds.map (eA out),f.lp.map (fun i=>(i,eA out i - 2,eA out i)),f.cs.map (csA out)⟩
theorem szL_snoc (l:List Tq) (t:Tq):szL (l++[t])=szL l+szT t:=by simp[szL]
theorem ends_snoc:∀(l:List Tq) (t:Tq) (a:Int),endsF a (l++[t])=endsF a l++[a+szL l+szT t]
 |[],t,a=>by simp[endsF,szL,szT]
 |x::l,t,a=>by
  rw[List.cons_append,endsF,endsF,ends_snoc l t,List.cons_append]
  simp only[szL,szT,List.map_cons,List.sum_cons]
  congr 3
  omega
theorem ends_len:∀(l:List Tq) (a:Int),(endsF a l).length=l.length
 |[],a=>rfl
 |x::l,a=>by rw[endsF,List.length_cons,ends_len l,List.length_cons]
theorem eA_old {out:List Tq} {t:Tq} {i:Int} (h:inR out i):eA (out++[t]) i=eA out i:=by
 unfold eA inR at*
 rw[ends_snoc,List.getD_eq_getElem?_getD,List.getElem?_append_left (by rw[ends_len];omega),←List.getD_eq_getElem?_getD]
theorem eA_new (out:List Tq) (t:Tq):eA (out++[t]) out.length=szL out+szT t:=by
 unfold eA
 rw[ends_snoc,List.getD_eq_getElem?_getD,Int.toNat_natCast,List.getElem?_append_right (by rw[ends_len];omega),ends_len]
 simp
theorem offL_app (E:List Int):∀(p q:List (Int×Int)) (l:List Tq),offL E (p++q) l=offL E q (offL E p l)
 |[],q,l=>rfl
 |x::p,q,l=>by rw[List.cons_append,offL,offL,offL_app E p q]
theorem getD_app {α:Type} (l m:List α) (i:Nat) (d:α) (h:i < l.length):(l++m).getD i d=l.getD i d:=by
 rw[List.getD_eq_getElem?_getD,List.getElem?_append_left h,←List.getD_eq_getElem?_getD]
theorem offL_snoc (E E':List Int):∀(pr:List (Int×Int)) (l:List Tq) (t:Tq),(∀p∈pr,p.1.toNat < l.length∧E'.getD p.1.toNat 0=E.getD p.1.toNat 0∧E'.getD p.2.toNat 0=E.getD p.2.toNat 0)→offL E' pr (l++[t])=offL E pr l++[t]
 |[],l,t,h=>rfl
 |p::r,l,t,h=>by
  obtain ⟨h1,h2,h3⟩:=h p List.mem_cons_self
  rw[offL,offL,h2,h3,getD_app l _ _ _ h1,List.set_append_left _ _ h1]
  exact offL_snoc E E' r _ t (fun q hq=>by
   have:=h q (List.mem_cons_of_mem _ hq)
   rwa [List.length_set])
theorem FlG.tks {out:List Tq} {f:Fw} (h:FlG out f) (t:Tq):offL (endsF 0 (out++[t])) f.pr (out++[t])=offL (endsF 0 out) f.pr out++[t]:=by
 refine offL_snoc _ _ _ _ _ (fun p hp=> ?_)
 obtain ⟨a,_,b⟩:=h.pr p hp
 refine ⟨?_,eA_old a,eA_old b⟩
 unfold inR at a
 omega
theorem map_same {α β:Type} {f g:α→β} (l:List α) (h:∀x∈l,f x=g x):l.map f=l.map g:=List.map_congr_left h
theorem FlG.rst {out:List Tq} {f:Fw} (h:FlG out f) (t:Tq):rstF (out++[t]) f=lay1 (rstF out f) t:=by
 unfold rstF lay1
 simp only[Rst.mk.injEq]
 refine ⟨h.tks t,szL_snoc _ _, ?_, ?_, ?_, ?_⟩
 ·exact map_same _ (fun i hi=>by unfold brA;rw[eA_old (h.og i hi).1])
 ·exact map_same _ (fun i hi=>eA_old (h.ds i hi))
 ·exact map_same _ (fun i hi=>by rw[eA_old (h.lp i hi).1])
 ·refine map_same _ (fun x hx=> ?_)
  obtain ⟨h1,h2⟩:=h.cs x hx
  unfold csA
  have e1:x.2.map (brA (out++[t]))=x.2.map (brA out):=map_same _ (fun i hi=>by unfold brA;rw[eA_old (h2 i hi).1])
  rw[e1]
  rcases h1 with h1|h1
  ·rw[h1];rfl
  ·rw[eA_old h1.1]
theorem off_len (out:List Tq) (f:Fw):(rstF out f).tk.length=out.length:=offL_len _ _ _
theorem brn_is (out:List Tq) (f:Fw) (c:Int):brn (rstF out f) c=brA (out++[cdT c]) out.length:=by
 unfold brn brA
 rw[off_len,eA_new]
 rfl
theorem led_pair (E:List Int) (l:List Tq) (a b:Int) (q:List (Int×Int)):offL E ((a,b)::q) l=offL E q (led1 (E.getD b.toNat 0) l (a,E.getD a.toNat 0 - 2)):=rfl
theorem led_pairs (out:List Tq) (n:Int):∀(l:List Int) (tk:List Tq),offL (endsF 0 out) (l.map (fun i=>(i,n))) tk=ledL (eA out n) tk (l.map (brA out))
 |[],tk=>rfl
 |i::l,tk=>by
  rw[List.map_cons,List.map_cons,led_pair,led_pairs out n l]
  rfl
theorem getLast_map {α β:Type} (f:α→β) (l:List α):(l.map f).getLast? =l.getLast?.map f:=by
 rw[List.getLast?_map]
theorem dropLast_map {α β:Type} (f:α→β) (l:List α):(l.map f).dropLast=l.dropLast.map f:=by
 rw[List.map_dropLast]
theorem lstW_some {l:List Int} {x:Int} (h:l.getLast? =some x):lstW l=some (l.dropLast,x):=by unfold lstW;rw[h]
theorem lstW_none {l:List Int} (h:l.getLast? =none):lstW l=none:=by unfold lstW;rw[h]
theorem last_mem {α:Type} {l:List α} {x:α} (h:l.getLast? =some x):x∈l:=List.mem_of_getLast? h
theorem drop_mem {α:Type} {l:List α} {x:α} (h:x∈l.dropLast):x∈l:=List.dropLast_subset _ h
section
variable {out:List Tq} {f:Fw} (h:FlG out f)
include h
theorem FlG.a1:actR (rstF out f) 1=(flwF f 20 out.length false).map (fun f'=>rstF (out++[cdT 20]) f'):=by
 have e:flwF f 20 out.length false=some {f with og:=f.og++[(out.length:Int)]}:=by unfold flwF;simp
 rw[e,Option.map_some]
 unfold actR
 rw[if_pos rfl,←h.rst,brn_is]
 have hb:(rstF out f).ah=(rstF (out++[cdT 20]) f).ah:=by rw[h.rst];rfl
 rw[hb]
 unfold rstF
 simp
theorem FlG.a2:actR (rstF out f) 2=(flwF f 19 out.length false).map (fun f'=>rstF (out++[cdT 19]) f'):=by
 have e:flwF f 19 out.length false=(lstW f.og).map fun x=>{f with og:=x.1++[(out.length:Int),x.2]}:=by unfold flwF;simp
 rw[e]
 unfold actR
 rw[if_neg (by decide),if_pos rfl]
 have hb:(rstF out f).ah=(rstF (out++[cdT 19]) f).ah:=by rw[h.rst];rfl
 rw[hb,brn_is,←h.rst]
 have hl:(rstF (out++[cdT 19]) f).ah=f.og.map (brA (out++[cdT 19])):=rfl
 rw[hl,getLast_map]
 rcases q:f.og.getLast? with _|i
 ·rw[lstW_none q];rfl
 ·rw[lstW_some q]
  simp only[Option.map_some,dropLast_map]
  unfold rstF
  simp
theorem FlG.a3:actR (rstF out f) 3=(flwF f 178 out.length false).map (fun f'=>rstF (out++[cdT 178]) f'):=by
 have e:flwF f 178 out.length false=(lstW f.og).map fun x=>{f with og:=x.1,pr:=f.pr++[(x.2,(out.length:Int))]}:=by unfold flwF;simp
 rw[e]
 unfold actR
 rw[if_neg (by decide),if_neg (by decide),if_pos rfl]
 have hb:(rstF out f).ah=(rstF (out++[cdT 178]) f).ah:=by rw[h.rst];rfl
 have hl:(rstF (out++[cdT 178]) f).ah=f.og.map (brA (out++[cdT 178])):=rfl
 have hz:(rstF out f).sz+szT (cdT 178)=eA (out++[cdT 178]) out.length:=(eA_new _ _).symm
 have hy:∀A,lay1 {(rstF out f) with ah:=A} (cdT 178)={rstF (out++[cdT 178]) f with ah:=A}:=fun A=>by rw[h.rst];rfl
 rw[hb,hl,hz,getLast_map]
 rcases q:f.og.getLast? with _|i
 ·rw[lstW_none q];rfl
 ·rw[lstW_some q]
  simp only[Option.map_some,dropLast_map,hy]
  unfold rstF led
  simp only[offL_app]
  rfl
theorem FlG.a4:actR (rstF out f) 4=(flwF f 177 out.length false).map (fun f'=>rstF (out++[cdT 177]) f'):=by
 have e:flwF f 177 out.length false=some {f with ds:=f.ds++[(out.length:Int)]}:=by unfold flwF;simp
 rw[e,Option.map_some]
 unfold actR
 rw[if_neg (by decide),if_neg (by decide),if_neg (by decide),if_pos rfl,←h.rst]
 have hz:(rstF out f).sz+szT (cdT 177)=eA (out++[cdT 177]) out.length:=(eA_new _ _).symm
 have hb:(rstF out f).bk=(rstF (out++[cdT 177]) f).bk:=by rw[h.rst];rfl
 rw[hb,hz]
 unfold rstF
 simp
theorem FlG.a56 (c:Int) (hc:c=19∨c=20):(match (rstF out f).bk.getLast? with
  |none=>none
  |some to=>some (led (lay1 {(rstF out f) with bk:=(rstF out f).bk.dropLast} (cdT c)) to [brn (rstF out f) c]))=(flwF f c out.length true).map (fun f'=>rstF (out++[cdT c]) f'):=by
 have e:flwF f c out.length true=(lstW f.ds).map fun x=>{f with ds:=x.1,pr:=f.pr++[((out.length:Int),x.2)]}:=by unfold flwF;rcases hc with rfl|rfl <;> simp
 rw[e]
 have hb:(rstF out f).bk=(rstF (out++[cdT c]) f).bk:=by rw[h.rst];rfl
 have hl:(rstF (out++[cdT c]) f).bk=f.ds.map (eA (out++[cdT c])):=rfl
 have hy:∀A,lay1 {(rstF out f) with bk:=A} (cdT c)={rstF (out++[cdT c]) f with bk:=A}:=fun A=>by rw[h.rst];rfl
 rw[hb,hl,brn_is,getLast_map]
 rcases q:f.ds.getLast? with _|i
 ·rw[lstW_none q];rfl
 ·rw[lstW_some q]
  simp only[Option.map_some,dropLast_map,hy]
  unfold rstF led
  simp only[offL_app]
  rfl
theorem FlG.a78 (c:Int) (hc:c=23∨c=24):some {lay1 (rstF out f) (cdT c) with lp:=(rstF out f).lp++[((brn (rstF out f) c).1,(brn (rstF out f) c).2,(rstF out f).sz+szT (cdT c))]}=(flwF f c out.length false).map (fun f'=>rstF (out++[cdT c]) f'):=by
 have e:flwF f c out.length false=some {f with lp:=f.lp++[(out.length:Int)]}:=by unfold flwF;rcases hc with rfl|rfl <;> simp
 rw[e,Option.map_some,←h.rst,brn_is]
 have hz:(rstF out f).sz+szT (cdT c)=eA (out++[cdT c]) out.length:=(eA_new _ _).symm
 have hb:(rstF out f).lp=(rstF (out++[cdT c]) f).lp:=by rw[h.rst];rfl
 rw[hb,hz]
 unfold rstF brA
 simp
theorem FlG.a9T (c:Int) (hc:c=21∨c=22):(match (rstF out f).lp.getLast? with
  |none=>none
  |some l=>some (led (led (lay1 {(rstF out f) with lp:=(rstF out f).lp.dropLast} (cdT c)) l.2.2 [brn (rstF out f) c]) ((rstF out f).sz+szT (cdT c)) [(l.1,l.2.1)]))=(flwF f c out.length false).map (fun f'=>rstF (out++[cdT c]) f'):=by
 have e:flwF f c out.length false=(lstW f.lp).map fun x=>{f with lp:=x.1,pr:=f.pr++[((out.length:Int),x.2),(x.2,(out.length:Int))]}:=by unfold flwF;rcases hc with rfl|rfl <;> simp
 rw[e]
 have hb:(rstF out f).lp=(rstF (out++[cdT c]) f).lp:=by rw[h.rst];rfl
 have hl:(rstF (out++[cdT c]) f).lp=f.lp.map (fun i=>(i,eA (out++[cdT c]) i - 2,eA (out++[cdT c]) i)):=rfl
 have hz:(rstF out f).sz+szT (cdT c)=eA (out++[cdT c]) out.length:=(eA_new _ _).symm
 have hy:∀A,lay1 {(rstF out f) with lp:=A} (cdT c)={rstF (out++[cdT c]) f with lp:=A}:=fun A=>by rw[h.rst];rfl
 rw[hb,hl,hz,brn_is,getLast_map]
 rcases q:f.lp.getLast? with _|i
 ·rw[lstW_none q];rfl
 ·rw[lstW_some q]
  simp only[Option.map_some,dropLast_map,hy]
  unfold rstF led
  simp only[offL_app]
  rfl
theorem FlG.a11:actR (rstF out f) 11=(flwF f 27 out.length false).map (fun f'=>rstF (out++[cdT 27]) f'):=by
 have e:flwF f 27 out.length false=if f.lp=[] then none else some f:=by unfold flwF;simp
 rw[e]
 unfold actR
 rw[if_neg (by decide),if_neg (by decide),if_neg (by decide),if_neg (by decide),if_neg (by decide),if_neg (by decide),if_neg (by decide),if_neg (by decide),if_neg (by decide),if_neg (by decide),if_pos rfl]
 have hl:(rstF out f).lp=f.lp.map (fun i=>(i,eA out i - 2,eA out i)):=rfl
 rw[hl,getLast_map]
 by_cases c:f.lp=[]
 ·rw[if_pos c,c];rfl
 ·rw[if_neg c,List.getLast?_eq_some_getLast c]
  simp only[Option.map_some]
  rw[h.rst]
theorem FlG.a12:actR (rstF out f) 12=(flwF f 196 out.length false).map (fun f'=>rstF (out++[cdT 196]) f'):=by
 have e:flwF f 196 out.length false=some {f with cs:=f.cs++[(-1,[])]}:=by unfold flwF;simp
 rw[e,Option.map_some]
 unfold actR
 rw[if_neg (by decide),if_neg (by decide),if_neg (by decide),if_neg (by decide),if_neg (by decide),if_neg (by decide),if_neg (by decide),if_neg (by decide),if_neg (by decide),if_neg (by decide),if_neg (by decide),if_pos rfl,←h.rst]
 have hb:(rstF out f).cs=(rstF (out++[cdT 196]) f).cs:=by rw[h.rst];rfl
 rw[hb]
 unfold rstF csA
 simp
theorem FlG.aC (a c:Int) (hc:a=13∧c=28∨a=14∧c=198∨a=15∧c=197):actR (rstF out f) a=(flwF f c out.length false).map (fun f'=>rstF (out++[cdT c]) f'):=by
 have e:flwF f c out.length false=(match f.cs.getLast? with
  |none=>none
  |some x=>
   if decide (x.1= -1)=decide (c=198) then none
   else if c=28 then some {f with cs:=f.cs.dropLast++[((out.length:Int),x.2)]}
   else if c=198 then some {f with cs:=f.cs.dropLast++[(-1,x.2++[(out.length:Int)])],pr:=f.pr++[(x.1,(out.length:Int))]}
   else some {f with cs:=f.cs.dropLast,pr:=f.pr++x.2.map (fun i=>(i,(out.length:Int)))}):=by
  rcases hc with ⟨_,rfl⟩|⟨_,rfl⟩|⟨_,rfl⟩ <;> (unfold flwF;iterate 9 rw[if_neg (by decide)]) <;> (cases f.cs.getLast? <;> rfl)
 rw[e]
 unfold actR
 rw[if_neg (by omega),if_neg (by omega),if_neg (by omega),if_neg (by omega),if_neg (by omega),if_neg (by omega),if_neg (by omega),if_neg (by omega),if_neg (by omega),if_neg (by omega),if_neg (by omega),if_neg (by omega)]
 have hb:(rstF out f).cs=(rstF (out++[cdT c]) f).cs:=by rw[h.rst];rfl
 have hl:(rstF (out++[cdT c]) f).cs=f.cs.map (csA (out++[cdT c])):=rfl
 have hz:(rstF out f).sz+szT (cdT c)=eA (out++[cdT c]) out.length:=(eA_new _ _).symm
 have hy:∀A,lay1 {(rstF out f) with cs:=A} (cdT c)={rstF (out++[cdT c]) f with cs:=A}:=fun A=>by rw[h.rst];rfl
 have hbr:=brn_is out f c
 have hn1:¬(out.length:Int)= -1:=by omega
 rw[hb,hl,getLast_map]
 rcases q:f.cs.getLast? with _|x
 ·rfl
 ·simp only[Option.map_some,dropLast_map]
  rcases hc with ⟨rfl,rfl⟩|⟨rfl,rfl⟩|⟨rfl,rfl⟩
  ·by_cases hx:x.1= -1
   ·rw[if_neg (by unfold csA;simp[hx]),if_pos rfl,if_neg (by simp[hx]),if_pos rfl,hbr,←h.rst]
    unfold rstF csA brA
    simp[hn1]
   ·rw[if_pos (by unfold csA;simp[hx]),if_pos (by simp[hx])];rfl
  ·by_cases hx:x.1= -1
   ·rw[if_pos (by unfold csA;simp[hx]),if_pos (by simp[hx])];rfl
   ·rw[if_neg (by unfold csA;simp[hx]),if_neg (by decide),if_pos rfl,if_neg (by simp[hx]),if_neg (by decide),if_pos rfl,hbr,hz,←h.rst]
    unfold rstF led
    simp only[offL_app,Option.map_some]
    unfold csA
    simp[hx]
    rfl
  ·by_cases hx:x.1= -1
   ·rw[if_neg (by unfold csA;simp[hx]),if_neg (by decide),if_neg (by decide),if_neg (by simp[hx]),if_neg (by decide),if_neg (by decide),hz,hy]
    unfold rstF led
    simp only[offL_app,led_pairs,Option.map_some]
    rfl
   ·rw[if_pos (by unfold csA;simp[hx]),if_pos (by simp[hx])];rfl
theorem FlG.act (a:Int) (ha:1≤a∧a≤15):
  actR (rstF out f) a=(flwF f (actC a).1 out.length (actC a).2).map (fun f'=>rstF (out++[cdT (actC a).1]) f'):=by
 have hc:a=1∨a=2∨a=3∨a=4∨a=5∨a=6∨a=7∨a=8∨a=9∨a=10∨a=11∨a=12∨a=13∨a=14∨a=15:=by omega
 rcases hc with rfl|rfl|rfl|rfl|rfl|rfl|rfl|rfl|rfl|rfl|rfl|rfl|rfl|rfl|rfl
 ·exact h.a1
 ·exact h.a2
 ·exact h.a3
 ·exact h.a4
 ·exact h.a56 19 (Or.inl rfl)
 ·exact h.a56 20 (Or.inr rfl)
 ·exact h.a78 23 (Or.inl rfl)
 ·exact h.a78 24 (Or.inr rfl)
 ·exact h.a9T 21 (Or.inl rfl)
 ·exact h.a9T 22 (Or.inr rfl)
 ·exact h.a11
 ·exact h.a12
 ·exact h.aC 13 28 (by omega)
 ·exact h.aC 14 198 (by omega)
 ·exact h.aC 15 197 (by omega)
end
end Go.Proofs.YtkkehbdahniiaaaGreatDoor
