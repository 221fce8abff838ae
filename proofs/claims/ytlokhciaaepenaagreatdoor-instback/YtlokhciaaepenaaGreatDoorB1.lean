import Derived.ChangeArms
import Derived.Deep.RegionLaw
import Derived.Test.YtlokhciaaepenaaGreatDoorB0
set_option linter.unusedVariables false
set_option linter.unusedSimpArgs false
set_option maxRecDepth 100000
namespace Go.Proofs.YtlokhciaaepenaaGreatDoor
abbrev Wd:=List Int×Int×Int×Int×List Opd
instance decWd:DecidableEq Wd:=fun x y=>@instDecidableEqProd _ _ _ (@instDecidableEqProd _ _ _ (@instDecidableEqProd _ _ _ inferInstance)) x y
abbrev Iz:=Int×Int×List Int×List Int
structure Mc where
 stack:List Int
 mem:List Int
 words:List Wd
 codes:List Int
 base:Int
 tree:List Nd
 node:Int
 insts:List Iz
 self:Int
 out:List Int
def prmL:List (List Int×Int):=[([105],25),([106],26),([101,120,101,99,117,116,101],29),([43],30),([45],31),([42],32),([47],33),([109,111,100],34),([97,110,100],35),([111,114],36),([120,111,114],37),([105,110,118,101,114,116],38),([108,115,104,105,102,116],39),([114,115,104,105,102,116],40),([62,62,97],41),([47,109,111,100],42),([117,47,109,111,100],43),([110,101,103,97,116,101],44),([97,98,115],45),([109,105,110],46),([109,97,120],47),([62,114],48),([114,62],49),([114,64],50),([48,61],52),([48,60,62],53),([48,60],54),([48,60,61],55),([48,62],56),([48,62,61],57),([60],58),([62],59),([61],60),([60,62],61),([117,62],62),([117,60,61],63),([117,60],64),([117,62,61],65),([62,61],66),([60,61],67),([100,114,111,112],70),([100,117,112],71),([111,118,101,114],72),([115,119,97,112],73),([114,111,116],74),([45,114,111,116],75),([116,117,99,107],76),([110,105,112],77),([112,105,99,107],78),([114,111,108,108],79),([63,100,117,112],80),([100,101,112,116,104],81),([50,100,114,111,112],82),([50,100,117,112],83),([50,111,118,101,114],84),([50,115,119,97,112],85),([50,114,111,116],86),([50,47],87),([117,50,47],88),([50,42],89),([43,33],108),([64],109),([119,64],111),([99,64],113),([33],114),([119,33],116),([99,33],117),([109,111,118,101],120),([102,105,108,108],121),([99,111,109,112],122),([108,98,115,112,108,105,116],126),([98,108,106,111,105,110],127),([119,98,102,108,105,112],128),([117,112,99],129),([108,99,99],130),([117,110,108,111,111,112],137),([97,108,108,111,99,45,109,101,109],139),([101,109,105,116],143),([116,121,112,101],144),([99,114],146),([117,46],155),([46],157),([98,97,115,101,33],160),([45,49],164),([48],165),([49],166),([50],167),([51],168),([98,108],169),([104,101,114,101],173),([117,109,42],212),([117,109,47,109,111,100],213),([100,43],216),([100,45],217),([112,114,111,112,101,114,116,121],272),([101,110,99,111,100,101,45,105,110,116],273),([101,110,99,111,100,101,43],274),([101,110,99,111,100,101,45,115,116,114,105,110,103],276),([110,101,119,45,100,101,118,105,99,101],287),([102,105,110,105,115,104,45,100,101,118,105,99,101],295),([115,109,47,114,101,109],469),([109,121,45,115,101,108,102],515),([109,121,45,112,97,114,101,110,116],522),([36,99,97,108,108,45,109,101,116,104,111,100],526),([99,97,116,99,104],535),([116,104,114,111,119],536),([103,101,116,45,109,121,45,112,114,111,112,101,114,116,121],538),([100,101,99,111,100,101,45,105,110,116],539),([100,101,99,111,100,101,45,115,116,114,105,110,103],540),([100,101,108,101,116,101,45,112,114,111,112,101,114,116,121],542),([102,109,47,109,111,100],725)]
def okC (c:Int):Bool:=decide (33≤c∧c≤126∧¬(65≤c∧c≤90))
def namF (s:List Int):Bool:=s.all okC&&decide (1≤s.length∧s.length≤31)
def okO (len:Nat) (words:Int) (x:Opd):Bool:=decide (x.1=1∨(x.1=2∨x.1=13)∧x.2 < words∨(x.1=11∨x.1=12)∧x.2=0∨3≤x.1∧x.1≤10∧x.2≤len)
def sndF (l:List Opd) (words:Int):Bool:=decide (l.length≤256)&&l.all (okO l.length words)
def wofF (w:Wd) (words:Int) (t:List Nd):Bool:=
 decide (2≤w.2.2.1∧w.2.2.1≤7)&&((decide (w.1=[])||namF w.1)&&(decide (-1≤w.2.1∧w.2.1 < t.length)&&
 (if w.2.2.1=2 then decide (w.2.2.2.1=0)&&sndF w.2.2.2.2 words
  else decide (w.2.2.1=6→w.2.2.2.1 < words)&&(decide (w.2.2.1=7→0≤w.2.1∧w.2.2.2.1 < (t.getD w.2.1.toNat ([],[],0,[],[])).2.2.2.2.length)&&decide (w.2.2.2.2=[])))))
def alvF (l:List Iz) (n:Int):Bool:=decide (0≤n∧n < l.length)&&decide (0≤(l.getD n.toNat (-1, -1,[],[])).1)
def okI (l:List Iz) (t:List Nd) (x:Iz):Bool:=
 if x.1= -1 then decide (x=(-1, -1,[],[]))
 else decide (0≤x.1∧x.1 < t.length)&&(decide (x.2.2.2.length=(t.getD x.1.toNat ([],[],0,[],[])).2.2.2.2.length)&&(decide (x.2.2.1.length≤256)&&(decide (¬(47:Int)∈x.2.2.1)&&(decide (x.2.1= -1)||alvF l x.2.1))))
def chnF (l:List Iz):Nat→Int→Bool
 |0,a=>decide (a < 0)
 |f+1,a=>decide (a < 0)||chnF l f (l.getD a.toNat (-1, -1,[],[])).2.1
def insF (l:List Iz) (t:List Nd):Bool:=decide (l.length≤16)&&(l.all (okI l t)&&l.all (fun x=>chnF l 17 x.2.1))
def prmW (p:List Int×Int):Wd:=(p.1, -1,1,p.2,[])
def wdsF (ws:List Wd) (t:List Nd):Bool:=decide (111≤ws.length∧ws.length≤640)&&(decide (ws.take 111=prmL.map prmW)&&(ws.drop 111).all (fun w=>wofF w ws.length t))
def cdsF (c:List Int) (n:Nat):Bool:=decide (c.length≤2048)&&c.all (fun x=>decide (-1≤x∧x < n))
def frmM (m:Mc):Bool:=
 decide (m.stack.length≤64∧m.mem.length≤4096∧2≤m.base∧m.base≤36∧m.out.length≤1024)&&(frmT m.tree&&(decide (-1≤m.node∧m.node < m.tree.length)&&(insF m.insts m.tree&&((decide (m.self= -1)||alvF m.insts m.self)&&(wdsF m.words m.tree&&cdsF m.codes m.words.length)))))
def lstF {α:Type} (p:α→Bool):List α→Option Nat
 |[]=>none
 |x::r=>match lstF p r with
  |some k=>some (k+1)
  |none=>if p x then some 0 else none
theorem lst_snoc {α:Type} (p:α→Bool) (x:α):∀l:List α,lstF p (l++[x])=if p x=true then some l.length else lstF p l
 |[]=>by simp[lstF]
 |y::r=>by
  simp only[List.cons_append,lstF,lst_snoc p x r]
  by_cases h:p x=true
  ·simp[h]
  ·simp only[h]
   cases lstF p r <;> simp
def mthF (ws:List Wd) (n:Int) (nm:List Int):Option Nat:=if nm=[]∨n < 0 then none else lstF (fun w=>decide (w.1=nm)&&decide (w.2.1=n)) ws
def newM:Mc:={stack:=[],mem:=[],words:=prmL.map prmW,codes:=[],base:=16,tree:=[([],[], -1,[],[])],node:= -1,insts:=[],self:= -1,out:=[]}
theorem prm_len:prmL.length=111:=by decide+kernel
theorem frm_parts {m:Mc} (h:frmM m=true):m.stack.length≤64∧m.mem.length≤4096∧m.out.length≤1024∧frmT m.tree=true∧insF m.insts m.tree=true∧wdsF m.words m.tree=true∧cdsF m.codes m.words.length=true:=by
 unfold frmM at h
 simp only[Bool.and_eq_true,decide_eq_true_eq] at h
 exact ⟨h.1.1,h.1.2.1,h.1.2.2.2.2,h.2.1,h.2.2.2.1,h.2.2.2.2.2.1,h.2.2.2.2.2.2⟩
def matN (a:Int) (nm un:List Int) (x:Nd):Bool:=decide (x.2.2.1=a)&&(decide (x.1=nm)&&(decide (un=[])||decide (x.2.1=un)))
def ldF (t:List Nd) (a:Nat) (x:Sp):Option Nat:=t.findIdx? (matN a x.1 x.2.1)
def finF (t:List Nd):List Sp→Nat→Option Nat
 |[],a=>some a
 |x::r,a=>match ldF t a x with
  |none=>none
  |some k=>finF t r k
def finT (t:List Nd) (l:List Sp):Int×Int:=if frmT t=false then (0,1) else match finF t l 0 with
 |none=>(0,19)
 |some k=>((k:Nat),0)
def stF (t:List Nd):Nat→Nat→List Sp
 |0,_=>[]
 |f+1,n=>if n=0 then [] else match t[n]? with
  |none=>[]
  |some x=>stF t f x.2.2.1.toNat++[(x.1,x.2.1,[])]
def emI:Iz:=(-1, -1,[],[])
abbrev Sto:=Int×List Int
def cel (t:List Nd) (n:Int):List Int:=(t.getD n.toNat ([],[],0,[],[])).2.2.2.2
def freI (l:List Iz):Option Nat:=l.findIdx? (fun x=>decide (x.1= -1))
def addI (l:List Iz) (x:Iz):Option (List Iz×Nat):=match freI l with
 |some i=>some (l.set i x,i)
 |none=>if l.length=16 then none else some (l++[x],l.length)
def hdI:List Nat→Int
 |[]=> -1
 |i::_=>i
def opnS (t:List Nd) (l:List Iz):List Sto→Option (List Iz×List Nat)
 |[]=>some (l,[])
 |s::r=>match opnS t l r with
  |none=>none
  |some (l1,ch)=>match addI l1 (s.1,hdI ch,s.2,cel t s.1) with
   |none=>none
   |some (l2,k)=>some (l2,k::ch)
theorem opnS_none (t:List Nd) (l:List Iz) (r:List Sto) (h:opnS t l r=none):∀a:List Sto,opnS t l (a++r)=none
 |[]=>h
 |s::a=>by simp only[List.cons_append,opnS,opnS_none t l r h a]
theorem opnS_cons {t:List Nd} {l l1:List Iz} {ch:List Nat} {r:List Sto} (h:opnS t l r=some (l1,ch)) (s:Sto):opnS t l (s::r)=match addI l1 (s.1,hdI ch,s.2,cel t s.1) with|none=>none|some (l2,k)=>some (l2,k::ch):=by
 simp only[opnS,h]
def cntA:List Iz→Nat
 |[]=>0
 |x::l=>(if x.1= -1 then 0 else 1)+cntA l
theorem cntA_le:∀l:List Iz,cntA l≤l.length
 |[]=>Nat.le_refl _
 |x::l=>by
  have:=cntA_le l
  simp only[cntA,List.length_cons]
  split <;> omega
theorem cntA_set:∀(l:List Iz) (i:Nat) (x:Iz) (h:i < l.length),l[i].1= -1→¬x.1= -1→cntA (l.set i x)=cntA l+1
 |[],i,x,h,_,_=>by simp at h
 |y::l,0,x,h,hy,hx=>by
  simp only[List.getElem_cons_zero] at hy
  simp only[List.set_cons_zero,cntA,hy,hx,if_true,if_false]
  omega
 |y::l,i+1,x,h,hy,hx=>by
  have ih:=cntA_set l i x (by simpa using h) (by simpa using hy) hx
  simp only[List.set_cons_succ,cntA,ih]
  omega
theorem cntA_snoc:∀(l:List Iz) (x:Iz),¬x.1= -1→cntA (l++[x])=cntA l+1
 |[],x,hx=>by simp[cntA,hx]
 |y::l,x,hx=>by
  have ih:=cntA_snoc l x hx
  simp only[List.cons_append,cntA,ih]
  omega
structure Chn (t:List Nd) (l:List Iz) (S:List Sto) (l':List Iz) (ch:List Nat):Prop where
 len:ch.length=S.length
 ge:l.length≤l'.length
 le:l'.length≤16
 cnt:ch.length≤cntA l'
 nd:ch.Nodup
 inb:∀i∈ch,i < l'.length∧∀x,l[i]? =some x→x.1= -1
 out:∀i,i < l'.length→i ∉ ch→i < l.length∧l'[i]? =l[i]?
 lnk:∀j (h:j < ch.length) (h2:j < S.length),l'[ch[j]]? =some (S[j].1,hdI (ch.drop (j+1)),S[j].2,cel t S[j].1)
theorem add_free {l l2:List Iz} {x:Iz} {k:Nat} (h:addI l x=some (l2,k)) (hl:l.length≤16):
  (∃y,l[k]? =some y∧y.1= -1∧l2=l.set k x)∨(k=l.length∧l2=l++[x]∧l.length < 16):=by
 unfold addI freI at h
 cases hf:l.findIdx? (fun x=>decide (x.1= -1)) with
 |some i=>
  rw[hf] at h
  simp only[Option.some.injEq,Prod.mk.injEq] at h
  obtain ⟨rfl,rfl⟩:=h
  rw[List.findIdx?_eq_some_iff_getElem] at hf
  obtain ⟨h1,h2,_⟩:=hf
  exact Or.inl ⟨l[i],List.getElem?_eq_getElem h1,by simpa using h2,rfl⟩
 |none=>
  rw[hf] at h
  simp only at h
  split at h
  ·cases h
  ·rename_i hn
   simp only[Option.some.injEq,Prod.mk.injEq] at h
   obtain ⟨rfl,rfl⟩:=h
   exact Or.inr ⟨rfl,rfl,by omega⟩
theorem opn_chn (t:List Nd) (l:List Iz) (hl:l.length≤16):∀(S:List Sto) (l':List Iz) (ch:List Nat),(∀s∈S,0≤s.1)→opnS t l S=some (l',ch)→Chn t l S l' ch
 |[],l',ch,_,h=>by
  simp only[opnS,Option.some.injEq,Prod.mk.injEq] at h
  obtain ⟨rfl,rfl⟩:=h
  exact ⟨rfl,Nat.le_refl _,hl,by simp,List.nodup_nil,fun i hi=>by simp at hi,fun i hi _=>⟨hi,rfl⟩,fun j h=>by simp at h⟩
 |s::r,l',ch,hs,h=>by
  cases ho:opnS t l r with
  |none=>simp only[opnS,ho] at h;cases h
  |some q=>
   obtain ⟨l1,c1⟩:=q
   have ih:=opn_chn t l hl r l1 c1 (fun x hx=>hs x (by simp[hx])) ho
   rw[opnS_cons ho] at h
   cases ha:addI l1 (s.1,hdI c1,s.2,cel t s.1) with
   |none=>rw[ha] at h;cases h
   |some q=>
    obtain ⟨l2,k⟩:=q
    rw[ha] at h
    simp only[Option.some.injEq,Prod.mk.injEq] at h
    obtain ⟨rfl,rfl⟩:=h
    have hs0:¬s.1= -1:=by have:=hs s (by simp);omega
    have hr0:∀j (h:j < r.length),¬r[j].1= -1:=fun j h=>by have:=hs r[j] (by simp);omega
    have hfr:∀i∈c1,∀y,l1[i]? =some y→¬y.1= -1:=by
     intro i hi y hy
     obtain ⟨j,hj,rfl⟩:=List.getElem_of_mem hi
     have h2:j < r.length:=by rw[←ih.len];exact hj
     rw[ih.lnk j hj h2] at hy
     injection hy with hy
     rw[←hy]
     exact hr0 j h2
    rcases add_free ha ih.le with ⟨y,hy,hy1,rfl⟩|⟨rfl,rfl,hlt⟩
    ·have hk:k < l1.length:=(List.getElem?_eq_some_iff.1 hy).1
     have hky:l1[k]=y:=(List.getElem?_eq_some_iff.1 hy).2
     have hkn:k ∉ c1:=fun hm=>hfr k hm y hy hy1
     refine ⟨by simp[ih.len],by simpa using ih.ge,by simpa using ih.le, ?_,List.nodup_cons.2 ⟨hkn,ih.nd⟩, ?_, ?_, ?_⟩
     ·rw[cntA_set l1 k _ hk (by rw[hky];exact hy1) hs0]
      have:=ih.cnt
      simp only[List.length_cons]
      omega
     ·intro i hi
      rcases List.mem_cons.1 hi with rfl|hi
      ·refine ⟨by simpa using hk,fun x hx=> ?_⟩
       obtain ⟨_,h2⟩:=ih.out i hk hkn
       rw[←h2,hy] at hx
       injection hx with hx
       rw[←hx]
       exact hy1
      ·obtain ⟨h1,h2⟩:=ih.inb i hi
       exact ⟨by simpa using h1,h2⟩
     ·intro i hi hn
      rw[List.length_set] at hi
      rw[List.mem_cons,not_or] at hn
      obtain ⟨h1,h2⟩:=ih.out i hi hn.2
      refine ⟨h1, ?_⟩
      rw[List.getElem?_set_ne (fun z=>hn.1 z.symm)]
      exact h2
     ·intro j h h2
      cases j with
      |zero=>
       simp only[List.getElem_cons_zero,List.drop_succ_cons,List.drop_zero]
       rw[List.getElem?_set_self hk]
      |succ j=>
       have hj:j < c1.length:=by simpa using h
       have hj2:j < r.length:=by simpa using h2
       simp only[List.getElem_cons_succ,List.drop_succ_cons]
       have hne:¬k=c1[j]:=fun z=>hkn (z ▸ List.getElem_mem hj)
       rw[List.getElem?_set_ne hne]
       exact ih.lnk j hj hj2
    ·have hkn:l1.length ∉ c1:=fun hm=>by have:=(ih.inb _ hm).1;omega
     refine ⟨by simp[ih.len],by have:=ih.ge;simp;omega,by simp;omega, ?_,List.nodup_cons.2 ⟨hkn,ih.nd⟩, ?_, ?_, ?_⟩
     ·rw[cntA_snoc l1 _ hs0]
      have:=ih.cnt
      simp only[List.length_cons]
      omega
     ·intro i hi
      rcases List.mem_cons.1 hi with rfl|hi
      ·refine ⟨by simp,fun x hx=> ?_⟩
       have:=(List.getElem?_eq_some_iff.1 hx).1
       have:=ih.ge
       omega
      ·obtain ⟨h1,h2⟩:=ih.inb i hi
       exact ⟨by simp;omega,h2⟩
     ·intro i hi hn
      rw[List.mem_cons,not_or] at hn
      have hi2:i < l1.length:=by simp at hi;omega
      obtain ⟨h1,h2⟩:=ih.out i hi2 hn.2
      exact ⟨h1,by rw[List.getElem?_append_left hi2];exact h2⟩
     ·intro j h h2
      cases j with
      |zero=>
       simp only[List.getElem_cons_zero,List.drop_succ_cons,List.drop_zero]
       simp
      |succ j=>
       have hj:j < c1.length:=by simpa using h
       have hj2:j < r.length:=by simpa using h2
       simp only[List.getElem_cons_succ,List.drop_succ_cons]
       rw[List.getElem?_append_left (ih.inb _ (List.getElem_mem hj)).1]
       exact ih.lnk j hj hj2
theorem hd_drop (ch:List Nat) (j:Nat):(j < ch.length→hdI (ch.drop j)=(ch.getD j 0:Nat))∧(ch.length≤j→hdI (ch.drop j)= -1):=by
 constructor
 ·intro h
  rw[List.drop_eq_getElem_cons h]
  simp only[hdI]
  rw[List.getD_eq_getElem?_getD,List.getElem?_eq_getElem h]
  rfl
 ·intro h
  rw[List.drop_of_length_le h]
  rfl
theorem hd_at {ch:List Nat} {j:Nat} (h:j < ch.length):hdI (ch.drop j)=(ch[j]:Nat):=by
 rw[List.drop_eq_getElem_cons h]
 rfl
theorem getD_some {α:Type} {l:List α} {i:Nat} {x d:α} (h:l[i]? =some x):l.getD i d=x:=by rw[List.getD_eq_getElem?_getD,h];rfl
theorem chn_alive {t:List Nd} {l l':List Iz} {S:List Sto} {ch:List Nat} (c:Chn t l S l' ch) {n:Int} (h:alvF l n=true):alvF l' n=true∧l'[n.toNat]? =l[n.toNat]? ∧n.toNat ∉ ch:=by
 unfold alvF at h ⊢
 simp only[Bool.and_eq_true,decide_eq_true_eq] at h ⊢
 obtain ⟨⟨h0,h1⟩,h2⟩:=h
 have hn:n.toNat < l.length:=by omega
 rw[List.getD_eq_getElem?_getD,List.getElem?_eq_getElem hn] at h2
 simp only[Option.getD_some] at h2
 have hni:n.toNat ∉ ch:=fun hm=>by
  have:=(c.inb _ hm).2 l[n.toNat] (List.getElem?_eq_getElem hn)
  omega
 have hge:=c.ge
 obtain ⟨_,h4⟩:=c.out n.toNat (by omega) hni
 refine ⟨⟨⟨h0,by omega⟩, ?_⟩,h4,hni⟩
 rw[getD_some (h4.trans (List.getElem?_eq_getElem hn))]
 exact h2
def okSt (t:List Nd) (s:Sto):Prop:=0≤s.1∧s.1 < t.length∧s.2.length≤256∧¬(47:Int)∈s.2
theorem ins_parts {l:List Iz} {t:List Nd} (h:insF l t=true):l.length≤16∧(∀x∈l,okI l t x=true)∧∀x∈l,chnF l 17 x.2.1=true:=by
 unfold insF at h
 simp only[Bool.and_eq_true,decide_eq_true_eq,List.all_eq_true] at h
 exact ⟨h.1,h.2.1,h.2.2⟩
theorem okI_free {l:List Iz} {t:List Nd} {x:Iz} (h:okI l t x=true) (hx:x.1= -1):x=emI:=by
 unfold okI at h
 rw[if_pos hx] at h
 have:x=(-1, -1,[],[]):=by simpa using h
 exact this
theorem okI_parent {l:List Iz} {t:List Nd} {x:Iz} (h:okI l t x=true):x.2.1= -1∨(¬x.1= -1∧alvF l x.2.1=true):=by
 unfold okI at h
 split at h
 ·left
  have:x=(-1, -1,[],[]):=by simpa using h
  rw[this]
 ·rename_i hx
  simp only[Bool.and_eq_true,Bool.or_eq_true,decide_eq_true_eq] at h
  rcases h.2.2.2.2 with h|h
  ·exact Or.inl h
  ·exact Or.inr ⟨hx,h⟩
theorem chn_new {t:List Nd} {l l':List Iz} {S:List Sto} {ch:List Nat} (c:Chn t l S l' ch):∀(f j:Nat),ch.length≤f+j→chnF l' f (hdI (ch.drop j))=true
 |0,j,h=>by
  rw[(hd_drop ch j).2 (by omega)]
  rfl
 |f+1,j,h=>by
  by_cases hj:j < ch.length
  ·have h2:j < S.length:=by rw[←c.len];exact hj
   have e:=c.lnk j hj h2
   rw[hd_at hj]
   simp only[chnF,Int.toNat_natCast,getD_some e,Bool.or_eq_true]
   exact Or.inr (chn_new c f (j+1) (by omega))
  ·rw[(hd_drop ch j).2 (by omega)]
   rfl
theorem chn_old {t:List Nd} {l l':List Iz} {S:List Sto} {ch:List Nat} (c:Chn t l S l' ch) (hi:insF l t=true):∀(f:Nat) (a:Int),(a= -1∨alvF l a=true)→chnF l f a=true→chnF l' f a=true
 |0,a,h,hc=>hc
 |f+1,a,h,hc=>by
  obtain ⟨h1,h2,h3⟩:=ins_parts hi
  rcases h with rfl|h
  ·rfl
  ·obtain ⟨g1,g2,g3⟩:=chn_alive c h
   have hn:a.toNat < l.length:=by
    unfold alvF at h
    simp only[Bool.and_eq_true,decide_eq_true_eq] at h
    omega
   have ha:0≤a:=by
    unfold alvF at h
    simp only[Bool.and_eq_true,decide_eq_true_eq] at h
    omega
   have e:=List.getElem?_eq_getElem hn
   simp only[chnF,Bool.or_eq_true,decide_eq_true_eq] at hc ⊢
   rcases hc with hc|hc
   ·omega
   ·right
    rw[getD_some e] at hc
    rw[getD_some (g2.trans e)]
    refine chn_old c hi f _ ?_ hc
    rcases okI_parent (h2 _ (List.getElem_mem hn)) with h|⟨_,h⟩
    ·exact Or.inl h
    ·exact Or.inr h
theorem chn_formed {t:List Nd} {l l':List Iz} {S:List Sto} {ch:List Nat} (c:Chn t l S l' ch) (hi:insF l t=true) (hS:∀s∈S,okSt t s):insF l' t=true:=by
 obtain ⟨h1,h2,h3⟩:=ins_parts hi
 unfold insF
 simp only[Bool.and_eq_true,decide_eq_true_eq,List.all_eq_true]
 have key:∀x∈l',okI l' t x=true∧chnF l' 17 x.2.1=true:=by
  intro x hx
  obtain ⟨i,hil,rfl⟩:=List.getElem_of_mem hx
  by_cases hm:i∈ch
  ·obtain ⟨j,hj,rfl⟩:=List.getElem_of_mem hm
   have hj2:j < S.length:=by rw[←c.len];exact hj
   have e:=c.lnk j hj hj2
   rw[List.getElem?_eq_getElem hil] at e
   injection e with e
   rw[e]
   obtain ⟨o1,o2,o3,o4⟩:=hS S[j] (List.getElem_mem hj2)
   refine ⟨?_, ?_⟩
   ·unfold okI
    rw[if_neg (by simp only;omega)]
    simp only[Bool.and_eq_true,Bool.or_eq_true,decide_eq_true_eq]
    refine ⟨⟨o1,o2⟩,rfl,o3,o4, ?_⟩
    by_cases hj1:j+1 < ch.length
    ·right
     have hj3:j+1 < S.length:=by rw[←c.len];exact hj1
     have e2:=c.lnk (j+1) hj1 hj3
     rw[hd_at hj1]
     unfold alvF
     simp only[Bool.and_eq_true,decide_eq_true_eq,Int.toNat_natCast,getD_some e2]
     have:=(hS S[j+1] (List.getElem_mem hj3)).1
     have:=(c.inb _ (List.getElem_mem hj1)).1
     omega
    ·left
     exact (hd_drop ch (j+1)).2 (by omega)
   ·have:=c.cnt
    have:=cntA_le l'
    have:=c.le
    exact chn_new c 17 (j+1) (by omega)
  ·obtain ⟨g1,g2⟩:=c.out i hil hm
   rw[List.getElem?_eq_getElem hil,List.getElem?_eq_getElem g1] at g2
   injection g2 with g2
   rw[g2]
   have hok:=h2 l[i] (List.getElem_mem g1)
   have hp:=okI_parent hok
   refine ⟨?_,chn_old c hi 17 _ (hp.elim Or.inl (fun h=>Or.inr h.2)) (h3 _ (List.getElem_mem g1))⟩
   unfold okI at hok ⊢
   split at hok
   ·rename_i hx
    rw[if_pos hx]
    exact hok
   ·rename_i hx
    rw[if_neg hx]
    simp only[Bool.and_eq_true,Bool.or_eq_true,decide_eq_true_eq] at hok ⊢
    refine ⟨hok.1,hok.2.1,hok.2.2.1,hok.2.2.2.1, ?_⟩
    rcases hok.2.2.2.2 with h|h
    ·exact Or.inl h
    ·exact Or.inr (chn_alive c h).1
 exact ⟨c.le,fun x hx=>(key x hx).1,fun x hx=>(key x hx).2⟩
def relI (l:List Iz) (ch:List Nat) (j:Nat):List Iz:=(ch.take j).foldl (fun l i=>l.set i emI) l
theorem rel_succ (l:List Iz) (ch:List Nat) (j:Nat) (h:j < ch.length):relI l ch (j+1)=(relI l ch j).set ch[j] emI:=by
 unfold relI
 rw[List.take_succ_eq_append_getElem h,List.foldl_append]
 rfl
theorem rel_len (l:List Iz) (ch:List Nat):∀j,(relI l ch j).length=l.length
 |0=>rfl
 |j+1=>by
  by_cases h:j < ch.length
  ·rw[rel_succ l ch j h,List.length_set,rel_len l ch j]
  ·have e:ch.take (j+1)=ch.take j:=by rw[List.take_of_length_le (by omega),List.take_of_length_le (by omega)]
   have:relI l ch (j+1)=relI l ch j:=by unfold relI;rw[e]
   rw[this,rel_len l ch j]
theorem rel_at (l:List Iz) (ch:List Nat) (nd:ch.Nodup) (hb:∀i∈ch,i < l.length):∀j,j≤ch.length→∀i,(relI l ch j)[i]? =if i∈ch.take j then some emI else l[i]?
 |0,_,i=>by simp[relI]
 |j+1,h,i=>by
  have ih:=rel_at l ch nd hb j (by omega) i
  have hj:j < ch.length:=by omega
  rw[rel_succ l ch j hj,List.take_succ_eq_append_getElem hj]
  by_cases he:i=ch[j]
  ·subst he
   rw[List.getElem?_set_self (by rw[rel_len];exact hb _ (List.getElem_mem hj)),if_pos (List.mem_append.2 (Or.inr (List.mem_singleton.2 rfl)))]
  ·rw[List.getElem?_set_ne (fun z=>he z.symm),ih]
   by_cases hm:i∈ch.take j
   ·rw[if_pos hm,if_pos (List.mem_append.2 (Or.inl hm))]
   ·rw[if_neg hm,if_neg (fun z=>(List.mem_append.1 z).elim hm (fun y=>he (List.mem_singleton.1 y)))]
theorem rel_free {t:List Nd} {l l':List Iz} {S:List Sto} {ch:List Nat} (c:Chn t l S l' ch) (hi:insF l t=true) (j:Nat) (hj:j < ch.length):∀x∈relI l' ch j,¬x.2.1=(ch[j]:Nat):=by
 intro x hx
 obtain ⟨h1,h2,h3⟩:=ins_parts hi
 obtain ⟨i,hil,rfl⟩:=List.getElem_of_mem hx
 have hr:=rel_at l' ch c.nd (fun i hi=>(c.inb i hi).1) j (by omega) i
 rw[List.getElem?_eq_getElem hil] at hr
 have hil2:i < l'.length:=by rw[rel_len] at hil;exact hil
 by_cases hm:i∈ch.take j
 ·rw[if_pos hm] at hr
  injection hr with hr
  rw[hr]
  simp[emI]
 ·rw[if_neg hm] at hr
  by_cases hm2:i∈ch
  ·obtain ⟨k,hk,rfl⟩:=List.getElem_of_mem hm2
   have hk2:k < S.length:=by rw[←c.len];exact hk
   rw[c.lnk k hk hk2] at hr
   injection hr with hr
   rw[hr]
   simp only
   have hkj:j≤k:=by
    apply Nat.le_of_not_lt
    intro hlt
    exact hm (by rw[List.mem_take_iff_getElem];exact ⟨k,by omega,rfl⟩)
   by_cases hk1:k+1 < ch.length
   ·rw[hd_at hk1]
    intro z
    have hz:ch[k+1]=ch[j]:=by exact_mod_cast z
    have:=(List.getElem_inj c.nd).1 hz
    omega
   ·rw[(hd_drop ch (k+1)).2 (by omega)]
    omega
  ·obtain ⟨g1,g2⟩:=c.out i hil2 hm2
   rw[g2,List.getElem?_eq_getElem g1] at hr
   injection hr with hr
   rw[hr]
   rcases okI_parent (h2 _ (List.getElem_mem g1)) with h|⟨_,h⟩
   ·rw[h];omega
   ·intro z
    have:=(chn_alive c h).2.2
    rw[z,Int.toNat_natCast] at this
    exact this (List.getElem_mem hj)
theorem rel_all {t:List Nd} {l l':List Iz} {S:List Sto} {ch:List Nat} (c:Chn t l S l' ch) (hi:insF l t=true) (i:Nat) (hil:i < l'.length):(relI l' ch ch.length)[i]? =some ((l[i]?).getD emI):=by
 obtain ⟨h1,h2,h3⟩:=ins_parts hi
 rw[rel_at l' ch c.nd (fun i hi=>(c.inb i hi).1) ch.length (Nat.le_refl _) i,List.take_length]
 by_cases hm:i∈ch
 ·rw[if_pos hm]
  by_cases hl:i < l.length
  ·have h5:=(c.inb i hm).2 l[i] (List.getElem?_eq_getElem hl)
   rw[List.getElem?_eq_getElem hl,Option.getD_some,okI_free (h2 _ (List.getElem_mem hl)) h5]
  ·rw[List.getElem?_eq_none (by omega)]
   rfl
 ·rw[if_neg hm]
  obtain ⟨g1,g2⟩:=c.out i hil hm
  rw[g2,List.getElem?_eq_getElem g1]
  rfl
open Go.ChangeShapes Go.WideShapes Go.ChangeAt Go.RowKit
def SlC (sz:Nat) (w:World) (v:Value) (rows:List (List Value)):Prop:=
 (∃ao cap,v= .slice ao 0 cap∧(ao=none→cap=0)∧rows=[])∨
 ∃b off cap,v= .slice (some ⟨b,off,none⟩) rows.length cap∧0 < rows.length∧rows.length≤cap∧cap≤maxLen∧
  ∀i,i < rows.length→(rows.getD i []).length=sz∧∀j,j < sz→w.cell? ⟨b,off+i*sz+j,none⟩=(rows.getD i [])[j]?
theorem SlC.below {sz:Nat} {w w':World} {v:Value} {rows:List (List Value)} (h:SlC sz w v rows) (g:Below w.heap.size w w'):SlC sz w' v rows:=by
 rcases h with h|⟨b,off,cap,rfl,h0,h1,h2,hc⟩
 ·exact Or.inl h
 ·refine Or.inr ⟨b,off,cap,rfl,h0,h1,h2,fun i hi=>⟨(hc i hi).1,fun j hj=> ?_⟩⟩
  have hl:=(hc i hi).1
  have e:=(hc i hi).2 j hj
  rw[List.getElem?_eq_getElem (by omega)] at e ⊢
  exact below_cell g e
theorem SlC.form {sz:Nat} {w:World} {v:Value} {rows:List (List Value)} (h:SlC sz w v rows):∃ao cap,v= .slice ao rows.length cap∧rows.length≤cap∧(ao=none→cap=0)∧
  (0 < rows.length→cap≤maxLen∧∃b off,ao=some ⟨b,off,none⟩∧∀i,i < rows.length→(rows.getD i []).length=sz∧∀j,j < sz→w.cell? ⟨b,off+i*sz+j,none⟩=(rows.getD i [])[j]?):=by
 rcases h with ⟨ao,cap,rfl,h1,rfl⟩|⟨b,off,cap,rfl,h0,h1,h2,hc⟩
 ·exact ⟨ao,cap,rfl,Nat.zero_le _,h1,fun h=>by simp at h⟩
 ·exact ⟨_,cap,rfl,h1,(fun h=>by cases h),fun _=>⟨h2,b,off,rfl,hc⟩⟩
def SlR {α:Type} (sz:Nat) (R:World→List Value→α→Prop) (w:World) (v:Value) (xs:List α):Prop:=
 ∃rows,SlC sz w v rows∧rows.length=xs.length∧∀i (h:i < xs.length),R w (rows.getD i []) xs[i]
theorem SlR.below {α:Type} {sz:Nat} {R:World→List Value→α→Prop} {w w':World} {v:Value} {xs:List α} (h:SlR sz R w v xs) (g:Below w.heap.size w w') (hR:∀cs x,R w cs x→R w' cs x):SlR sz R w' v xs:=by
 obtain ⟨rows,h1,h2,h3⟩:=h
 exact ⟨rows,h1.below g,h2,fun i hi=>hR _ _ (h3 i hi)⟩
theorem SlR.nil {α:Type} {sz:Nat} {R:World→List Value→α→Prop} {w:World}:SlR sz R w (.slice none 0 0) ([]:List α):=
 ⟨[],Or.inl ⟨none,0,rfl,fun _=>rfl,rfl⟩,rfl,fun i h=>by simp at h⟩
theorem slr_len {α:Type} {P:Program} {sz:Nat} {R:World→List Value→α→Prop} {w:World} {v:Value} {xs:List α} (h:SlR sz R w v xs) {t e:TypeId} (ht:P.underlying t=some (.slice e)) (ty:TypeId) (w':World):
  (Builtin.len_ #[t] ty #[v]).run P w'= .ok (.int .i64 xs.length) w':=by
 obtain ⟨rows,h1,h2,h3⟩:=h
 obtain ⟨ao,cap,rfl,_⟩:=h1.form
 simp[Builtin.len_,run_underlying ht,goInt,h2]
theorem slr_max {α:Type} {sz:Nat} {R:World→List Value→α→Prop} {w:World} {v:Value} {xs:List α} (h:SlR sz R w v xs):xs.length≤maxLen:=by
 obtain ⟨rows,h1,h2,h3⟩:=h
 rcases h1 with ⟨ao,cap,rfl,_,rfl⟩|⟨b,off,cap,rfl,h0,h1,h2',hc⟩
 ·simp at h2;omega
 ·omega
theorem slr_idx {α:Type} {P:Program} {R:World→List Value→α→Prop} {w:World} {v:Value} {xs:List α} (h:SlR 1 R w v xs) {t:TypeId} (ht:P.underlying t=some (.slice (P.elem t))) (hs:∀w,(sizeOf (P.elem t)).run P w= .ok 1 w) (i:Int) (h0:0≤i) (h1:i < xs.length):
  ∃(a:Addr) (c:Value),(∀w',(Instr.indexAt t v (.int .i64 i)).run P w'= .ok (.pointer (some a)) w')∧w.cell? a=some c∧R w [c] (xs[i.toNat]'(by omega)):=by
 obtain ⟨rows,g1,g2,g3⟩:=h
 obtain ⟨ao,cap,rfl,hc,hn,hx⟩:=g1.form
 obtain ⟨hm,b,off,rfl,hcell⟩:=hx (by omega)
 have hi:i.toNat < rows.length:=by omega
 obtain ⟨l1,l2⟩:=hcell i.toNat hi
 have e:=l2 0 (by omega)
 have hr:=g3 i.toNat (by omega)
 match hrow:rows.getD i.toNat [],l1 with
 |[c],_=>
  rw[hrow] at e hr
  refine ⟨⟨b,off+i.toNat,none⟩,c,fun w'=> ?_,by simpa using e,hr⟩
  rw[run_indexAt_slice (h:=ht),if_pos ⟨h0,by omega⟩,hs]
  simp only[Result.andThen,Nat.mul_one]
  congr 3
  unfold Addr.add
  split
  ·rename_i hz;rw[hz];rfl
  ·rfl
theorem slc_open {H:Type} {enc:TypeId×Value→H} {P:Program} {W:World} {t e:TypeId} {a:Option Addr} {len cap:Nat} {d:DataW H} {ps:List MemPlace} {sz fuel:Nat}
  (ht:P.underlying t=some (.slice e)) (hc:P.cellsOf e=sz) (hsz:0 < sz) (h:DataW.trod enc P W 0 (fun _=>true) true fuel t [.slice a len cap]=some (d,ps)):
  ∃rows:List (List Value),SlC sz W (.slice a len cap) rows∧rows.length=len∧(d= .nil∧rows=[]∨∃ds zs,d= .slice ds zs∧ds.length=rows.length∧
   ∀i,i < rows.length→∃n y,DataW.trod enc P W 0 (fun _=>true) true n e (rows.getD i [])=some y∧ds[i]? =some y.1):=by
 rcases DataW.trod_slice ht h with ⟨h0,hx⟩|⟨x,l,c,elems,rest,n,_,hcs,hx,hb,hl,hm,hlen,hel,hsp,hns⟩
 ·simp at h0 hx
  obtain ⟨rfl,rfl,rfl⟩:=h0
  exact ⟨[],Or.inl ⟨none,0,rfl,fun _=>rfl,rfl⟩,rfl,Or.inl ⟨hx.1,rfl⟩⟩
 ·simp at hcs
  obtain ⟨rfl,rfl,rfl⟩:=hcs
  rw[hc] at hel
  have each:∀i,i < len→∃cs y,W.cells? 0 (x.add (i*sz)) sz=some cs∧DataW.trod enc P W 0 (fun _=>true) true n e cs=some y∧elems[i]? =some y:=by
   intro i hi
   have e1:=hel i hi
   rw[List.getElem?_eq_getElem (by omega)] at e1
   obtain ⟨cs,h1,h2⟩:=Option.bind_eq_some_iff.1 e1
   exact ⟨cs,_,h1,h2,List.getElem?_eq_getElem (by omega)⟩
  refine ⟨(List.range len).map (fun i=>((W.cells? 0 (x.add (i*sz)) sz).getD [])), ?_,by simp,Or.inr ⟨_,_,(Prod.mk.inj hx).1,by simp[hlen],fun i hi=> ?_⟩⟩
  ·rcases Nat.eq_zero_or_pos len with h0|h0
   ·subst h0
    exact Or.inl ⟨some x,cap,rfl,(fun h=>by cases h),rfl⟩
   ·obtain ⟨b,off,spot⟩:=x
    have hspot:spot=none:=by
     obtain ⟨cs,y,h1,_,_⟩:=each 0 h0
     obtain ⟨_,g1,g2⟩:=World.cells?_some h1
     have g3:=g2 0 hsz
     rw[List.getElem?_eq_getElem (by omega)] at g3
     simpa [Addr.add] using World.cell?_spot g3
    subst hspot
    refine Or.inr ⟨b,off,cap,by simp,by simpa using h0,by simpa using hl,hm,fun i hi=> ?_⟩
    have hi2:i < len:=by simpa using hi
    obtain ⟨cs,y,h1,_,_⟩:=each i hi2
    have e1:((List.range len).map (fun i=>((W.cells? 0 ((⟨b,off,none⟩:Addr).add (i*sz)) sz).getD []))).getD i []=cs:=by
     simp[List.getD_eq_getElem?_getD,List.getElem?_range,hi2,h1]
    rw[e1]
    obtain ⟨_,g1,g2⟩:=World.cells?_some h1
    refine ⟨g1,fun j hj=> ?_⟩
    rw[←g2 j hj]
    congr 1
    unfold Addr.add
    split
    ·rename_i hz
     split
     ·rename_i hz2;simp[hz,hz2]
     ·simp[hz]
    ·split
     ·rename_i hz2;simp[hz2]
     ·simp
  ·have hi2:i < len:=by simpa using hi
   obtain ⟨cs,y,h1,h2,h3⟩:=each i hi2
   refine ⟨n,y, ?_,by rw[List.getElem?_map,h3];rfl⟩
   have e1:((List.range len).map (fun i=>((W.cells? 0 (x.add (i*sz)) sz).getD []))).getD i []=cs:=by
    simp[List.getD_eq_getElem?_getD,List.getElem?_range,hi2,h1]
   rw[e1]
   exact h2
def strR (_:World) (cs:List Value) (s:ByteArray):Prop:=cs=[.string s]∧s.size≤maxLen
theorem wf_bytes {xs:List Int} (h:∀n∈xs,(Lit.int .u8 n).wf=true):bytesL xs:=by
 intro x hx
 have:=h x hx
 simp[Lit.wf,IntKind.min,IntKind.max,IntKind.bits,IntKind.signed] at this
 omega
theorem choose_list {α β:Type} (rows:List β) (p:β→α→Prop) (h:∀r∈rows,∃x,p r x):∃xs:List α,xs.length=rows.length∧∀i (h:i < rows.length) (g:i < xs.length),p rows[i] xs[i]:=by
 induction rows with
 |nil=>exact ⟨[],rfl,fun i h=>by simp at h⟩
 |cons r rs ih=>
  obtain ⟨x,hx⟩:=h r (by simp)
  obtain ⟨xs,h1,h2⟩:=ih (fun r' hr=>h r' (by simp[hr]))
  refine ⟨x::xs,by simp[h1],fun i hi hg=> ?_⟩
  cases i with
  |zero=>exact hx
  |succ i=>exact h2 i (by simpa using hi) (by simpa using hg)
theorem wpList_append_row {P:Program} {w:World} {ops:Array Oper} {rest:List Oper} {o:Oper} {a:Act} {Q:Exit→Act→World→Prop} (hgd:o.guard=none) (s x:Operand) (t:TypeId)
  (ho:o.op= .call {callee:= .builtin .append,args:=#[s,x],argTypes:=#[t,t]})
  (base:Nat) (e:TypeId) (i:TypeInfo) (z:Value) (sz bytes:Nat) (ht:P.underlying t=some (.slice e)) (hi:P.info? e=some i) (hz:i.zero=some z) (hsize:i.size=sz) (hby:i.bytes=bytes) (hzs:z.cells.size=sz) (hsz:0 < sz)
  (v:Value) (n:Nat) (cs:List Value) (hs:a.eval s=v) (hown:w.ownsRow base e sz v n cs)
  (b:Nat) (row:List Value) (hx:a.eval x= .slice (some ⟨b,0,none⟩) 1 1) (hl:row.length=sz) (hc:∀j u,row[j]? =some u→w.cell? ⟨b,j,none⟩=some u) (h1:∀u∈row,u.oneCell'=true)
  (h63:n+1≤maxLen) (hbytes:(n+1)*bytes≤140737488355328) (hbase:base≤w.heap.size)
  (h:∀v' w',w'.ownsRow base e sz v' (n+1) (cs++row)→w.grownBy w' v.ownBlock→wpList P ops Q rest (a.put o.dst v') w'):wpList P ops Q (o::rest) a w:=by
 refine wpList_plain hgd fun _ hK=> ?_
 refine wp_append_own w s x t ho base e i z sz bytes ht hi hz hsize hby hzs hsz v n cs hs hown ⟨b,0,none⟩ 1 1 row hx (by omega) ?_ h1 h63 hbytes hbase ?_
 ·intro j u hj
  have:=hc j u hj
  by_cases hz:j=0
  ·subst hz;simpa [Addr.add] using this
  ·simpa [Addr.add,hz] using this
 ·intro v' w' h2 h3 _
  exact hK _ _ (h v' w' h2 h3)
theorem alloc_row (w:World) (row:List Value) (T:TypeId):∀j u,row[j]? =some u→(w.alloc (.cells row.toArray T)).cell? ⟨w.heap.size,j,none⟩=some u:=by
 intro j u h
 rw[World.cell?_alloc_new]
 simpa using h
theorem slr_rows {α:Type} {R:World→List Value→α→Prop} {w:World} {base:Nat} {e:TypeId} {v:Value} {n sz:Nat} {xs:List α} (f:α→List Value) (hf:∀x∈xs,(f x).length=sz) (hsz:0 < sz) (h:w.ownsRow base e sz v n (xs.flatMap f)) (hR:∀x∈xs,R w (f x) x):SlR sz R w v xs:=by
 obtain ⟨hl,h⟩:=h
 have hlen:∀ys:List α,(∀x∈ys,(f x).length=sz)→(ys.flatMap f).length=ys.length*sz:=by
  intro ys
  induction ys with
  |nil=>intro _;simp
  |cons y ys ih=>
   intro hy
   rw[List.flatMap_cons,List.length_append,ih (fun x hx=>hy x (by simp[hx])),hy y (by simp),List.length_cons,Nat.add_mul,Nat.one_mul]
   omega
 have hn:n=xs.length:=by
  rw[hlen xs hf] at hl
  exact (Nat.eq_of_mul_eq_mul_right hsz hl).symm
 have hat:∀(ys:List α) (i:Nat) (hi:i < ys.length),(∀x∈ys,(f x).length=sz)→∀j,j < sz→(ys.flatMap f)[i*sz+j]? =(f ys[i])[j]? :=by
  intro ys
  induction ys with
  |nil=>intro i hi;simp at hi
  |cons y ys ih=>
   intro i hi hy j hj
   have hy0:=hy y (by simp)
   rw[List.flatMap_cons]
   cases i with
   |zero=>
    rw[List.getElem?_append_left (by omega)]
    simp
   |succ i=>
    rw[Nat.add_mul,Nat.one_mul,List.getElem?_append_right (by omega),show i*sz+sz+j - (f y).length=i*sz+j by omega]
    exact ih i (by simpa using hi) (fun x hx=>hy x (by simp[hx])) j hj
 refine ⟨xs.map f, ?_,by simp,fun i hi=> ?_⟩
 ·rcases h with ⟨rfl,h0⟩|⟨g,cap,cur,rfl,hb,hg,hc,hm,hs,ht⟩
  ·have:xs=[]:=List.eq_nil_of_length_eq_zero (by omega)
   subst this
   exact Or.inl ⟨none,0,rfl,fun _=>rfl,rfl⟩
  ·rcases Nat.eq_zero_or_pos xs.length with h0|h0
   ·have:xs=[]:=List.eq_nil_of_length_eq_zero h0
    subst this
    exact Or.inl ⟨_,_,by rw[hn];rfl,(fun h=>by cases h),rfl⟩
   ·refine Or.inr ⟨g,0,cap,by rw[hn,List.length_map],by rw[List.length_map];exact h0,by rw[List.length_map];omega,hm,fun i hi=> ?_⟩
    have hi2:i < xs.length:=by simpa using hi
    have e1:(xs.map f).getD i []=f xs[i]:=by simp[List.getD_eq_getElem?_getD,List.getElem?_eq_getElem hi2]
    rw[e1]
    refine ⟨hf _ (List.getElem_mem hi2),fun j hj=> ?_⟩
    have e2:=hat xs i hi2 hf j hj
    have hlt:i*sz+j < n*sz:=by
     have:(i+1)*sz≤n*sz:=Nat.mul_le_mul_right _ (by omega)
     rw[Nat.add_mul,Nat.one_mul] at this
     omega
    rw[←ht,List.getElem?_take,if_pos hlt] at e2
    rw[←e2]
    simp[World.cell?,hg]
 ·have e1:(xs.map f).getD i []=f xs[i]:=by simp[List.getD_eq_getElem?_getD,List.getElem?_eq_getElem hi]
  rw[e1]
  exact hR _ (List.getElem_mem hi)
theorem slr_idx3 {α:Type} {P:Program} {R:World→List Value→α→Prop} {w:World} {v:Value} {xs:List α} (h:SlR 3 R w v xs) {t:TypeId} (ht:P.underlying t=some (.slice (P.elem t))) (hs:∀w,(sizeOf (P.elem t)).run P w= .ok 3 w) (i:Nat) (h1:i < xs.length):
  ∃(b o:Nat) (c0 c1 c2:Value),(∀w',(Instr.indexAt t v (.int .i64 (i:Int))).run P w'= .ok (.pointer (some ⟨b,o,none⟩)) w')∧w.cell? ⟨b,o,none⟩=some c0∧w.cell? ⟨b,o+1,none⟩=some c1∧w.cell? ⟨b,o+2,none⟩=some c2∧R w [c0,c1,c2] xs[i]:=by
 obtain ⟨rows,g1,g2,g3⟩:=h
 obtain ⟨ao,cap,rfl,hc,hn,hx⟩:=g1.form
 obtain ⟨hm,b,off,rfl,hcell⟩:=hx (by omega)
 obtain ⟨l1,l2⟩:=hcell i (by omega)
 have e0:=l2 0 (by omega)
 have e1:=l2 1 (by omega)
 have e2:=l2 2 (by omega)
 have hr:=g3 i h1
 match hrow:rows.getD i [],l1 with
 |[c0,c1,c2],_=>
  rw[hrow] at e0 e1 e2 hr
  refine ⟨b,off+i*3,c0,c1,c2,fun w'=> ?_,by simpa using e0,by simpa using e1,by simpa using e2,hr⟩
  rw[run_indexAt_slice (h:=ht),if_pos ⟨by omega,by omega⟩,hs]
  simp only[Result.andThen,Int.toNat_natCast]
  congr 3
  unfold Addr.add
  split
  ·rename_i hz;rw[hz];rfl
  ·rfl
theorem own_le {w:World} {b b':Nat} {e:TypeId} {sz:Nat} {v:Value} {n:Nat} {cs:List Value} (h:b≤b') (o:w.ownsRow b' e sz v n cs):w.ownsRow b e sz v n cs:=by
 obtain ⟨hl,o⟩:=o
 refine ⟨hl, ?_⟩
 rcases o with o|⟨g,cap,cur,rfl,hb,o⟩
 ·exact Or.inl o
 ·exact Or.inr ⟨g,cap,cur,rfl,by omega,o⟩
theorem own_form {w:World} {b:Nat} {e:TypeId} {sz:Nat} {v:Value} {n:Nat} {cs:List Value} (o:w.ownsRow b e sz v n cs):∃ao cap,v= .slice ao n cap:=by
 obtain ⟨hl,o⟩:=o
 rcases o with ⟨rfl,h0⟩|⟨g,cap,cur,rfl,o⟩
 ·exact ⟨none,0,by rw[h0]⟩
 ·exact ⟨_,_,rfl⟩
def Stands (w:World) (b:Nat) (cs:Array Value) (T:TypeId):Prop:=w.heap[b]? =some (.cells cs T (0,0))
theorem stands_new (w:World) (cs:Array Value) (T:TypeId):Stands (w.alloc (.cells cs T)) w.heap.size cs T:=heap_alloc_new w _
theorem Stands.below {w w':World} {b:Nat} {cs:Array Value} {T:TypeId} (h:Stands w b cs T) (g:Below w.heap.size w w'):Stands w' b cs T:=by
 unfold Stands at h ⊢
 rw[g.block b (Array.getElem?_eq_some_iff.1 h).1]
 exact h
theorem Stands.cell {w:World} {b:Nat} {cs:Array Value} {T:TypeId} (h:Stands w b cs T) (j:Nat) (u:Value) (hj:cs[j]? =some u):w.cell? ⟨b,j,none⟩=some u:=by
 unfold Stands at h
 simp[World.cell?,h,hj]
theorem Stands.free {w:World} {b:Nat} {cs:Array Value} {T:TypeId} (h:Stands w b cs T) (j:Nat):w.frozen? ⟨b,j,none⟩=false:=by
 unfold Stands at h
 simp[World.frozen?,h]
theorem Stands.set {w:World} {b:Nat} {cs:Array Value} {T:TypeId} (h:Stands w b cs T) (j:Nat) (u:Value):Stands (w.setCell ⟨b,j,none⟩ u) b (cs.setIfInBounds j u) T:=by
 unfold Stands at h ⊢
 have hb:=(Array.getElem?_eq_some_iff.1 h).1
 have e:w.heap[b]= .cells cs T (0,0):=(Array.getElem?_eq_some_iff.1 h).2
 simp only[World.setCell]
 rw[Array.getElem?_modify,if_pos rfl,Array.getElem?_eq_getElem hb,e]
 rfl
theorem Stands.other {w:World} {b b':Nat} {cs:Array Value} {T:TypeId} (h:Stands w b cs T) (j:Nat) (u:Value) (hb:b≠b'):Stands (w.setCell ⟨b',j,none⟩ u) b cs T:=by
 unfold Stands at h ⊢
 simp only[World.setCell]
 rw[Array.getElem?_modify,if_neg (by omega)]
 exact h
theorem own_other {w:World} {b:Nat} {e:TypeId} {v:Value} {n:Nat} {cs:List Value} (o:w.ownsRow b e 1 v n cs) (g:Nat) (j:Nat) (u:Value) (hg:g < b):(w.setCell ⟨g,j,none⟩ u).ownsRow b e 1 v n cs:=by
 obtain ⟨hl,o⟩:=o
 refine ⟨hl, ?_⟩
 rcases o with o|⟨g',cap,cur,rfl,hb,h1,o⟩
 ·exact Or.inl o
 ·refine Or.inr ⟨g',cap,cur,rfl,hb, ?_,o⟩
  simp only[World.setCell]
  rw[Array.getElem?_modify,if_neg (by omega)]
  exact h1
theorem below_set {w w':World} (h:Below w.heap.size w w') (g j:Nat) (u:Value) (hg:w.heap.size≤g):Below w.heap.size w (w'.setCell ⟨g,j,none⟩ u):=by
 refine ⟨h.os,h.tape,h.output,by simpa [World.setCell] using h.size,fun k hk=> ?_⟩
 rw[←h.block k hk]
 simp only[World.setCell]
 rw[Array.getElem?_modify,if_neg (by omega)]
theorem stands_apart {w:World} {b:Nat} {cs:Array Value} {T:TypeId} {base:Nat} {e:TypeId} {v:Value} {n sz:Nat} {xs:List Value} (h:Stands w b cs T) (o:w.ownsRow base e sz v n xs) (ht:¬e=T):some b≠v.ownBlock:=by
 obtain ⟨hl,o⟩:=o
 rcases o with ⟨rfl,h0⟩|⟨g,cap,cur,rfl,hb,hg,o⟩
 ·simp[Value.ownBlock]
 ·intro hh
  simp[Value.ownBlock] at hh
  subst hh
  unfold Stands at h
  rw[h] at hg
  simp at hg
  exact ht hg.2.symm
theorem Stands.grown {w w':World} {b:Nat} {cs:Array Value} {T:TypeId} {row:Option Nat} (h:Stands w b cs T) (g:w.grownBy w' row) (hr:some b≠row):Stands w' b cs T:=by
 unfold Stands at h ⊢
 rw[g.block b (Array.getElem?_eq_some_iff.1 h).1 hr]
 exact h
end Go.Proofs.YtlokhciaaepenaaGreatDoor
