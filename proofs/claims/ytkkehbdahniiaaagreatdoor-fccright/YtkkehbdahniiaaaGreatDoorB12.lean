import Derived.Deep.RegionHeld
import Derived.Deep.RegionHeld2
import Derived.Shelf.Small.Strs
import Derived.Shelf.Small.Wraps
import Derived.Shelf.Strings.Search1
import Derived.Shelf.Strings.Prefix
import Derived.Test.YtkkehbdahniiaaaGreatDoorProg
import Derived.Test.YtkkehbdahniiaaaGreatDoorB11
set_option linter.unusedVariables false
set_option linter.unusedSimpArgs false
set_option maxRecDepth 100000
namespace Go.Proofs.YtkkehbdahniiaaaGreatDoor
open Go.ChangeShapes Go.WideShapes Go.ChangeAt Go.RowKit Go.Maps
theorem CmpM.setX {base q B:Nat} {w:World} {V:Rv} {x6:Value} {m m':Mk} {left:List Tk} (c:CmpM base q B w V x6 m left) (j:Nat) (u:Value)
  (hc:#[V.t, .int .i64 (rstF m'.out m'.fl).sz,V.a,V.b,V.l,V.k,x6, .map (some B), .int .i64 m'.nx, .bool m'.op, .string (strOfNums m'.na), .int .i64 m'.co]=#[V.t, .int .i64 (rstF m.out m.fl).sz,V.a,V.b,V.l,V.k,x6, .map (some B), .int .i64 m.nx, .bool m.op, .string (strOfNums m.na), .int .i64 m.co].setIfInBounds j u)
  (e1:m'.out=m.out) (e2:m'.fl=m.fl) (e3:m'.nm=m.nm):CmpM base q B (w.setCell ⟨q,j,none⟩ u) V x6 m' left∧Below base w (w.setCell ⟨q,j,none⟩ u):=by
 have f:Frm (inD q V) w (w.setCell ⟨q,j,none⟩ u):=Frm.set w q j u (Or.inl rfl)
 refine ⟨⟨?_,slr_frm c.lf f c.lb,c.lb,c.lB,by rw[e3];exact c.mp.frm f c.mB,c.mB,c.hB⟩,f.toBelow (fun k z=>(c.row.inlt z).1) c.row.hs⟩
 refine c.row.put (by simp only[mX];exact hc) ?_ ?_ ?_ ?_ ?_ c.row.row c.row.outs c.row.sep
 ·rw[e1,e2];exact c.row.tk
 ·rw[e1,e2];exact c.row.ah
 ·rw[e1,e2];exact c.row.bk
 ·rw[e1,e2];exact c.row.lp
 ·rw[e1,e2];exact c.row.ks
theorem CmpM.putM {base q B:Nat} {w w9:World} {V:Rv} {x6:Value} {m:Mk} {left:List Tk} (c:CmpM base q B w V x6 m left) {D:DataW Unit} {n:Nat} {t:List Int} {k:Int} (hb:bytesL t) (hn:n≤111+m.nm.length) (hD:MapD D (fndN m.nm)) (hown:OwnM w9 B (n+1) (D.put (keyL (strOfNums t)) (.lit (.int .i64 k)))) (g:w.grownBy w9 (some B)):
  CmpM base q B w9 V x6 {m with nm:=m.nm++[(t,k)]} left∧Below base w w9:=by
 have f:Frm (fun j=>j=B) w w9:=Frm.grown g (fun j hj=>by injection hj with hj;exact hj.symm)
 refine ⟨⟨c.row.frm f (fun j hj=>by rw[hj];exact c.mB),slr_frm c.lf f (fun hl j hj=>c.lB hl j hj),c.lb,c.lB, ?_,c.mB,c.hB⟩,f.toBelow (fun j hj=>by rw[hj];exact c.hB) c.row.hs⟩
 refine ⟨_,n+1,hown,by simp;omega, ?_⟩
 have:=hD.put (strOfNums t) k
 rw[LB_nums t hb] at this
 exact this.congr (fun s=>(fnd_snoc m.nm t k s).symm)
def NwQ (base q B:Nat) (w:World) (m:Mk) (R:(Mk×List Int×Int×List Tk) ⊕ Int) (e:Ending) (w':World):Prop:=Below base w w'∧match R with
 | .inr E=>e= .returned (.tuple #[.string ⟨#[]⟩, .int .i64 0, .int .i64 E])∧∃l,CmpS base q B w' m l
 | .inl x=>e= .returned (.tuple #[.string (strOfNums x.2.1), .int .i64 x.2.2.1, .int .i64 0])∧CmpS base q B w' (addT x.1 182 x.2.2.1 x.2.1) x.2.2.2
theorem nam_len {t:List Int} (h:namF t=true):t.length≤31:=by
 unfold namF at h
 simp at h
 omega
theorem L_nums (t:List Int) (h:bytesL t):L (strOfNums t)=t:=by
 have:L (strOfNums t)=LB (strOfNums t):=by rfl
 rw[this,LB_nums t h]
theorem frsh_R {m m':Mk} {n:Int} (r:MkR m n) {left l:List Tk} {t:List Int} {k:Int} (tb:TkB left) (g:MkG m) (e:frshF m left= .inl (m',t,k,l)):(bytesL t∧t.length≤31)∧k=m.nx∧m'={m with nx:=m.nx+1}∧(2048≤k∧k≤4095)∧TkB l∧(∃p,left=(1,t,p)::l)∧MkR {m with nx:=m.nx+1} n:=by
 unfold frshF at e
 split at e
 ·cases e
 ·rename_i t0 l0 hnm
  obtain ⟨p,hp⟩:=name_mem hnm
  split at e
  ·cases e
  ·rename_i hna
   split at e
   ·cases e
   ·rename_i hx
    injection e with e
    injection e with e1 e
    injection e with e2 e
    injection e with e3 e4
    subst e2 e4
    have h0:=g.hx
    have hna:namF t0=true:=by simpa using hna
    refine ⟨⟨(tb _ (by rw[hp];exact List.mem_cons_self)).1,nam_len hna⟩,e3.symm,e1.symm,by omega,fun x hx=>tb x (by rw[hp];exact List.mem_cons_of_mem _ hx),⟨p,hp⟩,⟨r.lf,r.nml,r.ok,r.sz,by show m.nx+1≤4096;omega,r.na,r.nb⟩⟩
set_option maxHeartbeats 4000000 in
set_option maxRecDepth 100000 in
theorem fw_newN {base q B:Nat} {w:World} {V:Rv} {x6:Value} {m:Mk} {left:List Tk} {n:Int} (c:CmpM base q B w V x6 m left) (g:MkG m) (r:MkR m n) (hn:n≤19000) (tb:TkB left):
  Calls Tryz.prog 107 #[.pointer (some ⟨q,0,none⟩)] w (NwQ base q B w m (frshF m left)):=by
 have cn:=fw_next c
 have hx0:=g.hx
 have hx1:=r.nx
 rcases hnm:nameF left with _|⟨t,l⟩
 ·have e:frshF m left= .inr 15:=by unfold frshF;rw[hnm]
  rw[e]
  rw[hnm] at cn
  clear c g r tb hnm e
  go_enter Tryz.func107,Tryz.ntmps107
  go_wp2_with (first|(go_at_call 101;refine cn.mono ?_;rintro e w1 ⟨b1,h1⟩;simp only at h1;obtain ⟨h1,h2⟩:=h1;subst h1)|fail)
  go_ret3
  exact ⟨b1,rfl,h2⟩
 ·rw[hnm] at cn
  obtain ⟨p,hp⟩:=name_mem hnm
  obtain ⟨hb,hl5⟩:=tb _ (by rw[hp];exact List.mem_cons_self)
  simp only at hb hl5
  have cN:=fun w=>w_p9named' (strOfNums t) w (str_size hl5)
  rw[L_nums t hb] at cN
  have hsz:=str_size hl5
  obtain ⟨S,hS⟩:∃S,strOfNums t=S:=⟨_,rfl⟩
  rw[hS] at cN hsz
  have hLS:LB S=t:=by rw[←hS];exact LB_nums t hb
  rcases hna:namF t with _|_
  ·have e:frshF m left= .inr 15:=by unfold frshF;rw[hnm];simp only;rw[if_pos hna]
   rw[e]
   rw[hna] at cN
   clear c g r tb hnm e hna hp
   go_enter Tryz.func107,Tryz.ntmps107
   go_wp2_with (first
    |(go_at_call 101;refine cn.mono ?_;rintro e w1 ⟨b1,h1⟩;simp only at h1;obtain ⟨h1,h2⟩:=h1;subst h1;rw[hS])
    |(go_at_call 123;refine (cN _).mono ?_;rintro e w2 ⟨rfl,hw2⟩;subst hw2)
    |fail)
   go_ret3
   exact ⟨b1,rfl,_,h2⟩
  ·rw[hna] at cN
   by_cases hx:4095 < m.nx
   ·have e:frshF m left= .inr 22:=by unfold frshF;rw[hnm];simp only;rw[if_neg (by rw[hna];simp),if_pos hx]
    rw[e]
    clear c g r tb hnm e hna hp
    go_enter Tryz.func107,Tryz.ntmps107
    go_wp2_with (first
     |(go_at_call 101;refine cn.mono ?_;rintro e w1 ⟨b1,h1⟩;simp only at h1;obtain ⟨h1,V1,x1,c1⟩:=h1;subst h1;rw[hS];have f8:=c1.c8)
     |(go_at_call 123;refine (cN _).mono ?_;rintro e w2 ⟨rfl,hw2⟩;subst hw2)
     |fail)
    go_ret3
    exact ⟨b1,rfl,_,_,_,c1⟩
   ·have e:frshF m left= .inl ({m with nx:=m.nx+1},t,m.nx,l):=by unfold frshF;rw[hnm];simp only;rw[if_neg (by rw[hna];simp),if_neg hx]
    rw[e]
    have r2:MkR {m with nx:=m.nx+1} n:=⟨r.lf,r.nml,r.ok,r.sz,by show m.nx+1≤4096;omega,r.na,r.nb⟩
    have ok:=(ok_name (c:=m.nx) (nam_len hna) hx0 (by omega)).1
    have hw:=wrap_u32b m.nx (by omega) (by omega)
    have GF:=hid g.fl
    have R2:=hid r2
    obtain ⟨X,hX⟩:∃X,m.nx=X:=⟨_,rfl⟩
    clear c g r tb hnm e hna hp r2
    rw[hX] at hw hx hx0 hx1 ok
    go_enter Tryz.func107,Tryz.ntmps107
    go_upto_region 9 with (first
     |(go_at_call 101;refine cn.mono ?_;rintro e w1 ⟨b1,h1⟩;simp only at h1;obtain ⟨h1,V1,x1,c1⟩:=h1;subst h1;rw[hS];have f8:=c1.c8;rw[hX] at f8)
     |(go_at_call 123;refine (cN _).mono ?_;rintro e w2 ⟨rfl,hw2⟩;subst hw2)
     |fail)
    have fr8:=c1.row.st.free 8
    obtain ⟨c2,b2⟩:=c1.setX (m':={m with nx:=m.nx+1}) 8 (.int .i64 (m.nx+1)) (by simp) rfl rfl rfl
    rw[hX] at b2
    have c2':CmpM base q B (w2.setCell ⟨q,8,none⟩ (.int .i64 (X+1))) V1 x1 {m with nx:=m.nx+1} l:=by rw[←hX];exact c2
    have C2:=hid c2'
    have B2:=hid (btr b1 b2)
    clear c2 c2' b2 b1 c1
    go_upto_region 10 with fail
    generalize w2.setCell ⟨q,8,none⟩ (.int .i64 (X+1))=W2 at C2 B2 ⊢
    have cl:=cm_lay C2.out GF.out R2.out (by omega) 182 X S (by rw[hLS];exact ok) (by omega) (by omega) hsz
    rw[hLS] at cl
    go_wp2_with (first|(go_at_call 64;refine cl.mono ?_;rintro e w3 ⟨rfl,V3,c3,b3⟩)|fail)
    go_ret3
    exact ⟨btr B2.out b3,by simp only;rw[hS,hX];rfl,_,_,by rw[hX];rw[hX] at c3;exact c3⟩
theorem bset {base:Nat} {w w':World} (h:Below base w w') (g j:Nat) (u:Value) (hg:base≤g):Below base w (w'.setCell ⟨g,j,none⟩ u):=by
 refine ⟨h.os,h.tape,h.output,by simpa [World.setCell] using h.size,fun k hk=> ?_⟩
 rw[←h.block k hk]
 exact Below.heap_setCell _ _ _ k (fun e=>by have e2:k=g:=e;omega)
def mwR (m:Mk) (k:Int) (left:List Tk):(Mk×List Tk) ⊕ Int:=match frshF m left with
 | .inr e=> .inr e
 | .inl x=> .inl ({addT (addT x.1 182 x.2.2.1 x.2.1) k 0 [] with nm:=x.1.nm++[(x.2.1,x.2.2.1)]},x.2.2.2)
theorem defn_ok {m:Mk} {n:Int} (g:MkG m) (r2:MkR {m with nx:=m.nx+1} n) {t:List Int} (hb:bytesL t) (hl:t.length≤31) (hx:m.nx≤4095):MkG (addT {m with nx:=m.nx+1} 182 m.nx t)∧MkR (addT {m with nx:=m.nx+1} 182 m.nx t) (n+35):=by
 have h0:=g.hx
 obtain ⟨o1,o2⟩:=ok_name (c:=m.nx) (t:=t) hl h0 hx
 exact ⟨g.defn t,r2.add 182 m.nx t 35 o1 ⟨by show 0≤m.nx;omega,by show m.nx < 4294967296;omega,hb⟩ (by rw[o2];omega)⟩
set_option maxHeartbeats 4000000 in
set_option maxRecDepth 100000 in
theorem fw_make {base q B:Nat} {w:World} {V:Rv} {x6:Value} {m:Mk} {left:List Tk} {n:Int} (c:CmpM base q B w V x6 m left) (g:MkG m) (r:MkR m n) (hn:n≤18000) (tb:TkB left) (k:Int) (ok:okQ (cdT k) true=true):
  Calls Tryz.prog 91 #[.pointer (some ⟨q,0,none⟩), .int .i64 k] w (CmpQ base q B w (mwR m k left)):=by
 have cn:=fw_newN c g r (by omega) tb
 unfold mwR
 rcases hf:frshF m left with x|e
 ·obtain ⟨m',t,kc,l⟩:=x
  obtain ⟨⟨hb,hl⟩,rfl,rfl,⟨k0,k1⟩,tb2,_,r2⟩:=frsh_R r tb g hf
  obtain ⟨g1,r1⟩:=defn_ok g r2 hb hl k1
  rw[hf] at cn
  simp only
  have hl5:t.length≤5000:=by omega
  have hkey:=key_of hl5
  have hnl:=r.nml
  have hol:=szL_len m.out
  have hsz:=r.sz
  obtain ⟨S,hS⟩:∃S,strOfNums t=S:=⟨_,rfl⟩
  rw[hS] at hkey
  have G1:=hid g1.fl
  have R1:=hid r1
  have HL:=hid hnl
  clear c g r tb hf g1 r1 r2 tb2
  go_enter Tryz.func91,Tryz.ntmps91
  go_upto_region 4 with (first|(go_at_call 107;refine cn.mono ?_;rintro e w1 ⟨b1,h1⟩;simp only at h1;obtain ⟨h1,V1,x1,c1⟩:=h1;subst h1;rw[hS])|fail)
  have cl:=cm_codes c1 G1.out R1.out (by omega) k ok
  go_upto_region 5 with (first|(go_at_call 37;refine cl.mono ?_;rintro e w2 ⟨rfl,V2,c2,b2⟩)|fail)
  obtain ⟨D,nn,h1,h2,h3⟩:=c2.mp
  have f7:=c2.c7
  have hnn:nn < maxLen:=by have:nn≤111+m.nm.length:=h2;have:=HL.out;unfold maxLen;omega
  go_wp2_with (first|(at_mapUpdate;refine wpList_mapUpdate_own _ rfl _ _ _ 52 rfl 9 3 lawS Tryz.underlying52 _ B nn _ rfl h1 hnn _ _ _ rfl rfl hkey _ [] (plainElem_int Tryz.underlying3 (WalkArith.wf_i64 (by omega))) ?_;intro w9 hown9 hg9)|fail)
  rw[←hS] at hown9
  obtain ⟨c9,b9⟩:=c2.putM hb h2 h3 hown9 hg9
  go_ret
  exact ⟨btr b1 (btr b2 b9),rfl,_,_,c9⟩
 ·rw[hf] at cn
  simp only
  by_cases he:e=0
  ·exfalso
   unfold frshF at hf
   split at hf
   ·injection hf with hf;omega
   ·split at hf
    ·injection hf with hf;omega
    ·split at hf
     ·injection hf with hf;omega
     ·cases hf
  ·have h1:(e !=0)=true:=by simpa using he
   have h2:(e==0)=false:=by simpa using he
   clear c g r tb hf
   go_enter Tryz.func91,Tryz.ntmps91
   go_wp2_with (first|(go_at_call 107;refine cn.mono ?_;rintro e w1 ⟨b1,h1⟩;simp only at h1;obtain ⟨h1, -⟩:=h1;subst h1)|fail)
   go_ret
   exact ⟨b1,rfl⟩
def miR (m:Mk) (left:List Tk):(Mk×List Tk) ⊕ Int:=match nameF left with
 |none=> .inr 15
 |some (s,l)=>if s=[118,97,108,117,101] then mwR (addT m 192 0 []) 184 l else .inr 15
set_option maxHeartbeats 4000000 in
set_option maxRecDepth 100000 in
theorem fw_inst {base q B:Nat} {w:World} {V:Rv} {x6:Value} {m:Mk} {left:List Tk} {n:Int} (c:CmpM base q B w V x6 m left) (g:MkG m) (r:MkR m n) (hn:n≤17000) (tb:TkB left):
  Calls Tryz.prog 93 #[.pointer (some ⟨q,0,none⟩)] w (CmpQ base q B w (miR m left)):=by
 have cn:=fw_next c
 have h0:=g.hx
 unfold miR
 rcases hnm:nameF left with _|⟨t,l⟩
 ·rw[hnm] at cn
  clear c g r tb hnm
  go_enter Tryz.func93,Tryz.ntmps93
  go_wp2_with (first|(go_at_call 101;refine cn.mono ?_;rintro e w1 ⟨b1,h1⟩;simp only at h1;obtain ⟨h1, -⟩:=h1;subst h1)|fail)
  go_ret
  exact ⟨b1,rfl⟩
 ·rw[hnm] at cn
  simp only
  obtain ⟨p,hp⟩:=name_mem hnm
  obtain ⟨hb,hl5⟩:=tb _ (by rw[hp];exact List.mem_cons_self)
  simp only at hb hl5
  have tb2:TkB l:=fun x hx=>tb x (by rw[hp];exact List.mem_cons_of_mem _ hx)
  obtain ⟨S,hS⟩:∃S,strOfNums t=S:=⟨_,rfl⟩
  have hLS:LB S=t:=by rw[←hS];exact LB_nums t hb
  by_cases hv:t=[118,97,108,117,101]
  ·rw[if_pos hv]
   have q1:(S.toList==[118,97,108,117,101])=true:=str_yes (l:=[118,97,108,117,101]) (by rw[hLS,hv];rfl)
   have q2:(S.toList !=[118,97,108,117,101])=false:=by rw[bne,q1];rfl
   have g1:MkG (addT m 192 0 []):=g.add 192 0 [] (by decide+kernel) (fun q=>absurd q (by decide)) (by decide) (by omega)
   have r1:=r.code 192 (by decide+kernel) (by decide+kernel)
   have G:=hid g.fl
   have R:=hid r
   have G1:=hid g1
   have R1:=hid r1
   have TB:=hid tb2
   obtain ⟨Z,hZ⟩:∃Z,mwR (addT m 192 0 []) 184 l=Z:=⟨_,rfl⟩
   rw[hZ]
   clear c g r tb hnm hp tb2 g1 r1
   go_enter Tryz.func93,Tryz.ntmps93
   go_upto_region 6 with (first|(go_at_call 101;refine cn.mono ?_;rintro e w1 ⟨b1,h1⟩;simp only at h1;obtain ⟨h1,V1,x1,c1⟩:=h1;subst h1;rw[hS])|fail)
   have cl:=cm_codes c1 G.out R.out (by omega) 192 (by decide+kernel)
   go_wp2_with (first
    |(go_at_call 37;refine cl.mono ?_;rintro e w2 ⟨rfl,V2,c2,b2⟩;have cm:=fw_make c2 G1.out R1.out (by omega) TB.out 184 (by decide+kernel);rw[hZ] at cm)
    |(go_at_call 91;refine cm.mono ?_;rintro e w3 P3;obtain rfl:=P3.ret)
    |fail)
   go_ret
   exact ⟨btr b1 (btr b2 P3.1),P3.2⟩
  ·rw[if_neg hv]
   have q1:(S.toList==[118,97,108,117,101])=false:=str_not (l:=[118,97,108,117,101]) (by rw[hLS];exact hv)
   have q2:(S.toList !=[118,97,108,117,101])=true:=by rw[bne,q1];rfl
   clear c g r tb hnm hp tb2
   go_enter Tryz.func93,Tryz.ntmps93
   go_wp2_with (first|(go_at_call 101;refine cn.mono ?_;rintro e w1 ⟨b1,h1⟩;simp only at h1;obtain ⟨h1,h2⟩:=h1;subst h1;rw[hS])|fail)
   go_ret
   exact ⟨b1,rfl⟩
def bgR (m:Mk) (left:List Tk):(Mk×List Tk) ⊕ Int:=match frshF m left with
 | .inr e=> .inr e
 | .inl x=> .inl ({addT (addT x.1 182 x.2.2.1 x.2.1) 183 0 [] with op:=true,na:=x.2.1,co:=x.2.2.1},x.2.2.2)
set_option maxHeartbeats 4000000 in
set_option maxRecDepth 100000 in
theorem fw_begin {base q B:Nat} {w:World} {V:Rv} {x6:Value} {m:Mk} {left:List Tk} {n:Int} (c:CmpM base q B w V x6 m left) (g:MkG m) (r:MkR m n) (hn:n≤18000) (tb:TkB left):
  Calls Tryz.prog 92 #[.pointer (some ⟨q,0,none⟩)] w (CmpQ base q B w (bgR m left)):=by
 have cn:=fw_newN c g r (by omega) tb
 unfold bgR
 rcases hf:frshF m left with x|e
 ·obtain ⟨m',t,kc,l⟩:=x
  obtain ⟨⟨hb,hl⟩,rfl,rfl,⟨k0,k1⟩,tb2,_,r2⟩:=frsh_R r tb g hf
  obtain ⟨g1,r1⟩:=defn_ok g r2 hb hl k1
  rw[hf] at cn
  simp only
  obtain ⟨S,hS⟩:∃S,strOfNums t=S:=⟨_,rfl⟩
  obtain ⟨K,hK⟩:∃K,m.nx=K:=⟨_,rfl⟩
  have G1:=hid g1.fl
  have R1:=hid r1
  have NB:Hid (bytesL t∧t.length≤31):=hid ⟨hb,hl⟩
  clear c g r tb hf g1 r1 r2 tb2
  go_enter Tryz.func92,Tryz.ntmps92
  go_upto_region 2 with (first|(go_at_call 107;refine cn.mono ?_;rintro e w1 ⟨b1,h1⟩;simp only at h1;obtain ⟨h1,V1,x1,c1⟩:=h1;subst h1;rw[hS,hK];have f10:=c1.c10;have fr:=c1.row.st.free;have f11:=c1.c11)|fail)
  obtain ⟨c2,b2⟩:=c1.setX (m':={addT {m with nx:=m.nx+1} 182 m.nx t with na:=t}) 10 (.string S) (by rw[←hS];simp) rfl rfl rfl
  obtain ⟨c3,b3⟩:=c2.setX (m':={addT {m with nx:=m.nx+1} 182 m.nx t with na:=t,co:=m.nx}) 11 (.int .i64 K) (by rw[←hK];simp) rfl rfl rfl
  have R3:Hid (MkR {addT {m with nx:=m.nx+1} 182 m.nx t with na:=t,co:=m.nx} (n+35)):=hid ⟨R1.out.lf,R1.out.nml,R1.out.ok,R1.out.sz,R1.out.nx,NB.out,R1.out.nb⟩
  have B3:=hid (btr b1 (btr b2 b3))
  clear c1 c2 b1 b2 b3 f10 f11 fr
  generalize (w1.setCell ⟨q,10,none⟩ (.string S)).setCell ⟨q,11,none⟩ (.int .i64 K)=W3 at c3 B3 ⊢
  have cl:=cm_codes c3 G1.out R3.out (by omega) 183 (by decide+kernel)
  go_upto_region 5 with (first|(go_at_call 37;refine cl.mono ?_;rintro e w4 ⟨rfl,V4,c4,b4⟩)|fail)
  have f9:=c4.c9
  have fr9:=c4.row.st.free 9
  obtain ⟨c5,b5⟩:=c4.setX (m':={addT (addT {m with nx:=m.nx+1} 182 m.nx t) 183 0 [] with op:=true,na:=t,co:=m.nx}) 9 (.bool true) (by simp[addT]) rfl rfl rfl
  go_wp2_with fail
  go_ret
  exact ⟨btr B3.out (btr b4 b5),rfl,V4,x1,by subst hK;exact c5⟩
 ·rw[hf] at cn
  simp only
  by_cases he:e=0
  ·exfalso
   unfold frshF at hf
   split at hf
   ·injection hf with hf;omega
   ·split at hf
    ·injection hf with hf;omega
    ·split at hf
     ·injection hf with hf;omega
     ·cases hf
  ·have h1:(e !=0)=true:=by simpa using he
   have h2:(e==0)=false:=by simpa using he
   clear c g r tb hf
   go_enter Tryz.func92,Tryz.ntmps92
   go_wp2_with (first|(go_at_call 107;refine cn.mono ?_;rintro e w1 ⟨b1,h1⟩;simp only at h1;obtain ⟨h1,l1,V1,x1,c1⟩:=h1;subst h1;have f10:=c1.c10;have fr:=c1.row.st.free;have f11:=c1.c11)|fail)
   go_ret
   refine ⟨?_,rfl⟩
   have hq:=c1.row.hq
   exact bset (bset b1 q 10 (.string ⟨#[]⟩) hq) q 11 (.int .i64 0) hq
def fnR (m:Mk) (left:List Tk):(Mk×List Tk) ⊕ Int:=if opnF m.fl=true then .inr 13 else .inl ({addT m 194 0 [] with op:=false,nm:=m.nm++[(m.na,m.co)]},left)
theorem opn_same (out:List Tq) (f:Fw):opnR (rstF out f)=opnF f:=by unfold opnR opnF rstF;simp
set_option maxHeartbeats 4000000 in
set_option maxRecDepth 100000 in
theorem fw_finish {base q B:Nat} {w:World} {V:Rv} {x6:Value} {m:Mk} {left:List Tk} {n:Int} (c:CmpM base q B w V x6 m left) (g:MkG m) (r:MkR m n) (hn:n≤18000) (ho:m.op=true):
  Calls Tryz.prog 86 #[.pointer (some ⟨q,0,none⟩)] w (CmpQ base q B w (fnR m left)):=by
 have co:=fw_open c.row
 rw[opn_same] at co
 unfold fnR
 by_cases h:opnF m.fl=true
 ·rw[if_pos h]
  rw[h] at co
  have hs:=c.row.hs
  clear c g r
  go_enter Tryz.func86,Tryz.ntmps86
  go_wp2_with (first|(go_at_call 100;refine co.mono ?_;rintro e w1 ⟨rfl,b1⟩)|fail)
  go_ret
  exact ⟨b1.mono hs,rfl⟩
 ·rw[if_neg h]
  have h:opnF m.fl=false:=by simpa using h
  rw[h] at co
  have hco:=g.co ho
  have hnx:=r.nx
  obtain ⟨nb1,nb2⟩:=r.na
  have hkey:=key_of (t:=m.na) (by omega)
  have hnl:=r.nml
  have hol:=szL_len m.out
  have hsz:=r.sz
  have G:=hid g.fl
  have R:=hid r
  have HC:=hid c
  obtain ⟨S,hS⟩:∃S,strOfNums m.na=S:=⟨_,rfl⟩
  obtain ⟨KC,hKC⟩:∃K,m.co=K:=⟨_,rfl⟩
  rw[hS] at hkey
  rw[hKC] at hco
  have HL:=hid hnl
  clear c g r h
  go_enter Tryz.func86,Tryz.ntmps86
  go_upto_region 3 with (first|(go_at_call 100;refine co.mono ?_;rintro e w1 ⟨rfl,b1⟩)|fail)
  have c1:=HC.out.below b1
  have cl:=cm_codes c1 G.out R.out (by omega) 194 (by decide+kernel)
  go_upto_region 4 with (first|(go_at_call 37;refine cl.mono ?_;rintro e w2 ⟨rfl,V2,c2,b2⟩)|fail)
  obtain ⟨D,nn,h1,h2,h3⟩:=c2.mp
  have cD:Below w2.heap.size w2 w2.drew:=below_drewN (Below.refl _ w2) 1
  have c3:=c2.below cD
  have h1':=h1.below cD
  have hnn:nn < maxLen:=by have:nn≤111+m.nm.length:=h2;have:=HL.out;unfold maxLen;omega
  have K1:Hid (w2.drew.cell? ⟨q,7,none⟩=some (.map (some B))∧w2.drew.cell? ⟨q,10,none⟩=some (.string S)∧w2.drew.cell? ⟨q,11,none⟩=some (.int .i64 KC)):=hid ⟨c3.c7,by rw[←hS];exact c3.c10,by rw[←hKC];exact c3.c11⟩
  have f7:=c2.c7
  have f10:=c2.c10
  have f11:=c2.c11
  have hS':strOfNums (addT m 194 0 []).na=S:=hS
  have hC':(addT m 194 0 []).co=KC:=hKC
  rw[hS'] at f10
  rw[hC'] at f11
  have H3:=hid c3
  have C2:=hid c2
  clear K1
  obtain ⟨w9,hrun,hown9,hg9⟩:=h1'.update lawS Tryz.underlying52 hnn hkey (plainElem_int (H:=Unit) Tryz.underlying3 (WalkArith.wf_i64 (n:=KC) (by omega)))
  go_wp2_with fail
  go_region
  all_goals (
   rw[←hS] at hown9
   obtain ⟨c9,b9⟩:=H3.out.putM (m:=addT m 194 0 []) (k:=KC) nb1 h2 h3 hown9 hg9
   have f9:=c9.c9
   have fr9:=c9.row.st.free 9
   obtain ⟨c5,b5⟩:=c9.setX (m':={addT m 194 0 [] with op:=false,nm:=m.nm++[(m.na,KC)]}) 9 (.bool false) (by simp[addT]) rfl rfl rfl
   go_wp2_with fail
   go_ret
   exact ⟨btr (b1.mono HC.out.row.hs) (btr b2 (btr (C2.out.bel cD) (btr b9 b5))),rfl,V2,x6,by subst hKC;exact c5⟩)
open Go.Shelf
def lays103_ren:Go.Shelf.Ren:=⟨fun|103=>132|210=>142|206=>147|n=>n,fun|9=>9|4=>4|24=>177|3=>3|n=>n,fun|n=>n⟩
theorem lays103:Go.Proofs.Lays.n103 Tryz.prog lays103_ren:={
 mixed:=by kernel_rfl
 f103:=Tryz.func132.trans (congrArg some (by kernel_rfl))
 f206:=Tryz.func147.trans (congrArg some (by kernel_rfl))
 f210:=Tryz.func142.trans (congrArg some (by kernel_rfl))
 t3:=Tryz.underlying3
 a3:=Tryz.isAgg3
 z3:=Tryz.sizeOf3
 v3:=Tryz.zeroValue3
 t4:=Tryz.underlying4
 a4:=Tryz.isAgg4
 z4:=Tryz.sizeOf4
 v4:=Tryz.zeroValue4
 t9:=Tryz.underlying9
 a9:=Tryz.isAgg9
 z9:=Tryz.sizeOf9
 v9:=Tryz.zeroValue9
 t24:=Tryz.underlying177
 a24:=Tryz.isAgg177
 z24:=Tryz.sizeOf177
 v24:=Tryz.zeroValue177}
open Go.RowKit in
theorem strings_CutPrefix (s p:ByteArray) (w:World):
  Calls Tryz.prog 132 #[.string s, .string p] w fun e w'=>e= .returned (.tuple #[.string ⟨(Lib.trimPrefix s.data.toList p.data.toList).toArray⟩, .bool (Lib.hasPrefix s.data.toList p.data.toList)])∧w'=w:=Any.strings_CutPrefix lays103 s p w
open Go.ChangeShapes Go.WideShapes Go.ChangeAt Go.RowKit
def fitB (b:Int):Bool:=decide (2≤b∧b≤36)
theorem w_fit (b:Int) (w:World) (g0:0≤b) (g1:b < 4294967296):Calls Tryz.prog 131 #[.int .u32 b] w fun e w'=>e= .returned (.bool (fitB b))∧w'=w:=by
 go_enter Tryz.func131,Tryz.ntmps131
 go_wp2
 all_goals go_ret
 all_goals exact ⟨ret_b (by unfold fitB;simp;try omega),rfl⟩
def dvA (c:Int):Int:=if dv c=99 then 0 else dv c
def isA (c:Int):Bool:=decide (dv c < 99)
theorem w_any (c:Int) (w:World) (h0:0≤c) (h1:c < 256):Calls Tryz.prog 144 #[.int .u8 c] w fun e w'=>e= .returned (.tuple #[.int .u32 (dvA c), .bool (isA c)])∧w'=w:=by
 rcases (show (48≤c∧c≤57)∨(97≤c∧c≤122)∨(65≤c∧c≤90)∨(¬(48≤c∧c≤57)∧¬(97≤c∧c≤122)∧¬(65≤c∧c≤90)) by omega) with ⟨a,b⟩|⟨a,b⟩|⟨a,b⟩|⟨a,b,d⟩
 all_goals go_enter Tryz.func144,Tryz.ntmps144
 all_goals go_wp2
 all_goals first|go_ret2|go_ret
 all_goals first|(exfalso;omega)|exact ⟨ret_ib (by unfold dvA dv;omega) (by unfold isA dv;simp;try omega),rfl⟩
theorem isD_not (c b:Int) (h:isA c=false):isD c b=false∧vl c b=0:=by
 have d:isD c b=false:=by unfold isA at h;unfold isD;simp at h ⊢;omega
 exact ⟨d,by unfold vl;rw[if_neg (by rw[d];decide)]⟩
theorem isD_at (c b:Int) (h:isA c=true) (b0:2≤b) (b1:b≤36):(dvA c < b→isD c b=true∧vl c b=dvA c)∧(¬dvA c < b→isD c b=false∧vl c b=0):=by
 unfold isA at h;simp at h
 have e:dvA c=dv c:=by unfold dvA;omega
 constructor
 ·intro hl
  have d:isD c b=true:=by unfold isD;simp;omega
  exact ⟨d,by unfold vl;rw[if_pos d,e]⟩
 ·intro hl
  have d:isD c b=false:=by unfold isD;simp;omega
  exact ⟨d,by unfold vl;rw[if_neg (by rw[d];decide)]⟩
theorem dvA_of (c b:Int) (h:isD c b=true):dvA c=vl c b:=by
 unfold vl;rw[if_pos h]
 unfold isD at h;simp at h
 unfold dvA;omega
set_option maxHeartbeats 400000 in
theorem w_dvalue0 (c b:Int) (w:World) (h0:0≤c) (h1:c < 256) (g0:0≤b) (g1:b < 4294967296):
  Calls Tryz.prog 143 #[.int .u8 c, .int .u32 b] w fun e w'=>e= .returned (.tuple #[.int .u32 (vl c b), .bool (isD c b)])∧w'=w:=by
 cases hA:isA c
 ·obtain ⟨e1,e2⟩:=isD_not c b hA
  rw[e1,e2]
  go_enter Tryz.func143,Tryz.ntmps143
  go_wp2_with (first|(go_at_call 144;refine (w_any _ _ h0 h1).mono ?_;rintro e w1 ⟨rfl,rfl⟩)|(go_at_call 131;refine (w_fit _ _ g0 g1).mono ?_;rintro e w1 ⟨rfl,rfl⟩))
  go_ret2
  exact ⟨rfl,rfl⟩
 ·cases hf:fitB b
  ·obtain ⟨e1,e2⟩:=isD_unfit c b (by unfold fitB at hf;simp at hf;omega)
   rw[e1,e2]
   go_enter Tryz.func143,Tryz.ntmps143
   go_wp2_with (first|(go_at_call 144;refine (w_any _ _ h0 h1).mono ?_;rintro e w1 ⟨rfl,rfl⟩)|(go_at_call 131;refine (w_fit _ _ g0 g1).mono ?_;rintro e w1 ⟨rfl,rfl⟩))
   go_ret2
   exact ⟨rfl,rfl⟩
  ·have hb:2≤b∧b≤36:=by unfold fitB at hf;simpa using hf
   obtain ⟨hy,hn⟩:=isD_at c b hA hb.1 hb.2
   by_cases hl:dvA c < b
   ·obtain ⟨e1,e2⟩:=hy hl
    rw[e1,e2]
    clear hy hn e1 e2 hb
    go_enter Tryz.func143,Tryz.ntmps143
    go_wp2_with (first|(go_at_call 144;refine (w_any _ _ h0 h1).mono ?_;rintro e w1 ⟨rfl,rfl⟩)|(go_at_call 131;refine (w_fit _ _ g0 g1).mono ?_;rintro e w1 ⟨rfl,rfl⟩))
    go_ret2
    exact ⟨rfl,rfl⟩
   ·obtain ⟨e1,e2⟩:=hn hl
    rw[e1,e2]
    clear hy hn e1 e2 hb
    go_enter Tryz.func143,Tryz.ntmps143
    go_wp2_with (first|(go_at_call 144;refine (w_any _ _ h0 h1).mono ?_;rintro e w1 ⟨rfl,rfl⟩)|(go_at_call 131;refine (w_fit _ _ g0 g1).mono ?_;rintro e w1 ⟨rfl,rfl⟩))
    go_ret2
    exact ⟨rfl,rfl⟩
def isN (b:Int) (l:List Int):Bool:=allD b l&& !l.isEmpty
set_option maxHeartbeats 400000 in
theorem w_alldig (s:ByteArray) (b:Int) (w:World) (hs:s.size≤maxLen) (g0:0≤b) (g1:b < 4294967296):
  Calls Tryz.prog 133 #[.string s, .int .u32 b] w fun e w'=>e= .returned (.bool (isN b (L s)))∧w'=w:=by
 unfold maxLen at hs
 go_enter Tryz.func133,Tryz.ntmps133
 go_wp2_with fail
 go_loopw [10] (fun i wx=>∃k:Nat,(k:Int)≤s.size∧i= .int .i64 k∧Hid (allD b ((L s).take k)=true)∧wx=w) (fun i _=>(s.size - intOf i).toNat)
 case atStart=>exact ⟨0,by omega,rfl,by show _=_;simp[allD],rfl⟩
 case round=>
  obtain ⟨k,hk,rfl,hA,hwx⟩:=hrel
  subst hwx
  by_cases hlt:(k:Int) < s.size
  ·have hks:k < s.size:=by omega
   obtain ⟨c0,c1⟩:=L_bd s k hks
   have ht:Hid ((L s).take (k+1)=(L s).take k++[(s[k].toNat:Int)]):=L_take s k hks
   cases hd:isD (s[k].toNat:Int) b
   ·have hfin:Hid (isN b (L s)=false):=by
     show _=_
     have e:L s=(L s).take k++(s[k].toNat:Int)::(L s).drop (k+1):=by rw[←L_drop s k hks,List.take_append_drop]
     have:allD b (L s)=false:=by rw[e];exact allD_mid b _ _ _ hd
     unfold isN;simp[this]
    go_wp2_with (go_at_call 143;refine (w_dvalue0 _ _ _ c0 c1 (by omega) (by omega)).mono ?_;rintro e w1 ⟨rfl,rfl⟩)
    go_ret
    exact ⟨by rw[hfin.out];rfl,rfl⟩
   ·have hA2:Hid (allD b ((L s).take (k+1))=true):=by show _=_;rw[ht.out,allD_snoc,hA.out,hd];rfl
    go_wp2_with (go_at_call 143;refine (w_dvalue0 _ _ _ c0 c1 (by omega) (by omega)).mono ?_;rintro e w1 ⟨rfl,rfl⟩)
    go_roundw
    case rel=>exact ⟨k+1,by omega,by go_num,hA2,by first|rfl|trivial⟩
    case measure=>simp[intOf];omega
  ·obtain rfl:k=s.size:=by omega
   have htk:(L s).take s.size=L s:=List.take_of_length_le (by rw[L_len];exact Nat.le_refl _)
   rw[htk] at hA
   clear htk
   go_wp2_with fail
   go_ret
   exact ⟨ret_b (by unfold isN;rw[hA.out];rw[Lib.toList_data];simp[L]),rfl⟩
theorem num_app (b:Int) (l m:List Int) (b0:2≤b) (h:4294967296≤num b l) (hm:∀c∈m,0≤c∧c < 256):4294967296≤num b (l++m):=by
 induction m generalizing l with
 |nil=>simpa using h
 |cons c m ih=>
  have e:l++c::m=(l++[c])++m:=by simp
  rw[e]
  apply ih
  ·rw[num_snoc]
   have:=mul_ge _ b h b0
   have:=vl_bd c b (hm c (by simp)).1 (hm c (by simp)).2
   omega
  ·intro x hx;exact hm x (by simp[hx])
theorem L_mem (s:ByteArray):∀c∈L s,0≤c∧c < 256:=by
 intro c hc
 unfold L at hc
 rw[List.mem_map] at hc
 obtain ⟨x,_,rfl⟩:=hc
 have:=x.toNat_lt
 omega
def smT (b:Int) (l:List Int):Int×Int:=if 4294967296≤num b l then (0,4) else (num b l,0)
set_option maxHeartbeats 1000000 in
set_option maxRecDepth 10000 in
theorem w_sum (s:ByteArray) (b:Int) (w:World) (hs:s.size≤maxLen) (b0:2≤b) (b1:b≤36) (hD:allD b (L s)=true):
  Calls Tryz.prog 134 #[.string s, .int .u32 b] w fun e w'=>e= .returned (.tuple #[.int .u32 (smT b (L s)).1, .int .i64 (smT b (L s)).2])∧w'=w:=by
 unfold maxLen at hs
 have HD:=hid hD
 clear hD
 go_enter Tryz.func134,Tryz.ntmps134
 go_wp2_with fail
 go_loopw [6,12] (fun N i wx=>∃(k:Nat) (n:Int),(k:Int)≤s.size∧i= .int .i64 k∧N= .int .u64 n∧Hid (n=num b ((L s).take k))∧0≤n∧n < 4294967296∧wx=w) (fun _ i _=>(s.size - intOf i).toNat)
 case atStart=>exact ⟨0,0,by omega,rfl,rfl,by show _=_;simp[num],by omega,by omega,rfl⟩
 case round=>
  obtain ⟨k,n,hk,rfl,rfl,hn,n0,n1,hwx⟩:=hrel
  subst hwx
  by_cases hlt:(k:Int) < s.size
  ·have hks:k < s.size:=by omega
   obtain ⟨c0,c1⟩:=L_bd s k hks
   have ht:Hid ((L s).take (k+1)=(L s).take k++[(s[k].toNat:Int)]):=L_take s k hks
   have hd:Hid (isD (s[k].toNat:Int) b=true):=by
    have h:=HD.out
    show _=_
    unfold allD at h
    rw[List.all_eq_true] at h
    have:=h (s[k].toNat:Int) (by rw[←L_get s k hks];exact List.getElem_mem _)
    exact this
   have ev:Hid (dvA (s[k].toNat:Int)=vl (s[k].toNat:Int) b):=dvA_of _ _ hd.out
   obtain ⟨v0,v1⟩:=vl_bd (s[k].toNat:Int) b c0 c1
   rw[←ev.out] at v0 v1
   obtain ⟨m0,m1⟩:=mul_b n b n0 n1 b0 b1
   have hnum:Hid (num b ((L s).take (k+1))=n*b+dvA (s[k].toNat:Int)):=by show _=_;rw[ht.out,num_snoc,←hn.out,ev.out]
   rcases (show 4294967295 < n*b+dvA (s[k].toNat:Int)∨n*b+dvA (s[k].toNat:Int)≤4294967295 by omega) with hbig|hbig
   ·have hfin:Hid (smT b (L s)=(0,4)):=by
     show _=_
     have e:L s=(L s).take (k+1)++(L s).drop (k+1):=by rw[List.take_append_drop]
     unfold smT
     rw[if_pos]
     rw[e]
     exact num_app b _ _ b0 (by rw[hnum.out];omega) (fun c hc=>L_mem s c (List.mem_of_mem_drop hc))
    go_wp2_with (go_at_call 144;refine (w_any _ _ c0 c1).mono ?_;rintro e w1 ⟨rfl,rfl⟩)
    go_ret2
    exact ⟨by rw[hfin.out];rfl,rfl⟩
   ·go_wp2_with (go_at_call 144;refine (w_any _ _ c0 c1).mono ?_;rintro e w1 ⟨rfl,rfl⟩)
    go_roundw
    case rel=>exact ⟨k+1,n*b+dvA (s[k].toNat:Int),by omega,by go_num,rfl,hid (by rw[hnum.out]),by omega,by omega,by first|rfl|trivial⟩
    case measure=>simp[intOf];omega
  ·obtain rfl:k=s.size:=by omega
   have htk:(L s).take s.size=L s:=List.take_of_length_le (by rw[L_len];exact Nat.le_refl _)
   rw[htk] at hn
   clear htk
   have hfin:Hid (smT b (L s)=(n,0)):=by
    show _=_
    unfold smT;rw[←hn.out,if_neg (by omega)]
   go_wp2_with fail
   go_ret2
   exact ⟨by rw[hfin.out];exact ret_ii rfl rfl,rfl⟩
def cutT (s:ByteArray):ByteArray:=⟨(Lib.trimPrefix s.data.toList (⟨#[45]⟩:ByteArray).data.toList).toArray⟩
def sgn (s:ByteArray):Bool:=Lib.hasPrefix s.data.toList (⟨#[45]⟩:ByteArray).data.toList
theorem w_cut (s:ByteArray) (w:World):Calls Tryz.prog 132 #[.string s, .string ⟨#[45]⟩] w fun e w'=>e= .returned (.tuple #[.string (cutT s), .bool (sgn s)])∧w'=w:=
 strings_CutPrefix s ⟨#[45]⟩ w
theorem cut_L (s:ByteArray):(sgn s=true∧(L s).head? =some 45∧L (cutT s)=(L s).tail)∨(sgn s=false∧¬(L s).head? =some 45∧L (cutT s)=L s):=by
 obtain ⟨⟨l⟩⟩:=s
 cases l with
 |nil=>right;exact ⟨rfl,by simp[L],rfl⟩
 |cons x l=>
  by_cases hx:x=45
  ·left
   subst hx
   refine ⟨?_, ?_, ?_⟩
   ·simp[sgn,Lib.hasPrefix]
   ·simp[L]
   ·simp[cutT,L,Lib.trimPrefix,Lib.hasPrefix]
  ·right
   have h2:¬(45:UInt8)=x:=fun h=>hx h.symm
   refine ⟨?_, ?_, ?_⟩
   ·simp[sgn,Lib.hasPrefix,List.isPrefixOf,h2]
   ·simp only[L,List.map_cons,List.head?_cons,Option.some.injEq]
    intro h
    apply hx
    apply UInt8.toNat_inj.1
    have:x.toNat=45:=by omega
    rw[this];rfl
   ·simp[cutT,L,Lib.trimPrefix,Lib.hasPrefix,h2]
theorem cut_size (s:ByteArray):(cutT s).size≤s.size:=by
 rw[←L_len,←L_len]
 rcases cut_L s with ⟨_,_,h⟩|⟨_,_,h⟩ <;> rw[h] <;> simp
theorem prs_cut (s:ByteArray) (b:Int) (b0:2≤b) (b1:b≤36):prs (L s) b=prsT (sgn s) (L (cutT s)) b:=by
 unfold prs
 rw[if_neg (by omega)]
 rcases cut_L s with ⟨h1,h2,h3⟩|⟨h1,h2,h3⟩
 ·rw[if_pos h2,h1,h3]
 ·rw[if_neg h2,h1,h3]
theorem prsT_not (neg:Bool) (l:List Int) (b:Int) (h:isN b l=false):prsT neg l b=(0,15):=by
 unfold prsT
 unfold isN at h
 by_cases hl:l=[]
 ·rw[if_pos hl]
 ·rw[if_neg hl,if_pos]
  cases h2:allD b l
  ·rfl
  ·rw[h2] at h;simp at h;exact absurd h hl
theorem prsT_is (neg:Bool) (l:List Int) (b:Int) (h:isN b l=true) (hn:0≤num b l):prsT neg l b=(if neg=true then (4294967296 - (smT b l).1)%4294967296 else (smT b l).1,(smT b l).2)∧allD b l=true∧0≤(smT b l).1∧(smT b l).1 < 4294967296:=by
 unfold isN at h
 simp at h
 obtain ⟨h1,h2⟩:=h
 unfold prsT smT
 rw[if_neg h2,if_neg (by rw[h1];decide)]
 by_cases hb:4294967296≤num b l
 ·rw[if_pos hb,if_pos hb]
  refine ⟨?_,h1,by decide,by decide⟩
  cases neg <;> rfl
 ·rw[if_neg hb,if_neg hb]
  exact ⟨rfl,h1,by simpa using hn,by simp;omega⟩
theorem num_nn (b:Int) (l:List Int) (b0:0≤b) (h:∀c∈l,0≤c∧c < 256):0≤num b l:=by
 have:∀(m:List Int) (a:Int),0≤a→(∀c∈m,0≤c∧c < 256)→0≤m.foldl (fun a c=>a*b+vl c b) a:=by
  intro m
  induction m with
  |nil=>intro a ha _;simpa using ha
  |cons c m ih=>
   intro a ha hm
   rw[List.foldl_cons]
   apply ih
   ·have:=Int.mul_nonneg ha b0
    have:=vl_bd c b (hm c (by simp)).1 (hm c (by simp)).2
    omega
   ·intro x hx;exact hm x (by simp[hx])
 exact this l 0 (by omega) h
set_option maxHeartbeats 1000000 in
theorem w_dparse0 (s:ByteArray) (b:Int) (w:World) (hs:s.size≤maxLen) (g0:0≤b) (g1:b < 4294967296):
  Calls Tryz.prog 122 #[.string s, .int .u32 b] w fun e w'=>e= .returned (.tuple #[.int .u32 (prs (L s) b).1, .int .i64 (prs (L s) b).2])∧w'=w:=by
 cases hf:fitB b
 ·have e1:Hid (prs (L s) b=(0,1)):=by show _=_;unfold prs;rw[if_pos (by unfold fitB at hf;simp at hf;omega)]
  go_enter Tryz.func122,Tryz.ntmps122
  go_wp2_with (first|(go_at_call 131;refine (w_fit _ _ g0 g1).mono ?_;rintro e w1 ⟨rfl,rfl⟩))
  go_ret2
  exact ⟨by rw[e1.out];rfl,rfl⟩
 ·have hb:2≤b∧b≤36:=by unfold fitB at hf;simpa using hf
  obtain ⟨b0,b1⟩:=hb
  have hz:Hid ((cutT s).size≤maxLen):=Nat.le_trans (cut_size s) hs
  clear hs
  cases hN:isN b (L (cutT s))
  ·have e1:Hid (prs (L s) b=(0,15)):=by show _=_;rw[prs_cut s b b0 b1];exact prsT_not _ _ _ hN
   go_enter Tryz.func122,Tryz.ntmps122
   go_wp2_with (first|(go_at_call 131;refine (w_fit _ _ g0 g1).mono ?_;rintro e w1 ⟨rfl,rfl⟩)|(go_at_call 132;refine (w_cut _ _).mono ?_;rintro e w1 ⟨rfl,rfl⟩)|(go_at_call 133;refine (w_alldig _ _ _ hz.out g0 g1).mono ?_;rintro e w1 ⟨rfl,rfl⟩))
   go_ret2
   exact ⟨by rw[e1.out];rfl,rfl⟩
  ·obtain ⟨p1,p2,p3,p4⟩:=prsT_is (sgn s) (L (cutT s)) b hN (num_nn b _ g0 (L_mem _))
   rw[prs_cut s b b0 b1,p1]
   clear p1
   have P2:=hid p2
   clear p2
   cases hg:sgn s
   ·go_enter Tryz.func122,Tryz.ntmps122
    go_wp2_with (first|(go_at_call 131;refine (w_fit _ _ g0 g1).mono ?_;rintro e w1 ⟨rfl,rfl⟩)|(go_at_call 132;refine (w_cut _ _).mono ?_;rintro e w1 ⟨rfl,rfl⟩)|(go_at_call 133;refine (w_alldig _ _ _ hz.out g0 g1).mono ?_;rintro e w1 ⟨rfl,rfl⟩)|(go_at_call 134;refine (w_sum _ _ _ hz.out b0 b1 P2.out).mono ?_;rintro e w1 ⟨rfl,rfl⟩))
    go_ret2
    exact ⟨ret_ii (by simp) rfl,rfl⟩
   ·go_enter Tryz.func122,Tryz.ntmps122
    go_wp2_with (first|(go_at_call 131;refine (w_fit _ _ g0 g1).mono ?_;rintro e w1 ⟨rfl,rfl⟩)|(go_at_call 132;refine (w_cut _ _).mono ?_;rintro e w1 ⟨rfl,rfl⟩)|(go_at_call 133;refine (w_alldig _ _ _ hz.out g0 g1).mono ?_;rintro e w1 ⟨rfl,rfl⟩)|(go_at_call 134;refine (w_sum _ _ _ hz.out b0 b1 P2.out).mono ?_;rintro e w1 ⟨rfl,rfl⟩))
    go_ret2
    exact ⟨ret_ii (by simp;try omega) rfl,rfl⟩
def litB (c:Int):Int:=if sm c=104 then 16 else if sm c=111 then 8 else if sm c=98 then 2 else if sm c=100 then 10 else 0
def litR (l:List Int) (b:Int):Int×Bool:=((prs l b).1,(prs l b).2==0)
def lit (l:List Int):Int×Bool:=
 if 2 < l.length∧l[1]? =some 35 then (if litB (l.headD 0)=0 then (0,false) else litR (l.drop 2) (litB (l.headD 0))) else litR l 10
theorem lit_plain (s:ByteArray) (h:¬(2 < s.size∧(L s)[1]? =some 35)):lit (L s)=litR (L s) 10:=by
 unfold lit;rw[L_len,if_neg h]
theorem lit_sign (s:ByteArray) (h:2 < s.size) (h1:(s[1].toNat:Int)=35):lit (L s)=if litB (s[0].toNat:Int)=0 then (0,false) else litR ((L s).drop 2) (litB (s[0].toNat:Int)):=by
 have e1:(L s)[1]? =some 35:=by rw[List.getElem?_eq_getElem (by rw[L_len];omega),L_get s 1 (by omega),h1]
 have e0:(L s).headD 0=(s[0].toNat:Int):=by
  rw[List.headD_eq_head?_getD,List.head?_eq_getElem?,List.getElem?_eq_getElem (by rw[L_len];omega),L_get s 0 (by omega)];rfl
 unfold lit;rw[L_len,if_pos ⟨h,e1⟩,e0]
theorem w_baseof (c:Int) (w:World) (h0:0≤c) (h1:c < 256):Calls Tryz.prog 121 #[.int .u8 c] w fun e w'=>e= .returned (.int .u32 (litB c))∧w'=w:=by
 go_enter Tryz.func121,Tryz.ntmps121
 go_wp2
 all_goals go_ret
 all_goals refine ⟨ret_i ?_,rfl⟩
 all_goals go_light
 all_goals try simp only[beq_iff_eq,beq_eq_false_iff_ne] at*
 all_goals (unfold litB sm;omega)
theorem litB_bd (c:Int):0≤litB c∧litB c≤16:=by unfold litB;omega
theorem litR_unfit (l:List Int) (b:Int) (h:b < 2∨36 < b):litR l b=(0,false):=by
 unfold litR prs;rw[if_pos h];rfl
theorem litR_nil (b:Int):litR [] b=(0,false):=by
 by_cases h:b < 2∨36 < b
 ·exact litR_unfit [] b h
 ·unfold litR prs;rw[if_neg h];rfl
theorem litR_two (c:Int):litR [c,35] 10=(0,false):=by
 have h35:isD 35 10=false:=by decide
 unfold litR prs
 rw[if_neg (by omega)]
 by_cases hc:c=45
 ·subst hc
  rw[if_pos (by rfl)]
  simp[prsT,allD,h35]
 ·rw[if_neg (by simpa using hc)]
  simp[prsT,allD,h35]
theorem lit_sign2 (s:ByteArray) (h:1 < s.size) (h1:(s[1].toNat:Int)=35):lit (L s)=litR ((L s).drop 2) (litB (s[0].toNat:Int)):=by
 by_cases h2:2 < s.size
 ·rw[lit_sign s h2 h1]
  by_cases hb:litB (s[0].toNat:Int)=0
  ·rw[if_pos hb,hb,litR_unfit _ 0 (by omega)]
  ·rw[if_neg hb]
 ·have e0:=L_drop s 0 (by omega)
  have e1:=L_drop s 1 h
  have e2:(L s).drop 2=[]:=List.drop_eq_nil_of_le (by rw[L_len];omega)
  rw[lit_plain s (by omega),e2,litR_nil]
  simp only[List.drop_zero] at e0
  rw[e0,e1,e2,h1,litR_two]
set_option maxHeartbeats 1000000 in
set_option maxRecDepth 10000 in
theorem w_dliteral (s:ByteArray) (w:World) (hs:s.size≤maxLen):
  Calls Tryz.prog 106 #[.string s] w fun e w'=>e= .returned (.tuple #[.int .u32 (lit (L s)).1, .bool (lit (L s)).2])∧Gr w w':=by
 have hs2:=hs
 unfold maxLen at hs2
 by_cases hz:1 < s.size
 ·have z0:0 < s.size:=by omega
  have zI:(2:Int)≤(s.size:Int):=by omega
  by_cases hc:((s[1]'hz).toNat:Int)=35
  ·have e1:=lit_sign2 s hz hc
   have hc2:(((s[1]'hz).toNat:Int)==35)=true:=by simp[hc]
   clear hc
   have hcb:=hid (L_bd s 0 z0)
   obtain ⟨T,hT⟩:∃T,s.extract 2 s.size=T:=⟨_,rfl⟩
   have hTL:L T=(L s).drop 2:=by rw[←hT];exact L_from s 2
   have hTz:Hid (T.size≤maxLen):=by show _≤_;rw[←hT];simp;unfold maxLen;omega
   rw[←hTL] at e1
   clear hTL
   rw[e1]
   clear e1
   have hlb:=hid (litB_bd (s[0].toNat:Int))
   go_enter Tryz.func106,Tryz.ntmps106
   go_wp2_with (first|(go_at_call 122;refine (w_dparse0 _ _ _ hTz.out (by omega) (by omega)).mono ?_;rintro e w2 ⟨rfl,rfl⟩))
   go_quiet ((go_at_call 121;exact Calls.quiet_of_same (w_baseof _ _ hcb.out.1 hcb.out.2)))
   go_wp2_with (first|(go_at_call 122;refine (w_dparse0 _ _ _ hTz.out hlb.out.1 (by have:=hlb.out.2;omega)).mono ?_;rintro e w2 ⟨rfl,rfl⟩))
   go_ret2
   exact ⟨rfl,grown_drewN (Gr.refl _) _⟩
  ·have e1:lit (L s)=litR (L s) 10:=lit_plain s (by
    intro h
    have e:(L s)[1]? =some (s[1].toNat:Int):=by rw[List.getElem?_eq_getElem (by rw[L_len];omega),L_get s 1 (by omega)]
    rw[e] at h
    exact hc (by simpa using h.2))
   have hc2:(((s[1]'hz).toNat:Int)==35)=false:=beq_eq_false_iff_ne.2 hc
   rw[e1]
   clear hc e1
   go_enter Tryz.func106,Tryz.ntmps106
   go_wp2_with (go_at_call 122;refine (w_dparse0 _ _ _ hs (by omega) (by omega)).mono ?_;rintro e w2 ⟨rfl,rfl⟩)
   go_ret2
   exact ⟨rfl,Gr.refl _⟩
 ·have e1:lit (L s)=litR (L s) 10:=lit_plain s (fun h=>hz (by omega))
  rw[e1]
  clear e1
  go_enter Tryz.func106,Tryz.ntmps106
  go_wp2_with (go_at_call 122;refine (w_dparse0 _ _ _ hs (by omega) (by omega)).mono ?_;rintro e w2 ⟨rfl,rfl⟩)
  go_ret2
  exact ⟨rfl,Gr.refl _⟩
open Go.ChangeShapes Go.WideShapes Go.ChangeAt Go.RowKit Go.Maps
def txM (m:Mk) (k:Int) (t:List Int):Mk:=if k=3 then addT (addT m 18 0 t) 144 0 [] else addT m 18 0 t
set_option maxHeartbeats 4000000 in
set_option maxRecDepth 100000 in
theorem fw_text {base q B:Nat} {w:World} {V:Rv} {x6:Value} {m:Mk} {left:List Tk} {n:Int} (c:CmpM base q B w V x6 m left) (g:MkG m) (r:MkR m n) (hn:n≤18000) (k p:Int) (t:List Int) (hb:bytesL t) (hl:t.length≤255):
  Calls Tryz.prog 61 #[.pointer (some ⟨q,0,none⟩), .agg #[.int .i64 k, .string (strOfNums t), .int .i64 p]] w fun e w'=>e= .returned (.tuple #[])∧CmpS base q B w' (txM m k t) left∧Below base w w':=by
 have hsz:=str_size (t:=t) (by omega)
 have hLS:LB (strOfNums t)=t:=LB_nums t hb
 obtain ⟨o1,o2⟩:=ok_text hl
 have h0:=g.hx
 have g1:MkG (addT m 18 0 t):=g.add 18 0 t (by decide+kernel) (fun q=>absurd q (by decide)) (by decide) (by omega)
 have r1:=r.add 18 0 t 257 o1 ⟨by show (0:Int)≤0;decide,by show (0:Int) < 4294967296;decide,hb⟩ (by rw[o2];omega)
 obtain ⟨S,hS⟩:∃S,strOfNums t=S:=⟨_,rfl⟩
 rw[hS] at hsz hLS ⊢
 have bx:=box_below w (.cells #[.int .i64 k, .string S, .int .i64 p] 77)
 have st:=stands_new w #[.int .i64 k, .string S, .int .i64 p] 77
 have hB:=hid (c.row.new (Nat.le_refl w.heap.size))
 have c0:=c.below bx
 have B0:=hid (c.bel bx)
 have G:=hid g.fl
 have G1:=hid g1.fl
 have R:=hid r
 have R1:=hid r1
 have HS:=hid c.row.hs
 clear c g r g1 r1 o2
 go_enter Tryz.func61,Tryz.ntmps61
 go_upto_region 1 with fail
 generalize w.alloc (.cells #[.int .i64 k, .string S, .int .i64 p] 77)=W0 at bx st c0 B0 ⊢
 have cD:Below W0.heap.size W0 W0.drew:=below_drewN (Below.refl _ W0) 1
 have y1:=st.cell 1 _ rfl
 obtain ⟨b1,b2,b3⟩:=rst_bd R.out (by omega)
 have cl:=fw_lay (c0.below cD).row 18 0 0 S (by rw[hLS];exact o1) (by decide) (by decide) hsz b1 b2 b3
 have C0:=hid (c0.below cD)
 have BD:=hid (btr B0.out (c0.bel cD))
 have SD:=hid (st.below cD)
 clear c0 cD bx st b1 b2 b3
 go_wp2_with fail
 go_region_with (go_at_call 64;refine cl.mono ?_;rintro e w1 ⟨rfl,vt,h1,n1⟩;have c1:=C0.out.step (m':=addT m 18 0 t) h1 n1 (by rw[hLS];exact (G.out.rst ⟨18,0,t,0⟩).symm) rfl rfl;have B1:=hid (btr BD.out (C0.out.row.toB n1));have st1:=SD.out.frm n1.fr hB.out;have e0:=st1.cell 0 _ rfl;have C1:=hid c1;clear c1 h1 n1 st1)
 all_goals (
  by_cases hk:k=3
  ·have et:txM m k t=addT (addT m 18 0 t) 144 0 []:=by unfold txM;rw[if_pos hk]
   subst hk
   have cl2:=cm_codes C1.out G1.out R1.out (by omega) 144 (by decide+kernel)
   go_wp2_with (first|(go_at_call 37;refine cl2.mono ?_;rintro e w2 ⟨rfl,V2,c2,b2⟩)|fail)
   go_end0
   exact ⟨rfl,⟨_,_,by rw[et];exact c2⟩,btr B1.out b2⟩
  ·have et:txM m k t=addT m 18 0 t:=by unfold txM;rw[if_neg hk]
   have hk2:(k==3)=false:=by simpa using hk
   go_wp2_with fail
   go_end0
   exact ⟨rfl,⟨_,_,by rw[et];exact C1.out⟩,B1.out⟩)
theorem prsT_bd (neg:Bool) (l:List Int) (b:Int) (b0:0≤b) (h:bytesL l):0≤(prsT neg l b).1∧(prsT neg l b).1 < 4294967296:=by
 have hn:=num_nn b l b0 h
 unfold prsT
 by_cases h1:l=[]
 ·rw[if_pos h1];simp
 rw[if_neg h1]
 by_cases h2:allD b l=false
 ·rw[if_pos h2];simp
 rw[if_neg h2]
 by_cases h3:4294967296≤num b l
 ·rw[if_pos h3];simp
 rw[if_neg h3]
 simp only
 cases neg
 ·rw[if_neg (by simp)];omega
 ·rw[if_pos rfl];omega
theorem litR_bd (l:List Int) (b:Int) (b0:0≤b) (h:bytesL l):0≤(litR l b).1∧(litR l b).1 < 4294967296:=by
 unfold litR prs
 simp only
 split
 ·simp
 ·split
  ·exact prsT_bd _ _ _ b0 (fun x hx=>h x (List.mem_of_mem_tail hx))
  ·exact prsT_bd _ _ _ b0 h
theorem lit_bd (l:List Int) (h:bytesL l):0≤(lit l).1∧(lit l).1 < 4294967296:=by
 unfold lit
 split
 ·split
  ·simp
  ·exact litR_bd _ _ (litB_bd _).1 (fun x hx=>h x (List.mem_of_mem_drop hx))
 ·exact litR_bd _ _ (by decide) h
def otR (m:Mk) (t:List Int) (left:List Tk):(Mk×List Tk) ⊕ Int:=match fndN m.nm t with
 |some c=> .inl (addT m c 0 [],left)
 |none=>if (lit t).2=true then .inl (addT m 16 (lit t).1 [],left) else .inr 14
set_option maxHeartbeats 4000000 in
set_option maxRecDepth 100000 in
theorem fw_other {base q B:Nat} {w:World} {V:Rv} {x6:Value} {m:Mk} {left:List Tk} {n:Int} (c:CmpM base q B w V x6 m left) (g:MkG m) (r:MkR m n) (hn:n≤18000) (t:List Int) (hb:bytesL t) (hl5:t.length≤5000) (hlb:0≤(lit t).1∧(lit t).1 < 4294967296):
  Calls Tryz.prog 90 #[.pointer (some ⟨q,0,none⟩), .string (strOfNums t)] w (CmpQ base q B w (otR m t left)):=by
 have hsz:=str_size hl5
 have hkey:=key_of hl5
 have hcd:=g.codes r
 obtain ⟨D,nn,h1,h2,h3,h4⟩:=mp_look c.mp hb
 have cL:=fun w=>w_dliteral (strOfNums t) w hsz
 rw[L_nums t hb] at cL
 have f7:=c.c7
 obtain ⟨S,hS⟩:∃S,strOfNums t=S:=⟨_,rfl⟩
 rw[hS] at hkey cL h4 ⊢
 unfold otR
 rcases hf:fndN m.nm t with _|cc
 ·rw[hf] at h4
  simp only at h4 ⊢
  obtain ⟨⟨N,O⟩,hNO⟩:∃x,lit t=x:=⟨_,rfl⟩
  rw[hNO] at cL hlb ⊢
  simp only at cL hlb ⊢
  have G:=hid g.fl
  have R:=hid r
  have C:=hid c
  have hs:=hid c.row.hs
  cases O
  ·rw[if_neg (by simp)]
   clear c g r hcd hf
   go_enter Tryz.func90,Tryz.ntmps90
   go_wp2_with (first
    |(at_lookup;refine wpList_lookup_own_ok_int _ rfl _ _ 52 rfl 9 3 .i64 lawS Tryz.underlying52 Tryz.underlying3 (zeroJ _) B nn D rfl h1 _ _ rfl hkey ?_;intro c5 hat hwc)
    |(go_at_call 106;refine (cL _).mono ?_;rintro e w1 ⟨rfl,b1⟩)
    |fail)
   go_ret
   exact ⟨b1.mono hs.out,rfl⟩
  ·rw[if_pos rfl]
   have ok:=(ok_num (v:=N)).1
   clear c g r hcd hf
   go_enter Tryz.func90,Tryz.ntmps90
   go_wp2_with (first
    |(at_lookup;refine wpList_lookup_own_ok_int _ rfl _ _ 52 rfl 9 3 .i64 lawS Tryz.underlying52 Tryz.underlying3 (zeroJ _) B nn D rfl h1 _ _ rfl hkey ?_;intro c5 hat hwc)
    |(go_at_call 106;refine (cL _).mono ?_;rintro e w1 ⟨rfl,b1⟩;have c1:=C.out.below b1;have cl:=cm_lay c1 G.out R.out (by omega) 16 N ⟨#[]⟩ (by rw[emp_LB];exact ok) hlb.1 hlb.2 (by decide);rw[emp_LB] at cl)
    |(go_at_call 64;refine cl.mono ?_;rintro e w2 ⟨rfl,V2,c2,b2⟩)
    |fail)
   go_ret
   exact ⟨btr (b1.mono hs.out) b2,rfl,_,_,c2⟩
 ·rw[hf] at h4
  simp only at h4 ⊢
  obtain ⟨h4,h5⟩:=h4
  obtain ⟨o1,o2,o3,o4,o5⟩:=fnd_code hcd hf
  have cl:=cm_codes c g.fl r (by omega) cc o1
  clear g r hcd hf c
  go_enter Tryz.func90,Tryz.ntmps90
  go_wp2_with (first
   |(at_lookup;refine wpList_lookup_own_ok_int _ rfl _ _ 52 rfl 9 3 .i64 lawS Tryz.underlying52 Tryz.underlying3 (zeroJ _) B nn D rfl h1 _ _ rfl hkey ?_;intro c5 hat hwc;have hc5:c5=cc:=(by have:=hat.symm.trans (h5 _);injection this with this;injection this);subst hc5)
   |(go_at_call 37;refine cl.mono ?_;rintro e w2 ⟨rfl,V2,c2,b2⟩)
   |fail)
  go_ret
  exact ⟨b2,rfl,_,_,c2⟩
def acM:List Int→Mk→Option Mk
 |[],m=>some m
 |a::l,m=>match flwF m.fl (actC a).1 m.out.length (actC a).2 with
  |none=>none
  |some f=>acM l (addT {m with fl:=f} (actC a).1 0 [])
def acR (m:Mk) (l:List Int) (left:List Tk):(Mk×List Tk) ⊕ Int:=match acM l m with
 |none=> .inr 13
 |some m'=> .inl (m',left)
theorem actC_tab (a:Int):(actC a).1∈tabC:=by
 by_cases h1:a=1
 ·subst h1;decide
 by_cases h2:a=2
 ·subst h2;decide
 by_cases h3:a=3
 ·subst h3;decide
 by_cases h4:a=4
 ·subst h4;decide
 by_cases h5:a=5
 ·subst h5;decide
 by_cases h6:a=6
 ·subst h6;decide
 by_cases h7:a=7
 ·subst h7;decide
 by_cases h8:a=8
 ·subst h8;decide
 by_cases h9:a=9
 ·subst h9;decide
 by_cases h10:a=10
 ·subst h10;decide
 by_cases h11:a=11
 ·subst h11;decide
 by_cases h12:a=12
 ·subst h12;decide
 by_cases h13:a=13
 ·subst h13;decide
 by_cases h14:a=14
 ·subst h14;decide
 unfold actC
 rw[if_neg h1,if_neg h2,if_neg h3,if_neg h4,if_neg h5,if_neg h6,if_neg h7,if_neg h8,if_neg h9,if_neg h10,if_neg h11,if_neg h12,if_neg h13,if_neg h14]
 decide
theorem ac_step {m:Mk} {n:Int} (g:MkG m) (r:MkR m n) (ho:m.op=true) {a:Int} {f:Fw} (e:flwF m.fl (actC a).1 m.out.length (actC a).2=some f):MkG (addT {m with fl:=f} (actC a).1 0 [])∧MkR (addT {m with fl:=f} (actC a).1 0 []) (n+3):=by
 have h1:layF (actC a).2 [(actC a).1] m=some (addT {m with fl:=f} (actC a).1 0 []):=by unfold layF;rw[e];rfl
 exact ⟨MkG.lay _ _ (fun c hc=>by rw[List.mem_singleton] at hc;subst hc;exact actC_tab a) g ho h1,by have:=MkR.lay _ _ (fun c hc=>by rw[List.mem_singleton] at hc;subst hc;exact actC_tab a) r h1;simpa using this⟩
set_option maxHeartbeats 4000000 in
set_option maxRecDepth 100000 in
theorem fw_actsL {base q B:Nat} {w:World} {V:Rv} {x6:Value} {m:Mk} {left:List Tk} {n:Int} (c:CmpM base q B w V x6 m left) (g:MkG m) (r:MkR m n) (hn:n≤17000) (ho:m.op=true) (va:Value) (l:List Int) (hr:Rd .i64 w va l) (hv:∀k,va.ownBlock=some k→¬inD q V k∧k < w.heap.size) (hl:l.length≤2) (ha:∀a∈l,1≤a∧a≤15):
  Calls Tryz.prog 89 #[.pointer (some ⟨q,0,none⟩),va] w (CmpQ base q B w (acR m l left)):=by
 have hla:=rd_len hr uJf (P:=Tryz.prog)
 have hs:=hid c.row.hs
 obtain ⟨F,hF⟩:∃F,acR m l left=F:=⟨_,rfl⟩
 rw[hF]
 have HF:=hid hF
 have HA:=hid ha
 clear hF ha
 go_enter Tryz.func89,Tryz.ntmps89
 go_wp2_with fail
 go_loopw [10] (fun I wx=>∃(k:Nat) (mk:Mk) (Vk:Rv),(k:Int)≤l.length∧I= .int .i64 k∧CmpM base q B wx Vk x6 mk left∧Hid (MkG mk∧MkR mk (n+3*k)∧mk.op=true∧acM l m=acM (l.drop k) mk∧Rd .i64 wx va l∧(∀j,va.ownBlock=some j→¬inD q Vk j∧j < wx.heap.size)∧Below base w wx)) (fun I _=>(l.length - intOf I).toNat)
 case atStart=>exact ⟨0,m,V,by omega,rfl,c,hid ⟨g,by simpa using r,ho,rfl,hr,hv,Below.refl _ _⟩⟩
 case round=>
  obtain ⟨k,mk,Vk,hk,rfl,ck,HH⟩:=hrel
  by_cases hlt:(k:Int) < l.length
  ·have hkl:k < l.length:=by omega
   obtain ⟨gk,rk,hok,ek,rdk,hvk,bk⟩:=HH.out
   obtain ⟨a1,i1,c1⟩:=rd_idx rdk uJf zJf k (by omega) hlt
   simp only[Int.toNat_natCast] at c1
   rw[show l.getD k 0=l[k] by rw[List.getD_eq_getElem?_getD,List.getElem?_eq_getElem hkl];rfl] at c1
   have hx:=HA.out _ (List.getElem_mem hkl)
   rw[List.drop_eq_getElem_cons hkl] at ek
   obtain ⟨a,hae⟩:∃a,l[k]=a:=⟨_,rfl⟩
   rw[hae] at c1 hx ek
   have hz:=rk.sz
   have ca:=fw_act ck.row (bnd_rst gk.fl rk.lf (by omega)) a hx
   rw[gk.fl.act a hx] at ca
   have ek2:acM (a::l.drop (k+1)) mk=match flwF mk.fl (actC a).1 mk.out.length (actC a).2 with
    |none=>none
    |some f=>acM (l.drop (k+1)) (addT {mk with fl:=f} (actC a).1 0 []):=by
    show (match flwF mk.fl (actC a).1 mk.out.length (actC a).2 with
     |none=>none
     |some f=>acM (l.drop (k+1)) (addT {mk with fl:=f} (actC a).1 0 []))=_
    rfl
   rw[ek2] at ek
   rcases hfl:flwF mk.fl (actC a).1 mk.out.length (actC a).2 with _|f
   ·rw[hfl] at ca ek
    simp only[Option.map_none] at ca ek
    have hFe:Hid (F= .inr 13):=hid (by rw[←HF.out];unfold acR;rw[ek])
    have CK:=hid ck
    clear hae ek ek2 hfl gk rk hok rdk hvk HF HH ck hx hz
    go_wp2_with (first|(go_at_call 105;refine ca.mono ?_;rintro e w5 P5;obtain rfl:=P5.ret)|fail)
    go_ret
    rw[hFe.out]
    exact ⟨btr bk P5.2,rfl⟩
   ·rw[hfl] at ca ek
    simp only[Option.map_some] at ca ek
    obtain ⟨g2,r2⟩:=ac_step gk rk hok hfl
    have HH2:=hid (And.intro g2 (And.intro r2 (And.intro ek (And.intro rdk (And.intro hvk bk)))))
    have hok2:=hid hok
    have CK:=hid ck
    clear hae ek ek2 hfl gk rk hok rdk hvk HF HH ck hx hz g2 r2
    go_wp2_with (first|(go_at_call 105;refine ca.mono ?_;rintro e w5 P5;obtain rfl:=P5.ret)|fail)
    obtain ⟨-,V5,h5,n5⟩:=P5
    obtain ⟨q1,q2,q3,q4,q5,q6⟩:=HH2.out
    have c5:=CK.out.step (m':=addT {mk with fl:=f} (actC a).1 0 []) h5 n5 rfl rfl rfl
    have f5:=n5.fr
    go_roundw
    case rel=>
     refine ⟨k+1,_,V5,by omega,by go_num,c5,hid ⟨q1,q2.le (by push_cast;omega),hok2.out,q3, ?_,fun j hj=>⟨n5.notin (q5 j hj).1 (q5 j hj).2,Nat.lt_of_lt_of_le (q5 j hj).2 f5.size⟩,btr q6 (CK.out.row.toB n5)⟩⟩
     rcases q4 with z|⟨b,off,cap,rfl,z0,z1,z2,zc⟩
     ·exact Or.inl z
     ·refine Or.inr ⟨b,off,cap,rfl,z0,z1,z2,fun i hi=> ?_⟩
      have:=zc i hi
      obtain ⟨y1,y2⟩:=q5 b rfl
      unfold World.cell? at this ⊢
      simp only at this ⊢
      rw[f5.block b y2 y1]
      exact this
    case measure=>simp[intOf];omega
  ·obtain ⟨gk,rk,hok,ek,rdk,hvk,bk⟩:=HH.out
   have hd:l.drop k=[]:=List.drop_eq_nil_of_le (by omega)
   rw[hd] at ek
   have hFe:F= .inl (mk,left):=by rw[←HF.out];unfold acR;rw[ek];rfl
   go_wp2_with fail
   go_ret
   first|exact ⟨bk,rfl,_,_,ck⟩|(rw[hFe];exact ⟨bk,rfl,_,_,ck⟩)
end Go.Proofs.YtkkehbdahniiaaaGreatDoor
