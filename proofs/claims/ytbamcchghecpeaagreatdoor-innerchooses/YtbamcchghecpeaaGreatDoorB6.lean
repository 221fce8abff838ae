import Derived.Lib.BytesEntry
import Derived.Laws.Externs
import Derived.Laws.BytesArg
import Derived.Lib.Bytealg
import Derived.Lib.ConvBytes
import Derived.Lib.AtoiErrMem
import Derived.Lib.Slices
import Derived.Lib.Strings
import Derived.Lib.Walk
import Derived.Lib.BufferWrite
import Derived.Lib.UnsafeStr
import Derived.Lib.IfaceEq
import Derived.Lib.Hide
import Derived.Laws.MakeOwn
import Derived.Laws.Strings3
import Derived.Laws.Closers25
import Derived.Laws.Closers25b
import Derived.BigCall
import Derived.BigGuard
import Derived.Laws.BitsAllLaws
import Derived.Test.YtbamcchghecpeaaGreatDoorRows
import Derived.ChangeSame
import Derived.Test.YtbamcchghecpeaaGreatDoorB5
set_option linter.unusedVariables false
set_option linter.unusedSimpArgs false
set_option maxRecDepth 100000
namespace Go.Proofs.YtbamcchghecpeaaGreatDoor
theorem iSwp_n (s:Rs) (k:Nat) (l:List Int):(iSwp s k l).1.n=s.n:=by
 unfold iSwp
 split
 ·rfl
 ·split <;> rfl
theorem iTo_n (s:Rs) (k:Int):(iTo s k).1.n=s.n:=by
 unfold iTo
 dsimp only
 repeat' split
 all_goals first|rfl|exact iSwp_n _ _ _
theorem iLop_n (s:Rs) (o:Opd):(iLop s o).1.n=s.n:=by
 have q:=iSwp_n s 1 []
 unfold iLop
 dsimp only
 repeat' split
 all_goals first|rfl|exact q
theorem iOp_n (s:Rs) (o:Opd):(iOp s o).1.n=s.n:=by
 have q:=iSwp_n s 2 []
 unfold iOp
 dsimp only
 repeat' split
 all_goals first|rfl|exact iSwp_n _ _ _|exact q|exact iTo_n _ _|exact iLop_n _ _
theorem swp_pop_ok {s r:Rs} (hst:r.m.stack=s.m.stack) (ht:(iTop s 1).2=0) (h64:s.m.stack.length≤64):(iSwp r 1 []).2=0:=by
 unfold iTop at ht
 split at ht
 ·simp at ht
 ·unfold iSwp
  rw[hst,if_neg (by omega),if_neg (by simp;omega)]
theorem iTo_no {s:Rs} {k:Int} (h64:s.m.stack.length≤64) (h:¬(iTo s k).2=0):(iTo s k).1=s:=by
 unfold iTo at h ⊢
 dsimp only at h ⊢
 by_cases c1:¬((iWd s k).2.2.1=4∨(iWd s k).2.2.1=6∨(iWd s k).2.2.1=7)
 ·rw[if_pos c1]
 ·rw[if_neg c1] at h ⊢
  by_cases c2:(iTop s 1).2≠0
  ·rw[if_pos c2]
  ·rw[if_neg c2] at h ⊢
   have c2':(iTop s 1).2=0:=by simpa using c2
   split
   ·rfl
   ·rename_i c3
    rw[if_neg c3] at h
    split
    ·rename_i c4
     rw[if_pos c4] at h
     split
     ·rfl
     ·rename_i c5
      rw[if_neg c5] at h
      exact (h (swp_pop_ok (s:=s) rfl c2' h64)).elim
    ·rename_i c4
     rw[if_neg c4] at h
     exact (h (swp_pop_ok (s:=s) rfl c2' h64)).elim
theorem iLop_no {s:Rs} {o:Opd} (h:¬(iLop s o).2.2=0):(iLop s o).1=s:=by
 unfold iLop at h ⊢
 dsimp only at h ⊢
 repeat' split at h
 all_goals first
  |exact absurd rfl h
  |skip
 ·rename_i c;rw[if_pos c]
 ·rename_i c1 c2 c3 c4;rw[if_neg c1,if_neg c2,if_pos c3,if_pos c4]
theorem iOp_no {s:Rs} {o:Opd} (h64:s.m.stack.length≤64) (h:¬(iOp s o).2.2=0):(iOp s o).1=s:=by
 unfold iOp at h ⊢
 dsimp only at h ⊢
 by_cases c1:o.1=1
 ·rw[if_pos c1] at h ⊢;exact iSwp_no h
 rw[if_neg c1] at h ⊢
 by_cases c2:o.1=3
 ·rw[if_pos c2]
 rw[if_neg c2] at h ⊢
 by_cases c3:o.1=4
 ·rw[if_pos c3] at h ⊢
  split
  ·rfl
  ·rename_i g;rw[if_neg g] at h;exact iSwp_no h
 rw[if_neg c3] at h ⊢
 by_cases c4:o.1=5∨o.1=6
 ·rw[if_pos c4] at h ⊢
  split
  ·rfl
  ·rename_i g
   rw[if_neg g] at h
   have g':(iTop s 2).2=0:=by simpa using g
   have z:(iSwp s 2 []).2=0:=by
    unfold iTop at g'
    split at g'
    ·simp at g'
    ·unfold iSwp
     rw[if_neg (by omega),if_neg (by simp;omega)]
   split
   ·rename_i g2;rw[if_pos g2] at h;exact absurd z h
   ·rename_i g2
    rw[if_neg g2] at h
    split
    ·rfl
    ·rename_i g3;rw[if_neg g3] at h;exact absurd z h
 rw[if_neg c4] at h ⊢
 by_cases c5:o.1=7∨o.1=8∨o.1=9
 ·rw[if_pos c5] at h ⊢;exact iLop_no h
 rw[if_neg c5] at h ⊢
 by_cases c6:o.1=10
 ·rw[if_pos c6] at h ⊢
  split
  ·rfl
  ·rename_i g
   rw[if_neg g] at h
   split
   ·rename_i g2;rw[if_pos g2] at h;exact iSwp_no h
   ·rename_i g2;rw[if_neg g2] at h;exact iSwp_no h
 rw[if_neg c6] at h ⊢
 by_cases c7:o.1=11
 ·rw[if_pos c7] at h ⊢;exact iSwp_no h
 rw[if_neg c7] at h ⊢
 exact iTo_no h64 h
theorem code_sp {s r:Rs} (h:Spr s r) (wd:Int):(iWd r wd).2.2.2.2=(iWd s wd).2.2.2.2:=by
 have g:shW (r.m.words.getD wd.toNat ([],0,0,0,[]))=shW (s.m.words.getD wd.toNat ([],0,0,0,[])):=by
  rw[←getD_map shW r.m.words,←getD_map shW s.m.words,h.words]
 exact congrArg (fun x=>x.2.2.2) g
theorem rn_sp {s:Rs} (h:Okr s) (xt:Int) (k:Nat):Spr s (rn iP (.word xt) s k).1∧Er (rn iP (.word xt) s k).2.2:=run_sp kq_iP er_iP (k+1) (.word xt) s k h trivial
theorem unw_colonE (b wd at_ at':Int) (r:List Fm) (m:Mc) (ret:List Int) (thr:Int) (k:Nat) (e:Int) (he:¬e=0):
  unw iP (.colon b wd at_::r) (mkR m ret (.colon b wd at'::r) thr,k,e)=unw iP r (mkR m ret r thr,k,e):=by
 conv=>lhs;unfold unw
 dsimp only
 rw[if_neg he]
 dsimp only
 rw[if_neg (fun h=>he h.1)]
 congr 1
 simp only[mkR,dpF]
 congr 2
 omega
theorem sim_ins {m:Mc} {ret:List Int} {b wd at_:Int} {r:List Fm} {thr:Int} (ok:Okr (mkR m ret (.colon b wd at_::r) thr)) (bs:Bs (mkR m ret (.colon b wd at_::r) thr)) (k:Nat) (a0:0≤at_) {x:Opd}
  (hx:(iWd (mkR m ret (.colon b wd at_::r) thr) wd).2.2.2.2[at_.toNat]? =some x) (x0:0≤x.2) (x1:x.2 < 4294967296) {o:Ot} (ho:opO x (mkR m ret (.colon b wd at_::r) thr) b wd (at_+1) r=o):
  (o.e=0→unw iP (.colon b wd at_::r) (mkR m ret (.colon b wd at_::r) thr,k+1,0)=Rst o.fs o.nxt (mkR o.m o.ret o.fs o.thr) k)∧
  (¬o.e=0→unw iP (.colon b wd at_::r) (mkR m ret (.colon b wd at_::r) thr,k+1,0)=unw iP o.fs (mkR m ret o.fs o.thr,k,o.e)):=by
 have at1:(at_+1).toNat=at_.toNat+1:=by omega
 have eU:∀z,unw iP (.colon b wd at_::r) (mkR m ret (.colon b wd at_::r) thr,k+1,0)=z↔
   unw iP r ({(rn iP (.ops (iWd (mkR m ret (.colon b wd at_::r) thr) wd).2.2.2.2 at_.toNat) (mkR m ret (.colon b wd at_::r) thr) (k+1)).1 with base:=bsF r,depth:=(rn iP (.ops (iWd (mkR m ret (.colon b wd at_::r) thr) wd).2.2.2.2 at_.toNat) (mkR m ret (.colon b wd at_::r) thr) (k+1)).1.depth - 1},(rn iP (.ops (iWd (mkR m ret (.colon b wd at_::r) thr) wd).2.2.2.2 at_.toNat) (mkR m ret (.colon b wd at_::r) thr) (k+1)).2.1,
    if (rn iP (.ops (iWd (mkR m ret (.colon b wd at_::r) thr) wd).2.2.2.2 at_.toNat) (mkR m ret (.colon b wd at_::r) thr) (k+1)).2.2=0∧¬iOwn (rn iP (.ops (iWd (mkR m ret (.colon b wd at_::r) thr) wd).2.2.2.2 at_.toNat) (mkR m ret (.colon b wd at_::r) thr) (k+1)).1=0 then 12 else (rn iP (.ops (iWd (mkR m ret (.colon b wd at_::r) thr) wd).2.2.2.2 at_.toNat) (mkR m ret (.colon b wd at_::r) thr) (k+1)).2.2)=z:=by
  intro z
  conv=>lhs;lhs;unfold unw
  dsimp only
  rw[if_pos rfl]
 rw[eU,eU]
 clear eU
 have h64:=h64_of ok
 unfold opO at ho
 have Rfs:∀a',mkR m ret (.colon b wd a'::r) thr=mkR m ret (.colon b wd at_::r) thr:=fun a'=>rfl
 have en:(mkR m ret (.colon b wd at_::r) thr).n=thr:=rfl
 have em:(mkR m ret (.colon b wd at_::r) thr).m=m:=rfl
 have er:(mkR m ret (.colon b wd at_::r) thr).ret=ret:=rfl
 have eb:(mkR m ret (.colon b wd at_::r) thr).base=b:=rfl
 have ed:(mkR m ret (.colon b wd at_::r) thr).depth=dpF r+1:=rfl
 obtain ⟨R,hR⟩:∃R,mkR m ret (.colon b wd at_::r) thr=R:=⟨_,rfl⟩
 have out:({R with base:=bsF r,depth:=R.depth - 1}:Rs)=mkR m ret r thr:=by
  rw[←hR]
  simp only[mkR,dpF]
  congr 1
  omega
 simp only[hR] at*
 by_cases c12:x.1=12
 ·rw[if_pos c12] at ho
  rw[rn_exit iP hx c12]
  dsimp only
  by_cases ow:iOwn R=0
  ·rw[if_pos ow] at ho
   subst ho
   refine ⟨fun _=> ?_,fun he=>absurd rfl he⟩
   show _=Rst r (-1) (mkR R.m R.ret r R.n) k
   rw[rst_no,if_neg (by simp[ow]),out,em,er,en]
  ·rw[if_neg ow] at ho
   subst ho
   refine ⟨fun he=>by simp at he,fun _=> ?_⟩
   show _=unw iP (.colon b wd (at_+1)::r) (mkR m ret (.colon b wd (at_+1)::r) R.n,k,12)
   rw[if_pos ⟨rfl,ow⟩,out,en,unw_colonE b wd (at_+1) (at_+1) r m ret thr k 12 (by omega)]
 ·rw[if_neg c12] at ho
  by_cases c2:x.1=2
  ·rw[if_pos c2] at ho
   rw[rn_call iP hx c2]
   subst ho
   refine ⟨fun _=> ?_,fun he=>absurd rfl he⟩
   show _=Rst (.colon b wd (at_+1)::r) x.2 (mkR R.m R.ret (.colon b wd (at_+1)::r) R.n) k
   rw[rst_yes (by omega),em,er,en,Rfs]
   have sp:=(rn_sp ok x.2 k).1
   generalize hρ:rn iP (.word x.2) R k=ρ at sp ⊢
   conv=>rhs;unfold unw
   dsimp only
   rw[code_sp sp wd,at1]
  ·rw[if_neg c2] at ho
   rw[rn_op iP hx c12 c2]
   have fr:=iOp_fr R x bs
   have sp:=iOp_sp ok x ⟨x0,x1⟩
   have hn:=iOp_n R x
   have hno:=iOp_no (s:=R) (o:=x) h64
   have e1:(iOp R x).1=mkR (iOp R x).1.m (iOp R x).1.ret (.colon b wd (at_+1)::r) R.n:=by
    have a:=fr.1.trans eb
    have c:=fr.2.1.trans ed
    generalize (iOp R x).1=y at a c hn
    cases y
    simp only at a c hn
    subst a c hn
    rfl
   by_cases he0:(iOp R x).2.2=0
   ·rw[if_pos he0]
    subst ho
    refine ⟨fun _=> ?_,fun he=>absurd he0 he⟩
    show _=Rst (.colon b wd (if (iOp R x).2.1=true∧(iOp R x).2.2=0 then x.2 else at_+1)::r) (-1) (mkR (iOp R x).1.m (iOp R x).1.ret (.colon b wd (if (iOp R x).2.1=true∧(iOp R x).2.2=0 then x.2 else at_+1)::r) R.n) k
    rw[rst_no]
    have e2:mkR (iOp R x).1.m (iOp R x).1.ret (.colon b wd (if (iOp R x).2.1=true∧(iOp R x).2.2=0 then x.2 else at_+1)::r) R.n=(iOp R x).1:=by
     rw[e1]
     rfl
    rw[e2]
    conv=>rhs;unfold unw
    dsimp only
    rw[if_pos rfl,code_sp sp wd]
    have e3:(if (iOp R x).2.1=true∧(iOp R x).2.2=0 then x.2 else at_+1).toNat=if (iOp R x).2.1=true then x.2.toNat else at_.toNat+1:=by
     by_cases g:(iOp R x).2.1=true
     ·rw[if_pos ⟨g,he0⟩,if_pos g]
     ·rw[if_neg (fun q=>g q.1),if_neg g,at1]
    rw[e3]
   ·rw[if_neg he0]
    subst ho
    refine ⟨fun he=>absurd he he0,fun _=> ?_⟩
    show _=unw iP (.colon b wd (if (iOp R x).2.1=true∧(iOp R x).2.2=0 then x.2 else at_+1)::r) (mkR m ret (.colon b wd (if (iOp R x).2.1=true∧(iOp R x).2.2=0 then x.2 else at_+1)::r) R.n,k,(iOp R x).2.2)
    rw[en,unw_colonE b wd _ _ r m ret thr k _ he0,hno he0,if_neg (fun q=>he0 q.1),out]
theorem sim_end {m:Mc} {ret:List Int} {b wd at_:Int} {r:List Fm} {thr:Int} (k:Nat) (hx:(iWd (mkR m ret (.colon b wd at_::r) thr) wd).2.2.2.2[at_.toNat]? =none):
  ((ret.length:Int)=b→unw iP (.colon b wd at_::r) (mkR m ret (.colon b wd at_::r) thr,k,0)=unw iP r (mkR m ret r thr,k,0))∧
  (¬(ret.length:Int)=b→unw iP (.colon b wd at_::r) (mkR m ret (.colon b wd at_::r) thr,k,0)=unw iP (.colon b wd at_::r) (mkR m ret (.colon b wd at_::r) thr,k,12)):=by
 have e:unw iP (.colon b wd at_::r) (mkR m ret (.colon b wd at_::r) thr,k,0)=unw iP r (mkR m ret r thr,k,if ¬(ret.length:Int)=b then 12 else 0):=by
  conv=>lhs;unfold unw
  dsimp only
  rw[if_pos rfl,rn_end iP hx]
  dsimp only
  have o:iOwn (mkR m ret (.colon b wd at_::r) thr)=(ret.length:Int) - b:=rfl
  congr 1
  simp only[mkR,dpF,Prod.mk.injEq,true_and]
  refine ⟨?_, ?_⟩
  ·congr 1
   omega
  ·have o':iOwn {m:=m,ret:=ret,base:=bsF (.colon b wd at_::r),depth:=dpF r+1,n:=thr}=(ret.length:Int) - b:=rfl
   rw[o']
   by_cases c:(ret.length:Int)=b
   ·simp[c]
   ·have c':¬(ret.length:Int) - b=0:=by omega
    simp[c,c']
 rw[e]
 refine ⟨fun h=>by rw[if_neg (by simp[h])],fun h=> ?_⟩
 rw[if_pos h,unw_colonE b wd at_ at_ r m ret thr k 12 (by omega)]
theorem sim_meth (m:Mc) (ret:List Int) (b sl:Int) (r:List Fm) (thr:Int) (k:Nat) (hb:b=bsF r):
  unw iP (.meth b sl::r) (mkR m ret (.meth b sl::r) thr,k,0)=unw iP r (mkR {m with self:=sl} ret r thr,k,0):=by
 subst hb
 conv=>lhs;unfold unw
 dsimp only
 rw[if_pos rfl]
 rfl
theorem sim_catch (m:Mc) (ret:List Int) (b h sl:Int) (r:List Fm) (thr:Int) (k:Nat):
  ((ret.length:Int)=b→unw iP (.catch b h sl::r) (mkR m ret (.catch b h sl::r) thr,k,0)=unw iP r ((iSwp (mkR m ret r thr) 0 [0]).1,k,(iSwp (mkR m ret r thr) 0 [0]).2))∧
  (¬(ret.length:Int)=b→unw iP (.catch b h sl::r) (mkR m ret (.catch b h sl::r) thr,k,0)=unw iP (.catch b h sl::r) (mkR m ret (.catch b h sl::r) thr,k,12)):=by
 have o:iOwn (mkR m ret (.catch b h sl::r) thr)=(ret.length:Int) - b:=rfl
 refine ⟨fun c=> ?_,fun c=> ?_⟩
 ·conv=>lhs;unfold unw
  dsimp only
  unfold iCat
  dsimp only
  rw[if_neg (show ¬((0:Int)=0∧¬iOwn (mkR m ret (.catch b h sl::r) thr)=0) from fun z=>z.2 (by omega)),if_neg (by omega),if_pos rfl]
  rfl
 ·conv=>lhs;unfold unw
  conv=>rhs;unfold unw
  dsimp only
  have q:∀s0:Rs,iCat s0 (mkR m ret (.catch b h sl::r) thr) 0=iCat s0 (mkR m ret (.catch b h sl::r) thr) 12:=by
   intro s0
   unfold iCat
   dsimp only
   rw[if_pos (show (0:Int)=0∧¬iOwn (mkR m ret (.catch b h sl::r) thr)=0 from ⟨rfl,by omega⟩),if_neg (show ¬((12:Int)=0∧¬iOwn (mkR m ret (.catch b h sl::r) thr)=0) from fun z=>by omega)]
  rw[q]
def catO (e thr:Int):List Fm→Mc→List Int→Option (Mc×List Int×List Fm)
 |[],_,_=>none
 | .colon _ _ _::r,m,ret=>catO e thr r m ret
 | .meth _ sl::r,m,ret=>catO e thr r {m with self:=sl} ret
 | .catch b h _::r,m,ret=>some ({m with stack:=(m.stack++List.replicate (h.toNat - m.stack.length) 0).take h.toNat++[if e=28 then thr else e]},ret.take b.toNat,r)
theorem sim_fail {words:List Wd} {e thr:Int} (k:Nat) (he:¬e=0) (he1:¬e=11):∀(fs:List Fm) (m:Mc) (ret:List Int) (σ:Int),Fok words fs ret.length m.self→
  match catO e thr fs m ret with
  |none=>(unw iP fs (mkR {m with self:=σ} ret fs thr,k,e)).2.2=e∧(unw iP fs (mkR {m with self:=σ} ret fs thr,k,e)).1.n=thr
  |some (m',ret',r)=>unw iP fs (mkR {m with self:=σ} ret fs thr,k,e)=unw iP r (mkR m' ret' r thr,k,0)
 |[],m,ret,σ,hf=>by
  simp only[catO,unw]
  exact ⟨if_neg (fun z=>he z.1),rfl⟩
 | .colon b wd at_::r,m,ret,σ,hf=>by
  have hf':Fok words r ret.length m.self:=by
   simp only[Fok] at hf
   exact hf.2.2.2.2.2.2.2.top (by have:=hf.1;have:=hf.2.1;omega)
  have ih:=sim_fail (thr:=thr) k he he1 r m ret σ hf'
  simp only[catO]
  rw[unw_colonE b wd at_ at_ r {m with self:=σ} ret thr k e he]
  exact ih
 | .meth b sl::r,m,ret,σ,hf=>by
  have hf':Fok words r ret.length sl:=by
   simp only[Fok] at hf
   exact hf.2.2.top (by have:=hf.1;have:=hf.2.1;omega)
  have hb:b=bsF r:=by simp only[Fok] at hf;exact hf.2.1
  have ih:=sim_fail (thr:=thr) k he he1 r {m with self:=sl} ret σ hf'
  simp only[catO]
  have q:unw iP (.meth b sl::r) (mkR {m with self:=σ} ret (.meth b sl::r) thr,k,e)=unw iP r (mkR {m with self:=σ} ret r thr,k,e):=by
   conv=>lhs;unfold unw
   dsimp only
   rw[if_neg he]
   simp only[mkR,bsF,dpF,hb]
  rw[q]
  exact ih
 | .catch b h sl::r,m,ret,σ,hf=>by
  simp only[Fok] at hf
  obtain ⟨f1,f2,f3,f4,f5,f6⟩:=hf
  have fb:=f6.bs
  simp only[catO]
  conv=>lhs;unfold unw
  dsimp only
  unfold iCat
  dsimp only
  rw[if_neg (show ¬(e=0∧_) from fun z=>he z.1),if_neg he1,if_neg he]
  have hl:((m.stack++List.replicate (h.toNat - m.stack.length) 0).take h.toNat).length=h.toNat:=by simp;omega
  simp only[mkR,List.length_replicate]
  generalize hL:(m.stack++List.replicate (h.toNat - m.stack.length) 0).take h.toNat=L at hl
  rw[iSwp_ok _ 0 _ (by omega) (by simp[hL,hl];omega)]
  simp[hL,f5]
structure Inv (m:Mc) (ret:List Int) (fs:List Fm) (thr:Int):Prop where
 ok:Okr (mkR m ret fs thr)
 fok:Fok m.words fs ret.length m.self
 sel:∀b sl,Fm.meth b sl∈fs→sl= -1∨alvF m.insts sl=true
theorem okr_any {m:Mc} {ret:List Int} {fs fs':List Fm} {thr:Int} (h:Okr (mkR m ret fs thr)):Okr (mkR m ret fs' thr):=⟨h.frm,⟨h.ran.m,h.ran.ret,h.ran.retL,h.ran.n0,h.ran.n1⟩⟩
theorem okr_thr {m:Mc} {ret:List Int} {fs:List Fm} {thr thr':Int} (h:Okr (mkR m ret fs thr)) (h0:0≤thr') (h1:thr' < 4294967296):Okr (mkR m ret fs thr'):=⟨h.frm,⟨h.ran.m,h.ran.ret,h.ran.retL,h0,h1⟩⟩
theorem Inv.bs {m:Mc} {ret:List Int} {fs:List Fm} {thr:Int} (h:Inv m ret fs thr):Bs (mkR m ret fs thr):=by
 have:=h.fok.bs
 exact ⟨this.1,by show (bsF fs).toNat≤ret.length;omega⟩
theorem Inv.thr {m:Mc} {ret:List Int} {fs:List Fm} {thr thr':Int} (h:Inv m ret fs thr) (h0:0≤thr') (h1:thr' < 4294967296):Inv m ret fs thr':=⟨okr_thr h.ok h0 h1,h.fok,h.sel⟩
theorem Inv.at_ {m:Mc} {ret:List Int} {b wd a a':Int} {r:List Fm} {thr:Int} (h:Inv m ret (.colon b wd a::r) thr) (h0:0≤a') (h1:a'≤(m.words.getD wd.toNat ([],0,0,0,[])).2.2.2.2.length):Inv m ret (.colon b wd a'::r) thr:=by
 have f:=h.fok
 simp only[Fok] at f
 refine ⟨okr_any h.ok, ?_,fun b sl hm=>h.sel b sl (by simpa using hm)⟩
 simp only[Fok]
 exact ⟨f.1,f.2.1,f.2.2.1,f.2.2.2.1,f.2.2.2.2.1,h0,h1,f.2.2.2.2.2.2.2⟩
theorem Inv.go {m:Mc} {ret:List Int} {fs:List Fm} {thr:Int} (h:Inv m ret fs thr) {r:Rs} (sp:Spr (mkR m ret fs thr) r) (fr:Fr (mkR m ret fs thr) r) (hs:r.m.self=m.self):Inv r.m r.ret fs r.n:=by
 have e:mkR r.m r.ret fs r.n=r:=mk_eta r fs fr.1 fr.2.1
 have b:=h.fok.bs
 refine ⟨by rw[e];exact sp.ok, ?_,fun b sl hm=> ?_⟩
 ·rw[hs]
  refine (h.fok.words sp.words).top ?_
  have:(bsF fs).toNat≤r.ret.length:=fr.2.2.1
  omega
 ·rw[alv_sh sp.insts]
  exact h.sel b sl hm
theorem iSwp_self (s:Rs) (k:Nat) (l:List Int):(iSwp s k l).1.m.self=s.m.self:=by
 unfold iSwp
 split
 ·rfl
 ·split <;> rfl
theorem iTo_self (s:Rs) (k:Int):(iTo s k).1.m.self=s.m.self:=by
 unfold iTo
 dsimp only
 repeat' split
 all_goals first|rfl|exact iSwp_self _ _ _
theorem iLop_self (s:Rs) (o:Opd):(iLop s o).1.m.self=s.m.self:=by
 have q:=iSwp_self s 1 []
 unfold iLop
 dsimp only
 repeat' split
 all_goals first|rfl|exact q
theorem iOp_self (s:Rs) (o:Opd):(iOp s o).1.m.self=s.m.self:=by
 have q:=iSwp_self s 2 []
 unfold iOp
 dsimp only
 repeat' split
 all_goals first|rfl|exact iSwp_self _ _ _|exact q|exact iTo_self _ _|exact iLop_self _ _
theorem iOp_far {s:Rs} {o:Opd} (h:(iOp s o).2.1=true):3≤o.1∧o.1≤10:=by
 unfold iOp at h
 dsimp only at h
 by_cases c1:o.1=1
 ·rw[if_pos c1] at h;simp at h
 rw[if_neg c1] at h
 by_cases c2:o.1=3
 ·omega
 rw[if_neg c2] at h
 by_cases c3:o.1=4
 ·omega
 rw[if_neg c3] at h
 by_cases c4:o.1=5∨o.1=6
 ·omega
 rw[if_neg c4] at h
 by_cases c5:o.1=7∨o.1=8∨o.1=9
 ·omega
 rw[if_neg c5] at h
 by_cases c6:o.1=10
 ·omega
 rw[if_neg c6] at h
 by_cases c7:o.1=11
 ·rw[if_pos c7] at h;simp at h
 rw[if_neg c7] at h
 simp at h
theorem wd_is {m:Mc} (h:frmM m=true) {k:Nat} (hk:k < m.words.length):
  ((m.words.getD k ([],0,0,0,[])).2.2.1=1∧(m.words.getD k ([],0,0,0,[])).2.2.2.1∈prmL.map (·.2))∨
  (2≤(m.words.getD k ([],0,0,0,[])).2.2.1∧(m.words.getD k ([],0,0,0,[])).2.2.1≤7∧wofF (m.words.getD k ([],0,0,0,[])) m.words.length m.tree=true):=by
 have w:=(frm_parts h).2.2.2.2.2.1
 have eg:m.words.getD k ([],0,0,0,[])=m.words[k]:=by rw[List.getD_eq_getElem?_getD,List.getElem?_eq_getElem hk];rfl
 rw[eg]
 unfold wdsF at w
 simp only[Bool.and_eq_true,decide_eq_true_eq,List.all_eq_true] at w
 obtain ⟨⟨a1,a2⟩,a3,a4⟩:=w
 by_cases c:k < 111
 ·left
  have e:(m.words.take 111)[k]? =(prmL.map prmW)[k]? :=by rw[a3]
  rw[List.getElem?_take_of_lt c,List.getElem?_eq_getElem hk,List.getElem?_map,List.getElem?_eq_getElem (by rw[prm_len];omega)] at e
  simp only[Option.map_some,Option.some.injEq] at e
  rw[e]
  refine ⟨rfl,List.mem_map.2 ⟨prmL[k]'(by rw[prm_len];omega),List.getElem_mem _,rfl⟩⟩
 ·right
  have hm:m.words[k]∈m.words.drop 111:=by
   have:=List.getElem_mem (l:=m.words.drop 111) (n:=k - 111) (by simp;omega)
   rw[List.getElem_drop] at this
   simp only[show 111+(k - 111)=k by omega] at this
   exact this
  have q:=a4 _ hm
  have q':=q
  unfold wofF at q'
  simp only[Bool.and_eq_true,decide_eq_true_eq] at q'
  exact ⟨q'.1.1,q'.1.2,q⟩
theorem wd_code {m:Mc} (h:frmM m=true) {k:Nat} (hk:k < m.words.length) (h2:(m.words.getD k ([],0,0,0,[])).2.2.1=2):(m.words.getD k ([],0,0,0,[])).2.2.2.2.length≤256∧∀x∈(m.words.getD k ([],0,0,0,[])).2.2.2.2,okO (m.words.getD k ([],0,0,0,[])).2.2.2.2.length m.words.length x=true:=by
 rcases wd_is h hk with q|q
 ·omega
 ·have w:=q.2.2
  unfold wofF at w
  simp only[Bool.and_eq_true,decide_eq_true_eq] at w
  have w4:=w.2.2.2
  rw[if_pos h2] at w4
  simp only[Bool.and_eq_true,decide_eq_true_eq,sndF,List.all_eq_true] at w4
  exact w4.2
theorem lst_lt {α:Type} (p:α→Bool):∀(l:List α) (k:Nat),lstF p l=some k→k < l.length
 |[],k,h=>by simp[lstF] at h
 |x::r,k,h=>by
  unfold lstF at h
  split at h
  ·rename_i j hj
   have:=lst_lt p r j hj
   simp at h
   simp
   omega
  ·split at h
   ·simp at h;simp;omega
   ·simp at h
theorem inv_beg {m:Mc} {ret:List Int} {fs:List Fm} {thr:Int} (h:Inv m ret fs thr) {xt:Int} (x0:0≤xt) (x1:xt < m.words.length) {o:Ot} (ho:begO xt (mkR m ret fs thr) fs=o):
  (o.e=0→Inv o.m o.ret o.fs o.thr∧(o.nxt= -1∨0≤o.nxt∧o.nxt < o.m.words.length)∧o.fs.length≤fs.length+1)∧
  (¬o.e=0→Inv m ret o.fs o.thr∧Er o.e∧o.fs=fs):=by
 have ok:=h.ok
 have bs:=h.bs
 have fb:=h.fok.bs
 unfold begO at ho
 dsimp only at ho
 obtain ⟨R,hR⟩:∃R,mkR m ret fs thr=R:=⟨_,rfl⟩
 have em:R.m=m:=by rw[←hR];rfl
 have er:R.ret=ret:=by rw[←hR];rfl
 have en:R.n=thr:=by rw[←hR];rfl
 have goR:∀{r:Rs},Spr R r→Fr R r→r.m.self=m.self→Inv r.m r.ret fs r.n:=fun {r} a b c=>h.go (by rw[hR];exact a) (by rw[hR];exact b) c
 rw[hR] at ok bs ho
 have hw:=wd_is (m:=m) (by rw[←em];exact ok.frm) (k:=xt.toNat) (by omega)
 have ew:iWd R xt=m.words.getD xt.toNat ([],0,0,0,[]):=by unfold iWd;rw[em]
 rw[←ew] at hw
 have dnx:∀x:Int,((-1:Int)= -1∨0≤(-1:Int)∧(-1:Int) < x):=fun x=>Or.inl rfl
 by_cases k1:(iWd R xt).2.2.1=1
 ·rw[if_pos k1] at ho
  have fr:=iPrm_fr iP_kp (iWd R xt).2.2.2.1 R bs
  have sp:=iPrm_sp kq_iP (iWd R xt).2.2.2.1 R ok
  have erN:=iPrm_er er_iP (iWd R xt).2.2.2.1 R ok (tex_er _)
  have wl:∀{r:Rs},Spr R r→r.m.words.length=m.words.length:=fun {r} a=>by
   have:=congrArg List.length a.words
   rw[List.length_map,List.length_map,em] at this
   exact this
  cases hp:iPrm iP (iWd R xt).2.2.2.1 R with
  |done r e=>
   rw[hp] at fr sp erN ho
   have fr':Fr R r:=fr
   have sp':Spr R r:=sp
   have hs:r.m.self=m.self:=by
    unfold iPrm at hp
    dsimp only at hp
    repeat' split at hp
    all_goals try (cases hp;done)
    all_goals try (injection hp with hp1 hp2;rw[←hp1,em];done)
    injection hp with hp1 hp2
    rw[←hp1,←em]
    exact (gd_iP _ ok).slf
   subst ho
   refine ⟨fun _=>⟨goR sp' fr' hs,Or.inl rfl,Nat.le_succ _⟩,fun he=>⟨?_,erN,rfl⟩⟩
   exact h.thr sp'.ok.ran.n0 sp'.ok.ran.n1
  |exec x r=>
   rw[hp] at fr sp ho
   have fr':Mo R r:=fr
   have sp':Spr R r:=sp
   have hx:0≤x∧x < m.words.length∧r.m.self=m.self:=by
    unfold iPrm at hp
    dsimp only at hp
    repeat' split at hp
    all_goals try (cases hp;done)
    rename_i c3 c4
    injection hp with hp1 hp2
    rw[←hp1,←hp2,iSwp_self,em]
    rw[em] at c3
    exact ⟨(cells_get' (iTop_c ok.ran 1) 0).1,by omega,rfl⟩
   subst ho
   refine ⟨fun _=>⟨goR sp' (fr'.fr bs) hx.2.2,Or.inr ⟨hx.1, ?_⟩,Nat.le_succ _⟩,fun he=>absurd rfl he⟩
   show x < r.m.words.length
   rw[wl sp']
   exact hx.2.1
  |«catch» x r=>
   rw[hp] at fr sp ho
   have fr':Mo R r:=fr
   have sp':Spr R r:=sp
   have hx:0≤x∧x < m.words.length∧r.m.self=m.self∧r.m.stack.length < 64:=by
    unfold iPrm at hp
    dsimp only at hp
    repeat' split at hp
    all_goals try (cases hp;done)
    rename_i c2 c3 c4
    injection hp with hp1 hp2
    rw[←hp1,←hp2,iSwp_self,em]
    rw[em] at c3
    have h64:=h64_of ok
    refine ⟨(cells_get' (iTop_c ok.ran 1) 0).1,by omega,rfl, ?_⟩
    unfold iTop at c2
    split at c2
    ·simp at c2
    ·rw[iSwp_ok R 1 [] (by omega) (by simp;omega)]
     simp
     omega
   subst ho
   have g:=goR sp' (fr'.fr bs) hx.2.2.1
   have gb:=g.fok.bs
   refine ⟨fun _=>⟨⟨okr_any g.ok, ?_,fun b sl hm=>g.sel b sl (by simpa [nxO] using hm)⟩,Or.inr ⟨hx.1, ?_⟩,by simp[nxO]⟩,fun he=>absurd rfl he⟩
   ·show Fok r.m.words (.catch r.ret.length r.m.stack.length r.m.self::fs) r.ret.length r.m.self
    simp only[Fok]
    exact ⟨Int.le_refl _,gb.2,by omega,by omega,trivial,g.fok⟩
   ·show x < r.m.words.length
    rw[wl sp']
    exact hx.2.1
  |meth x r=>
   rw[hp] at fr sp ho
   have fr':Mo R r:=fr
   have sp':Spr R r:=sp
   have hx:0≤x∧x < m.words.length:=by
    unfold iPrm at hp
    dsimp only at hp
    repeat' split at hp
    all_goals try (cases hp;done)
    rename_i k hk
    injection hp with hp1 hp2
    rw[em] at hk
    unfold mthF at hk
    split at hk
    ·simp at hk
    ·have:=lst_lt _ _ _ hk
     omega
   subst ho
   have e0:mkR r.m r.ret fs r.n=r:=mk_eta r fs (by rw[fr'.1,←hR];rfl) (by rw[fr'.2.1,←hR];rfl)
   have ok0:Okr (mkR r.m r.ret fs r.n):=by rw[e0];exact sp'.ok
   have rr:r.ret=ret:=fr'.2.2.trans er
   refine ⟨fun _=>⟨⟨okr_any ok0, ?_,fun b sl hm=> ?_⟩,Or.inr ⟨hx.1, ?_⟩,by simp[nxO]⟩,fun he=>absurd rfl he⟩
   ·show Fok r.m.words (.meth (bsF fs) R.m.self::fs) r.ret.length r.m.self
    simp only[Fok]
    rw[rr,em]
    exact ⟨fb.2,trivial,(h.fok.words (by rw[←em];exact sp'.words)).top (Int.le_refl _)⟩
   ·show sl= -1∨alvF r.m.insts sl=true
    rw[alv_sh sp'.insts,em]
    rcases List.mem_cons.1 hm with hm|hm
    ·injection hm with hm1 hm2
     rw[hm2,em]
     exact self_of (by rw[←em];exact ok.frm)
    ·exact h.sel b sl hm
   ·show x < r.m.words.length
    rw[wl sp']
    exact hx.2
 ·rw[if_neg k1] at ho
  have hw2:=hw.resolve_left (fun q=>k1 q.1)
  have hsw:∀y:Int,(0≤y∧y < 4294967296)→Inv (iSwp R 0 [y]).1.m R.ret fs R.n:=fun y hy=>by
   have g:=goR (iSwp_sp ok 0 (cells_one' hy)) ((iSwp_mo R 0 [y]).fr bs) (by rw[iSwp_self,em])
   rw[(iSwp_mo R 0 [y]).2.2,iSwp_n] at g
   exact g
  by_cases k2:(iWd R xt).2.2.1=2
  ·rw[if_pos k2] at ho
   by_cases hd:32≤R.depth
   ·rw[if_pos hd] at ho
    subst ho
    exact ⟨fun he=>by simp at he,fun _=>⟨by show Inv m ret fs R.n;rw[en];exact h,⟨by show (0:Int)≤12;omega,by show (12:Int)≤28;omega⟩,rfl⟩⟩
   ·rw[if_neg hd] at ho
    subst ho
    refine ⟨fun _=>⟨?_,Or.inl rfl,by simp⟩,fun he=>absurd rfl he⟩
    show Inv R.m R.ret (.colon R.ret.length xt 0::fs) R.n
    rw[em,er,en]
    refine ⟨okr_any h.ok, ?_,fun b sl hm=>h.sel b sl (by simpa using hm)⟩
    simp only[Fok]
    rw[ew] at k2
    exact ⟨Int.le_refl _,fb.2,x0,x1,k2,Int.le_refl _,by omega,h.fok⟩
  ·rw[if_neg k2] at ho
   by_cases k3:(iWd R xt).2.2.1=3∨(iWd R xt).2.2.1=4∨(iWd R xt).2.2.1=5
   ·rw[if_pos k3] at ho
    subst ho
    exact ⟨fun _=>⟨hsw _ (wd_num ok xt),Or.inl rfl,Nat.le_succ _⟩,fun _=>⟨by show Inv m ret fs R.n;rw[en];exact h,iSwp_er _ _ _,rfl⟩⟩
   ·rw[if_neg k3] at ho
    by_cases k7:(iWd R xt).2.2.1=7
    ·rw[if_pos k7] at ho
     by_cases hs:iSlf R (iWd R xt)=false
     ·rw[if_pos hs] at ho
      subst ho
      exact ⟨fun he=>by simp at he,fun _=>⟨by show Inv m ret fs R.n;rw[en];exact h,⟨by show (0:Int)≤21;omega,by show (21:Int)≤28;omega⟩,rfl⟩⟩
     ·rw[if_neg hs] at ho
      subst ho
      exact ⟨fun _=>⟨hsw _ (cells_get' (in_cel ok _) _),Or.inl rfl,Nat.le_succ _⟩,fun _=>⟨by show Inv m ret fs R.n;rw[en];exact h,iSwp_er _ _ _,rfl⟩⟩
    ·rw[if_neg k7] at ho
     subst ho
     refine ⟨fun _=>⟨by show Inv R.m R.ret fs R.n;rw[em,er,en];exact h,Or.inr ⟨(wd_num ok xt).1, ?_⟩,Nat.le_succ _⟩,fun he=>absurd rfl he⟩
     show (iWd R xt).2.2.2.1 < R.m.words.length
     rw[em]
     have w:=hw2.2.2
     unfold wofF at w
     simp only[Bool.and_eq_true,decide_eq_true_eq] at w
     have w4:=w.2.2.2
     rw[if_neg k2] at w4
     simp only[Bool.and_eq_true,decide_eq_true_eq] at w4
     exact w4.1 (by omega)
theorem inv_ins {m:Mc} {ret:List Int} {b wd at_:Int} {r:List Fm} {thr:Int} (h:Inv m ret (.colon b wd at_::r) thr) {x:Opd} (hx:(m.words.getD wd.toNat ([],0,0,0,[])).2.2.2.2[at_.toNat]? =some x) (x0:0≤x.2) (x1:x.2 < 4294967296) {o:Ot} (ho:opO x (mkR m ret (.colon b wd at_::r) thr) b wd (at_+1) r=o):
  (o.e=0→Inv o.m o.ret o.fs o.thr∧(o.nxt= -1∨0≤o.nxt∧o.nxt < o.m.words.length)∧o.fs.length≤r.length+1)∧
  (¬o.e=0→Inv m ret o.fs o.thr∧Er o.e∧o.fs.length=r.length+1):=by
 have f:=h.fok
 simp only[Fok] at f
 obtain ⟨f1,f2,f3,f4,f5,f6,f7,f8⟩:=f
 have fb:=f8.bs
 have hlt:at_.toNat < (m.words.getD wd.toNat ([],0,0,0,[])).2.2.2.2.length:=(List.getElem?_eq_some_iff.1 hx).1
 have okx:okO (m.words.getD wd.toNat ([],0,0,0,[])).2.2.2.2.length m.words.length x=true:=(wd_code (m:=m) h.ok.frm (k:=wd.toNat) (by show wd.toNat < m.words.length;omega) f5).2 x (List.mem_of_getElem? hx)
 unfold okO at okx
 rw[decide_eq_true_eq] at okx
 have h1:Inv m ret (.colon b wd (at_+1)::r) thr:=h.at_ (by omega) (by omega)
 have hr:Inv m ret r thr:=⟨okr_any h.ok,f8.top (by omega),fun b sl hm=>h.sel b sl (by simp[hm])⟩
 have okm:(mkR m ret (.colon b wd at_::r) thr).m.words.length=m.words.length:=rfl
 unfold opO at ho
 by_cases c12:x.1=12
 ·rw[if_pos c12] at ho
  split at ho
  ·subst ho
   exact ⟨fun _=>⟨hr,Or.inl rfl,Nat.le_succ _⟩,fun he=>absurd rfl he⟩
  ·subst ho
   exact ⟨fun he=>by simp at he,fun _=>⟨h1,⟨by show (0:Int)≤12;omega,by show (12:Int)≤28;omega⟩,by simp⟩⟩
 ·rw[if_neg c12] at ho
  by_cases c2:x.1=2
  ·rw[if_pos c2] at ho
   subst ho
   refine ⟨fun _=>⟨h1,Or.inr ⟨x0, ?_⟩,by simp⟩,fun he=>absurd rfl he⟩
   show x.2 < m.words.length
   omega
  ·rw[if_neg c2] at ho
   subst ho
   have sp:=iOp_sp h.ok x ⟨x0,x1⟩
   have fr:=iOp_fr _ x h.bs
   have hs:=iOp_self (mkR m ret (.colon b wd at_::r) thr) x
   have hn:=iOp_n (mkR m ret (.colon b wd at_::r) thr) x
   have g:=h.go sp fr hs
   have hn':(iOp (mkR m ret (.colon b wd at_::r) thr) x).1.n=thr:=hn
   rw[hn'] at g
   have hc:=code_sp sp wd
   have hc':((iOp (mkR m ret (.colon b wd at_::r) thr) x).1.m.words.getD wd.toNat ([],0,0,0,[])).2.2.2.2=(m.words.getD wd.toNat ([],0,0,0,[])).2.2.2.2:=hc
   refine ⟨fun he=>⟨?_,Or.inl rfl,by simp⟩,fun he=>⟨?_,iOp_er _ _,by simp⟩⟩
   ·refine g.at_ ?_ ?_
    ·split <;> omega
    ·rw[hc']
     split
     ·rename_i c
      have:=iOp_far c.1
      omega
     ·omega
   ·dsimp only at he ⊢
    rw[if_neg (fun q=>he q.2)]
    exact h1
theorem Inv.pop {m:Mc} {ret:List Int} {b wd at_:Int} {r:List Fm} {thr:Int} (h:Inv m ret (.colon b wd at_::r) thr):Inv m ret r thr:=by
 have f:=h.fok
 simp only[Fok] at f
 have fb:=f.2.2.2.2.2.2.2.bs
 exact ⟨okr_any h.ok,f.2.2.2.2.2.2.2.top (by omega),fun b sl hm=>h.sel b sl (by simp[hm])⟩
theorem Inv.popM {m:Mc} {ret:List Int} {b sl:Int} {r:List Fm} {thr:Int} (h:Inv m ret (.meth b sl::r) thr):Inv {m with self:=sl} ret r thr:=by
 have f:=h.fok
 simp only[Fok] at f
 have ha:=h.sel b sl (by simp)
 have hi:m.insts.length≤16:=by
  have:=(frm_parts h.ok.frm).2.2.2.2.1
  unfold insF at this
  simp only[Bool.and_eq_true,decide_eq_true_eq] at this
  exact this.1
 have hw:(Lit.int .i64 sl).wf=true:=by
  rcases ha with ha|ha
  ·subst ha;exact wf64 (by omega) (by omega)
  ·unfold alvF at ha
   simp only[Bool.and_eq_true,decide_eq_true_eq] at ha
   exact wf64 (by omega) (by omega)
 exact ⟨⟨frm_self h.ok.frm sl ha,⟨{h.ok.ran.m with self:=hw},h.ok.ran.ret,h.ok.ran.retL,h.ok.ran.n0,h.ok.ran.n1⟩⟩,f.2.2.top (by omega),fun b sl hm=>h.sel b sl (by simp[hm])⟩
theorem Inv.popC {m:Mc} {ret:List Int} {b hh sl:Int} {r:List Fm} {thr:Int} (h:Inv m ret (.catch b hh sl::r) thr):Inv m ret r thr:=by
 have f:=h.fok
 simp only[Fok] at f
 have fb:=f.2.2.2.2.2.bs
 exact ⟨okr_any h.ok,f.2.2.2.2.2.top (by omega),fun b sl hm=>h.sel b sl (by simp[hm])⟩
theorem Inv.lit {m:Mc} {ret:List Int} {fs:List Fm} {thr:Int} (h:Inv m ret fs thr) {y:Int} (hy:0≤y∧y < 4294967296):Inv (iSwp (mkR m ret fs thr) 0 [y]).1.m ret fs thr:=by
 have g:=h.go (iSwp_sp h.ok 0 (cells_one' hy)) ((iSwp_mo _ 0 [y]).fr h.bs) (iSwp_self _ _ _)
 rw[(iSwp_mo (mkR m ret fs thr) 0 [y]).2.2,iSwp_n] at g
 exact g
theorem inv_fail {e thr:Int} (he:Er e):∀(fs:List Fm) (m:Mc) (ret:List Int),Inv m ret fs thr→∀m' ret' r,catO e thr fs m ret=some (m',ret',r)→Inv m' ret' r thr∧r.length < fs.length∧m'.words=m.words∧m'.insts=m.insts
 |[],m,ret,h,m',ret',r,hc=>by simp[catO] at hc
 | .colon b wd at_::q,m,ret,h,m',ret',r,hc=>by
  have g:=inv_fail he q m ret h.pop m' ret' r (by simpa [catO] using hc)
  exact ⟨g.1,by simp;omega,g.2.2⟩
 | .meth b sl::q,m,ret,h,m',ret',r,hc=>by
  have g:=inv_fail he q {m with self:=sl} ret h.popM m' ret' r (by simpa [catO] using hc)
  exact ⟨g.1,by simp;omega,g.2.2⟩
 | .catch b hh sl::q,m,ret,h,m',ret',r,hc=>by
  have f:=h.fok
  simp only[Fok] at f
  obtain ⟨f1,f2,f3,f4,f5,f6⟩:=f
  have fb:=f6.bs
  simp only[catO,Option.some.injEq,Prod.mk.injEq] at hc
  obtain ⟨c1,c2,c3⟩:=hc
  subst c1 c2 c3
  have n0:=h.ok.ran.n0
  have n1:=h.ok.ran.n1
  have hn0:0≤thr:=n0
  have hn1:thr < 4294967296:=n1
  have hv:0≤(if e=28 then thr else e)∧(if e=28 then thr else e) < 4294967296:=by
   have:=he.1
   have:=he.2
   split <;> omega
  have hl:((m.stack++List.replicate (hh.toNat - m.stack.length) 0).take hh.toNat).length=hh.toNat:=by simp;omega
  have hcc:cells ((m.stack++List.replicate (hh.toNat - m.stack.length) 0).take hh.toNat):=cells_take' (cells_app' h.ok.ran.m.stack (cells_rep' _)) _
  have hz:((m.stack++List.replicate (hh.toNat - m.stack.length) 0).take hh.toNat++[if e=28 then thr else e]).length≤64:=by
   rw[List.length_append,hl]
   simp
   omega
  have rl:((ret.take b.toNat).length:Int)=b:=by simp;omega
  have hrl:ret.length≤64:=h.ok.ran.retL
  refine ⟨⟨⟨frm_stack h.ok.frm _ hz, ?_⟩, ?_,fun b sl hm=>h.sel b sl (by simp[hm])⟩,by simp,rfl,rfl⟩
  ·have q1:=h.ok.ran.stack _ hz (cells_app' hcc (cells_one' hv))
   exact ⟨q1.m,cells_take' h.ok.ran.ret _,by show (ret.take b.toNat).length≤64;simp;omega,n0,n1⟩
  ·rw[rl]
   exact f6
theorem pd1 (l:List Int) (h:1≤l.length):l.drop (l.length - 1)=[l.getD (l.length - 1) 0]:=by
 rw[List.drop_eq_getElem_cons (by omega),List.drop_of_length_le (by omega)]
 simp only[List.getD_eq_getElem?_getD,List.getElem?_eq_getElem (show l.length - 1 < l.length by omega),Option.getD_some]
theorem pd2 (l:List Int) (h:2≤l.length):l.drop (l.length - 2)=[l.getD (l.length - 2) 0,l.getD (l.length - 1) 0]:=by
 rw[List.drop_eq_getElem_cons (by omega),List.drop_eq_getElem_cons (by omega),List.drop_of_length_le (by omega)]
 simp only[List.getD_eq_getElem?_getD,List.getElem?_eq_getElem (show l.length - 2 < l.length by omega),List.getElem?_eq_getElem (show l.length - 1 < l.length by omega),Option.getD_some]
 congr 2
 simp only[show l.length - 2+1=l.length - 1 by omega]
theorem top_no {R:Rs} {k:Nat} (h:R.m.stack.length < k):iTop R k=([],5):=if_pos h
theorem top_ok {R:Rs} {k:Nat} (h:k≤R.m.stack.length):iTop R k=(R.m.stack.drop (R.m.stack.length - k),0):=if_neg (by omega)
theorem swp_pop {R:Rs} {k:Nat} (h:k≤R.m.stack.length) (h64:R.m.stack.length≤64):iSwp R k []=({R with m:={R.m with stack:=R.m.stack.take (R.m.stack.length - k)}},0):=by
 rw[iSwp_ok R k [] h (by simp;omega)]
 simp
theorem op1 (R:Rs) (n:Int):iOp R (1,n)=((iSwp R 0 [n]).1,false,(iSwp R 0 [n]).2):=by simp[iOp]
theorem op3 (R:Rs) (n:Int):iOp R (3,n)=(R,true,0):=by simp[iOp]
theorem op4U {R:Rs} {n:Int} (h:R.m.stack.length < 1):iOp R (4,n)=(R,false,5):=by
 have t:=top_no (R:=R) (k:=1) h
 simp[iOp,t]
theorem op4K {R:Rs} {n:Int} (h:1≤R.m.stack.length) (h64:R.m.stack.length≤64):iOp R (4,n)=({R with m:={R.m with stack:=R.m.stack.take (R.m.stack.length - 1)}},decide (R.m.stack.getD (R.m.stack.length - 1) 0=0),0):=by
 have t:=top_ok (R:=R) (k:=1) h
 rw[pd1 _ h] at t
 have p:=swp_pop (R:=R) (k:=1) h h64
 simp only[iOp,t,p]
 simp
theorem op5U {R:Rs} {k n:Int} (hk:k=5∨k=6) (h:R.m.stack.length < 2):iOp R (k,n)=(R,false,5):=by
 have t:=top_no (R:=R) (k:=2) h
 rcases hk with rfl|rfl <;> simp[iOp,t]
theorem op6J {R:Rs} {n:Int} (h:2≤R.m.stack.length) (h64:R.m.stack.length≤64) (e:R.m.stack.getD (R.m.stack.length - 2) 0=R.m.stack.getD (R.m.stack.length - 1) 0):iOp R (6,n)=({R with m:={R.m with stack:=R.m.stack.take (R.m.stack.length - 2)}},true,0):=by
 have t:=top_ok (R:=R) (k:=2) h
 rw[pd2 _ h] at t
 have p:=swp_pop (R:=R) (k:=2) h h64
 simp only[iOp,t,p,List.getD_cons_zero,List.getD_cons_succ,e]
 simp
theorem op5R {R:Rs} {k n:Int} (hk:k=5∨k=6) (h:2≤R.m.stack.length) (e:¬(k=6∧R.m.stack.getD (R.m.stack.length - 2) 0=R.m.stack.getD (R.m.stack.length - 1) 0)) (hr:62 < R.ret.length):iOp R (k,n)=(R,false,12):=by
 have t:=top_ok (R:=R) (k:=2) h
 rw[pd2 _ h] at t
 have k1:¬k=1:=by omega
 have k3:¬k=3:=by omega
 have k4:¬k=4:=by omega
 unfold iOp
 dsimp only
 rw[if_neg k1,if_neg k3,if_neg k4,if_pos hk,t]
 dsimp only
 rw[if_neg (by simp),if_neg (by simpa using e),if_pos hr]
theorem op5K {R:Rs} {k n:Int} (hk:k=5∨k=6) (h:2≤R.m.stack.length) (h64:R.m.stack.length≤64) (e:¬(k=6∧R.m.stack.getD (R.m.stack.length - 2) 0=R.m.stack.getD (R.m.stack.length - 1) 0)) (hr:¬62 < R.ret.length):
  iOp R (k,n)=({R with m:={R.m with stack:=R.m.stack.take (R.m.stack.length - 2)},ret:=R.ret++[R.m.stack.getD (R.m.stack.length - 2) 0,R.m.stack.getD (R.m.stack.length - 1) 0]},false,0):=by
 have t:=top_ok (R:=R) (k:=2) h
 rw[pd2 _ h] at t
 have p:=swp_pop (R:=R) (k:=2) h h64
 have k1:¬k=1:=by omega
 have k3:¬k=3:=by omega
 have k4:¬k=4:=by omega
 unfold iOp
 dsimp only
 rw[if_neg k1,if_neg k3,if_neg k4,if_pos hk,t,p]
 dsimp only
 rw[if_neg (by simp),if_neg (by simpa using e),if_neg hr]
theorem opLop {R:Rs} {k n:Int} (hk:k=7∨k=8∨k=9):iOp R (k,n)=iLop R (k,n):=by
 unfold iOp
 dsimp only
 rw[if_neg (by omega),if_neg (by omega),if_neg (by omega),if_neg (by omega),if_pos hk]
theorem opLE {R:Rs} {k n:Int} (hk:k=7∨k=8∨k=9) (h:iOwn R < 2):iOp R (k,n)=(R,false,12):=by
 rw[opLop hk]
 unfold iLop
 rw[if_pos h]
theorem op9K {R:Rs} {n:Int} (h:¬iOwn R < 2):iOp R (9,n)=({R with ret:=R.ret.take (R.ret.length - 2)},true,0):=by
 rw[opLop (by omega)]
 unfold iLop
 rw[if_neg h]
 simp
theorem op8U {R:Rs} {n:Int} (h:¬iOwn R < 2) (hk:R.m.stack.length < 1):iOp R (8,n)=(R,false,5):=by
 rw[opLop (by omega)]
 have t:=top_no (R:=R) (k:=1) hk
 unfold iLop
 rw[if_neg h]
 simp[t]
def agn (R:Rs) (st:Int):Rs×Bool×Int:=
 let k:=R.ret.length
 let lim:=R.ret.getD (k - 2) 0
 let ix:=R.ret.getD (k - 1) 0
 let x:=iS32 ((ix - lim)%4294967296)
 if decide (x < 0)≠decide (x+st < 0) then ({R with ret:=R.ret.take (k - 2)},false,0)
 else ({R with ret:=R.ret.take (k - 2)++[lim,(ix+st)%4294967296]},true,0)
theorem set_last2 (l:List Int) (h:2≤l.length) (x:Int):l.set (l.length - 1) x=l.take (l.length - 2)++[l.getD (l.length - 2) 0,x]:=by
 have e:l=l.take (l.length - 2)++[l.getD (l.length - 2) 0,l.getD (l.length - 1) 0]:=by
  rw[←pd2 l h,List.take_append_drop]
 generalize hp:l.take (l.length - 2)=p at e
 generalize l.getD (l.length - 2) 0=a at e
 generalize l.getD (l.length - 1) 0=b at e
 subst e
 have:(p++[a,b]).length - 1=p.length+1:=by simp
 rw[this,List.set_append_right _ _ (by omega)]
 simp
theorem op7K {R:Rs} {n:Int} (h:¬iOwn R < 2) (hb:0≤R.base) (hc:cells R.ret):iOp R (7,n)=agn R 1:=by
 rw[opLop (by omega)]
 have h2:2≤R.ret.length:=by unfold iOwn at h;omega
 have a:=cells_get' hc (R.ret.length - 2)
 have b:=cells_get' hc (R.ret.length - 1)
 unfold iLop agn
 rw[if_neg h]
 dsimp only
 rw[if_neg (by omega),if_neg (by omega),set_last2 _ h2]
 generalize R.ret.getD (R.ret.length - 2) 0=lim at a ⊢
 generalize R.ret.getD (R.ret.length - 1) 0=ix at b ⊢
 have e:((ix+1)%4294967296=lim)↔(decide (iS32 ((ix - lim)%4294967296) < 0)≠decide (iS32 ((ix - lim)%4294967296)+1 < 0)):=by
  simp only[ne_eq,decide_eq_decide]
  unfold iS32
  split <;> omega
 by_cases c:(ix+1)%4294967296=lim
 ·rw[if_pos c,if_pos (e.1 c)]
 ·rw[if_neg c,if_neg (fun q=>c (e.2 q))]
theorem op8K {R:Rs} {n:Int} (h:¬iOwn R < 2) (hb:0≤R.base) (hk:1≤R.m.stack.length) (h64:R.m.stack.length≤64) (hx:0≤R.m.stack.getD (R.m.stack.length - 1) 0∧R.m.stack.getD (R.m.stack.length - 1) 0 < 4294967296):
  iOp R (8,n)=agn {R with m:={R.m with stack:=R.m.stack.take (R.m.stack.length - 1)}} (iS32 (R.m.stack.getD (R.m.stack.length - 1) 0)):=by
 rw[opLop (by omega)]
 have h2:2≤R.ret.length:=by unfold iOwn at h;omega
 have t:=top_ok (R:=R) (k:=1) hk
 rw[pd1 _ hk] at t
 have p:=swp_pop (R:=R) (k:=1) hk h64
 unfold iLop agn
 rw[if_neg h]
 dsimp only
 rw[if_neg (by omega),if_pos rfl,t,p]
 dsimp only
 rw[if_neg (by simp),set_last2 _ h2]
 simp only[List.getD_cons_zero]
 have e:∀ix:Int,(ix+R.m.stack.getD (R.m.stack.length - 1) 0)%4294967296=(ix+iS32 (R.m.stack.getD (R.m.stack.length - 1) 0))%4294967296:=fun ix=>by
  unfold iS32
  split <;> omega
 rw[e]
theorem op10U {R:Rs} {n:Int} (h:R.m.stack.length < 2):iOp R (10,n)=(R,false,5):=by
 have t:=top_no (R:=R) (k:=2) h
 simp[iOp,t]
theorem op10E {R:Rs} {n:Int} (h:2≤R.m.stack.length) (h64:R.m.stack.length≤64) (e:R.m.stack.getD (R.m.stack.length - 2) 0=R.m.stack.getD (R.m.stack.length - 1) 0):iOp R (10,n)=({R with m:={R.m with stack:=R.m.stack.take (R.m.stack.length - 2)}},false,0):=by
 have t:=top_ok (R:=R) (k:=2) h
 rw[pd2 _ h] at t
 have p:=swp_pop (R:=R) (k:=2) h h64
 simp only[iOp,t,p,List.getD_cons_zero,List.getD_cons_succ,e]
 simp
theorem take_last (l:List Int) (h:2≤l.length):l.take (l.length - 1)=l.take (l.length - 2)++[l.getD (l.length - 2) 0]:=by
 have e:l=l.take (l.length - 2)++[l.getD (l.length - 2) 0,l.getD (l.length - 1) 0]:=by
  rw[←pd2 l h,List.take_append_drop]
 generalize hp:l.take (l.length - 2)=p at e ⊢
 generalize l.getD (l.length - 2) 0=a at e ⊢
 generalize l.getD (l.length - 1) 0=b at e
 subst e
 have:(p++[a,b]).length - 1=p.length+1:=by simp
 rw[this,List.take_append,List.take_of_length_le (by omega)]
 simp
theorem op10N {R:Rs} {n:Int} (h:2≤R.m.stack.length) (h64:R.m.stack.length≤64) (e:¬R.m.stack.getD (R.m.stack.length - 2) 0=R.m.stack.getD (R.m.stack.length - 1) 0):iOp R (10,n)=({R with m:={R.m with stack:=R.m.stack.take (R.m.stack.length - 2)++[R.m.stack.getD (R.m.stack.length - 2) 0]}},true,0):=by
 have t:=top_ok (R:=R) (k:=2) h
 rw[pd2 _ h] at t
 have p:=swp_pop (R:=R) (k:=1) (by omega) h64
 rw[take_last _ h] at p
 generalize R.m.stack.getD (R.m.stack.length - 2) 0=a at*
 generalize R.m.stack.getD (R.m.stack.length - 1) 0=b at*
 simp only[iOp,t,p,List.getD_cons_zero,List.getD_cons_succ]
 simp[e]
theorem op11U {R:Rs} {n:Int} (h:R.m.stack.length < 1):iOp R (11,n)=(R,false,5):=by
 simp[iOp,iSwp,h]
theorem op11K {R:Rs} {n:Int} (h:1≤R.m.stack.length) (h64:R.m.stack.length≤64):iOp R (11,n)=({R with m:={R.m with stack:=R.m.stack.take (R.m.stack.length - 1)}},false,0):=by
 have p:=swp_pop (R:=R) (k:=1) h h64
 simp[iOp,p]
theorem opTo {R:Rs} {n:Int}:iOp R (13,n)=((iTo R n).1,false,(iTo R n).2):=by simp[iOp]
open Go.ChangeShapes Go.WideShapes Go.ChangeAt Go.RowKit
def OtP (B:Nat) (D:Nat→Prop) (q:Nat) (s b:Sv) (fuel:Int) (w:World) (o:Ot) (ret:Int→Ending):Ending→World→Prop:=fun e w'=>
 e=ret o.e∧Below B w w'∧∃s' vf',RunL B D w' q s' b vf' o.fs o.nxt fuel o.thr∧(o.e=0→s'.m=o.m∧s'.ret=o.ret)∧(¬o.e=0→s'.m.words=s.m.words∧s'.m.insts=s.m.insts)
def rtE (E:Int):Ending:= .returned (.int .i64 E)
theorem opO_op {o:Opd} {R:Rs} {b wd at_:Int} {r:List Fm} (h1:¬o.1=12) (h2:¬o.1=2) {R':Rs} {f:Bool} {e:Int} (h:iOp R o=(R',f,e)):
  opO o R b wd at_ r=⟨R'.m,R'.ret, .colon b wd (if f=true∧e=0 then o.2 else at_)::r, -1,R.n,e⟩:=by
 unfold opO
 rw[if_neg h1,if_neg h2,h]
theorem OtP.yes {B:Nat} {D:Nat→Prop} {q:Nat} {s b s':Sv} {fuel:Int} {w w':World} {vf':Value} {m:Mc} {rt:List Int} {fs:List Fm} {nxt thr:Int} (L:Below B w w') (h:RunL B D w' q s' b vf' fs nxt fuel thr) (em:s'.m=m) (er:s'.ret=rt):
  OtP B D q s b fuel w ⟨m,rt,fs,nxt,thr,0⟩ rtE (.returned (.int .i64 0)) w':=⟨rfl,L,s',vf',h,fun _=>⟨em,er⟩,fun e=>absurd rfl e⟩
theorem OtP.no {B:Nat} {D:Nat→Prop} {q:Nat} {s b s':Sv} {fuel:Int} {w w':World} {vf':Value} {m:Mc} {rt:List Int} {fs:List Fm} {nxt thr E:Int} (hE:¬E=0) (L:Below B w w') (h:RunL B D w' q s' b vf' fs nxt fuel thr) (em:s'.m.words=s.m.words) (er:s'.m.insts=s.m.insts):
  OtP B D q s b fuel w ⟨m,rt,fs,nxt,thr,E⟩ rtE (.returned (.int .i64 E)) w':=⟨rfl,L,s',vf',h,fun e=>absurd e hE,fun _=>⟨em,er⟩⟩
theorem stb_idx {D:Nat→Prop} {w:World} {v:Value} {xs:List Int} (hs:Stb kR D w (fun u=>Rd .u32 u v xs)) (i:Int) (h0:0≤i) (hi:i < xs.length):
  ∃ad,(∀w',(Instr.indexAt 22 v (.int .i64 i)).run Tryz.prog w'= .ok (.pointer (some ad)) w')∧∀W,Agr kR D w W→W.cell? ad=some (.int .u32 (xs.getD i.toNat 0)):=by
 obtain ⟨ad,hr,hc⟩:=rd_idx hs.now Stk.uS Stk.zS i h0 hi
 refine ⟨ad,hr,fun W g=> ?_⟩
 obtain ⟨ad',hr',hc'⟩:=rd_idx (hs W g) Stk.uS Stk.zS i h0 hi
 have e:=(hr W).symm.trans (hr' W)
 injection e with e1
 injection e1 with e1
 injection e1 with e1
 rw[e1]
 exact hc'
theorem w_leaveKA {B:Nat} {D:Nat→Prop} {w:World} {q:Nat} {s b:Sv} {vf:Value} {fs:List Fm} {nxt fuel thr:Int} (h:RunL B D w q s b vf fs nxt fuel thr) (vl:Value) (ys:List Int) (rl:Rd .u32 w vl ys) (hy:s.m.stack.length+ys.length≤64):
  Calls Tryz.prog 79 #[.pointer (some ⟨q,0,none⟩), .int .i64 0,vl] w fun e w'=>∃v1,e= .returned (.int .i64 0)∧RunL B D w' q (s.stk v1 (s.m.stack++ys)) b vf fs nxt fuel thr∧Below B w w'∧Agr kR D w w':=by
 have c:=w_leave q _ _ _ _ _ _ w h.st rfl h.hs.stack.now rl (by omega) (by omega)
 rw[push_ok _ _ hy] at c
 refine c.mono ?_
 rintro e w2 ⟨v1,rfl,st2,o1,g2⟩
 exact ⟨v1,rfl,h.stk g2 st2 o1,h.low g2,h.agr g2⟩
set_option maxHeartbeats 1000000 in
theorem w_ifZero {B:Nat} {D:Nat→Prop} {w:World} {q:Nat} {s b:Sv} {vf:Value} {bs wd at_:Int} {r:List Fm} {fuel thr:Int} (h:RunL B D w q s b vf (.colon bs wd at_::r) (-1) fuel thr) (ok:Okr (toR s (.colon bs wd at_::r) thr)) (hl:r.length≤999999) (hb0:0≤bs) (n:Int) (hn:0≤n∧n < 4294967296):
  Calls Tryz.prog 128 #[.pointer (some ⟨q,0,none⟩), .int .u32 n] w (OtP B D q s b fuel w (opO (4,n) (toR s (.colon bs wd at_::r) thr) bs wd at_ r) rtE):=by
 have hsl:s.m.stack.length≤64:=h64_of ok
 have hsc:cells s.m.stack:=ok.ran.m.stack
 have hrl:s.ret.length≤64:=ok.ran.retL
 have hown:iOwn (toR s (.colon bs wd at_::r) thr)=(s.ret.length:Int) - bs:=rfl
 by_cases hk:s.m.stack.length < 1
 ·rw[opO_op (R:=(toR s (.colon bs wd at_::r) thr)) (by simp) (by simp) (op4U hk)]
  have ct:=w_takeU h 1 hk hsl
  clear h
  go_enter Tryz.func128,Tryz.ntmps128
  go_wp2_with (go_at_call 134;refine ct.mono ?_;rintro e w2 ⟨v1,v2,rfl,h2,b2⟩)
  go_ret
  exact OtP.no (by decide) b2 h2 rfl rfl
 ·have hk1:1≤s.m.stack.length:=by omega
  have edr:=drop1 s.m.stack hk1
  have ct:=w_takeK h 1 hk1 hsl
  rw[edr] at ct
  rw[opO_op (R:=(toR s (.colon bs wd at_::r) thr)) (by simp) (by simp) (op4K hk1 hsl)]
  have cj:=fun W v1 (h2:RunL B D W q (s.stk v1 (s.m.stack.take (s.m.stack.length - 1))) b vf (.colon bs wd at_::r) (-1) fuel thr)=>w_jump h2 (by omega) n hn
  have CJ:=hid cj
  show Calls _ _ _ _ (OtP B D q s b fuel w ⟨{s.m with stack:=s.m.stack.take (s.m.stack.length - 1)},s.ret, .colon bs wd (if decide (s.m.stack.getD (s.m.stack.length - 1) 0=0)=true∧(0:Int)=0 then n else at_)::r, -1,thr,0⟩ rtE)
  obtain ⟨X,hX⟩:∃X,s.m.stack.getD (s.m.stack.length - 1) 0=X:=⟨_,rfl⟩
  rw[hX] at ct ⊢
  clear h edr hX cj
  by_cases hc:X=0
  ·subst hc
   rw[if_pos (by simp)]
   go_enter Tryz.func128,Tryz.ntmps128
   go_wp2_with (first
    |(go_at_call 134;refine ct.mono ?_;rintro e w2 ⟨v1,v2,rfl,h2,o2,b2⟩;have c2:=CJ.out _ _ h2;obtain ⟨a0,i0,k0⟩:=rd_idx o2.1 Stk.uS Stk.zS 0 (by omega) (by simp);simp only[show ((0:Int)).toNat=0 from rfl,List.getD_cons_zero] at k0)
    |(go_at_call 127;refine c2.mono ?_;rintro e w3 ⟨rfl,h3,b3,a3⟩))
   go_ret
   exact OtP.yes (Below.trans b2 b3) h3 rfl rfl
  ·have hb:(X==0)=false:=beq_eq_false_iff_ne.2 hc
   rw[if_neg (by simp[hc])]
   clear hc
   go_enter Tryz.func128,Tryz.ntmps128
   go_wp2_with (go_at_call 134;refine ct.mono ?_;rintro e w2 ⟨v1,v2,rfl,h2,o2,b2⟩;obtain ⟨a0,i0,k0⟩:=rd_idx o2.1 Stk.uS Stk.zS 0 (by omega) (by simp);simp only[show ((0:Int)).toNat=0 from rfl,List.getD_cons_zero] at k0)
   go_ret
   exact OtP.yes b2 h2 rfl rfl
set_option maxHeartbeats 1000000 in
theorem w_outLoop {B:Nat} {D:Nat→Prop} {w:World} {q:Nat} {s b:Sv} {vf:Value} {bs wd at_:Int} {r:List Fm} {fuel thr:Int} (h:RunL B D w q s b vf (.colon bs wd at_::r) (-1) fuel thr) (ok:Okr (toR s (.colon bs wd at_::r) thr)) (hl:r.length≤999999) (hb0:0≤bs) (n:Int) (hn:0≤n∧n < 4294967296):
  Calls Tryz.prog 132 #[.pointer (some ⟨q,0,none⟩), .int .u32 n] w (OtP B D q s b fuel w (opO (9,n) (toR s (.colon bs wd at_::r) thr) bs wd at_ r) rtE):=by
 have hsl:s.m.stack.length≤64:=h64_of ok
 have hsc:cells s.m.stack:=ok.ran.m.stack
 have hrl:s.ret.length≤64:=ok.ran.retL
 have hown:iOwn (toR s (.colon bs wd at_::r) thr)=(s.ret.length:Int) - bs:=rfl
 by_cases hk:(s.ret.length:Int) - bs < 2
 ·rw[opO_op (R:=(toR s (.colon bs wd at_::r) thr)) (by simp) (by simp) (opLE (by omega) (by rw[hown];exact hk))]
  have ct:=w_takeRetE h (by simp;omega) hrl 2 (by omega) (by omega) (by show (s.ret.length:Int) - 2 < bs;omega)
  have HH:=hid h
  clear h
  go_enter Tryz.func132,Tryz.ntmps132
  go_wp2_with (go_at_call 185;refine ct.mono ?_;rintro e w2 ⟨rfl,b2⟩)
  go_ret
  exact OtP.no (by decide) (HH.out.low (gb_of b2)) (HH.out.below b2) rfl rfl
 ·rw[opO_op (R:=(toR s (.colon bs wd at_::r) thr)) (by simp) (by simp) (op9K (by rw[hown];exact hk))]
  show Calls _ _ _ _ (OtP B D q s b fuel w ⟨s.m,s.ret.take (s.ret.length - 2), .colon bs wd n::r, -1,thr,0⟩ rtE)
  have ct:=w_takeRet h (by simp;omega) hrl 2 (by show bs≤(s.ret.length:Int) - 2;omega) hb0
  have cj:=fun W v1 (h2:RunL B D W q (s.rt v1 (s.ret.take (s.ret.length - 2))) b vf (.colon bs wd at_::r) (-1) fuel thr)=>w_jump h2 (by omega) n hn
  have CJ:=hid cj
  have HH:=hid h
  clear h cj
  go_enter Tryz.func132,Tryz.ntmps132
  go_wp2_with (first
   |(go_at_call 185;refine ct.mono ?_;rintro e w2 ⟨v1,v2,rfl,h2,o2,g2⟩;have c2:=CJ.out _ _ h2)
   |(go_at_call 127;refine c2.mono ?_;rintro e w3 ⟨rfl,h3,b3,a3⟩))
  go_ret
  exact OtP.yes (Below.trans (HH.out.low g2) b3) h3 rfl rfl
set_option maxHeartbeats 4000000 in
theorem w_ofCase {B:Nat} {D:Nat→Prop} {w:World} {q:Nat} {s b:Sv} {vf:Value} {bs wd at_:Int} {r:List Fm} {fuel thr:Int} (h:RunL B D w q s b vf (.colon bs wd at_::r) (-1) fuel thr) (ok:Okr (toR s (.colon bs wd at_::r) thr)) (hl:r.length≤999999) (hb0:0≤bs) (n:Int) (hn:0≤n∧n < 4294967296):
  Calls Tryz.prog 133 #[.pointer (some ⟨q,0,none⟩), .int .u32 n] w (OtP B D q s b fuel w (opO (10,n) (toR s (.colon bs wd at_::r) thr) bs wd at_ r) rtE):=by
 have hsl:s.m.stack.length≤64:=h64_of ok
 have hsc:cells s.m.stack:=ok.ran.m.stack
 have hrl:s.ret.length≤64:=ok.ran.retL
 have hown:iOwn (toR s (.colon bs wd at_::r) thr)=(s.ret.length:Int) - bs:=rfl
 by_cases hk:s.m.stack.length < 2
 ·rw[opO_op (R:=(toR s (.colon bs wd at_::r) thr)) (by simp) (by simp) (op10U hk)]
  have ct:=w_takeU h 2 hk hsl
  clear h
  have hg:((5:Int) !=0)=true:=by decide
  go_enter Tryz.func133,Tryz.ntmps133
  go_upto_region 2 with (go_at_call 134;refine ct.mono ?_;rintro e w2 ⟨v1,v2,rfl,h2,b2⟩)
  have HH:=hid h2
  clear h2
  go_quiet (fail)
  go_wp2_with fail
  go_ret
  exact OtP.no (by decide) (Below.trans b2 (HH.out.low (gb_of (below_drewN (Below.refl _ _) _)))) (HH.out.below (below_drewN (Below.refl _ _) _)) rfl rfl
 ·have hk1:2≤s.m.stack.length:=by omega
  have edr:=drop2 s.m.stack hk1
  have ct:=w_takeK h 2 hk1 hsl
  rw[edr] at ct
  obtain ⟨X,hX⟩:∃X,s.m.stack.getD (s.m.stack.length - 2) 0=X:=⟨_,rfl⟩
  obtain ⟨Y,hY⟩:∃X,s.m.stack.getD (s.m.stack.length - 1) 0=X:=⟨_,rfl⟩
  have hXc:=cells_get' hsc (s.m.stack.length - 2)
  rw[hX] at hXc
  by_cases hc:X=Y
  ·rw[opO_op (R:=(toR s (.colon bs wd at_::r) thr)) (by simp) (by simp) (op10E hk1 hsl (by show s.m.stack.getD (s.m.stack.length - 2) 0=s.m.stack.getD (s.m.stack.length - 1) 0;rw[hX,hY];exact hc))]
   show Calls _ _ _ _ (OtP B D q s b fuel w ⟨{s.m with stack:=s.m.stack.take (s.m.stack.length - 2)},s.ret, .colon bs wd at_::r, -1,thr,0⟩ rtE)
   rw[hX,hY] at ct
   have hb:(X==Y)=true:=by simp[hc]
   clear h edr hX hY hc
   go_enter Tryz.func133,Tryz.ntmps133
   go_upto_region 2 with (go_at_call 134;refine ct.mono ?_;rintro e w2 ⟨v1,v2,rfl,h2,o2,b2⟩)
   obtain ⟨a0,i0,k0⟩:=rd_idx o2.1 Stk.uS Stk.zS 0 (by omega) (by simp);obtain ⟨a1,i1,k1⟩:=rd_idx o2.1 Stk.uS Stk.zS 1 (by omega) (by simp);simp only[Int.toNat_zero,Int.toNat_one,List.getD_cons_zero,List.getD_cons_succ] at k0 k1
   have HH:=hid h2
   clear h2 o2
   go_quiet (fail)
   go_wp2_with fail
   go_ret
   exact OtP.yes (Below.trans b2 (HH.out.low (gb_of (below_drewN (Below.refl _ _) _)))) (HH.out.below (below_drewN (Below.refl _ _) _)) rfl rfl
  ·rw[opO_op (R:=(toR s (.colon bs wd at_::r) thr)) (by simp) (by simp) (op10N hk1 hsl (by show ¬s.m.stack.getD (s.m.stack.length - 2) 0=s.m.stack.getD (s.m.stack.length - 1) 0;rw[hX,hY];exact hc))]
   show Calls _ _ _ _ (OtP B D q s b fuel w ⟨{s.m with stack:=s.m.stack.take (s.m.stack.length - 2)++[s.m.stack.getD (s.m.stack.length - 2) 0]},s.ret, .colon bs wd n::r, -1,thr,0⟩ rtE)
   have hb:(X==Y)=false:=beq_eq_false_iff_ne.2 hc
   have hrest:(s.m.stack.take (s.m.stack.length - 2)).length=s.m.stack.length - 2:=by simp
   rw[hX,hY] at ct
   rw[hX]
   have cj:=fun W v1 (h2:RunL B D W q (s.stk v1 (s.m.stack.take (s.m.stack.length - 2))) b vf (.colon bs wd at_::r) (-1) fuel thr)=>w_jump h2 (by omega) n hn
   have CJ:=hid cj
   have cl:=fun W v1 vl (h2:RunL B D W q (s.stk v1 (s.m.stack.take (s.m.stack.length - 2))) b vf (.colon bs wd n::r) (-1) fuel thr) (rl:Rd .u32 W vl [X])=>w_leaveKA h2 vl [X] rl (by show (s.m.stack.take (s.m.stack.length - 2)).length+1≤64;omega)
   have CL:=hid cl
   have HH:=hid h
   clear h edr hX hY hc cj cl
   go_enter Tryz.func133,Tryz.ntmps133
   go_upto_region 2 with (go_at_call 134;refine ct.mono ?_;rintro e w2 ⟨v1,v2,rfl,h2,o2,b2⟩)
   obtain ⟨a0,i0,k0⟩:=rd_idx o2.1 Stk.uS Stk.zS 0 (by omega) (by simp);obtain ⟨a1,i1,k1⟩:=rd_idx o2.1 Stk.uS Stk.zS 1 (by omega) (by simp);simp only[Int.toNat_zero,Int.toNat_one,List.getD_cons_zero,List.getD_cons_succ] at k0 k1
   have SX:=stb_idx (stb_rdn (D:=D) o2 (fun k hk=>(HH.out.hD k hk).2)) 0 (by omega) (by simp)
   obtain ⟨a9,i9,k9⟩:=SX
   have K9:=hid k9
   simp only[Int.toNat_zero,List.getD_cons_zero] at K9
   have H2:=hid h2
   clear h2 o2 k9
   go_quiet (fail)
   go_upto_region 5 with (go_at_call 127;refine (CJ.out _ _ (H2.out.below (below_drewN (Below.refl _ _) _))).mono ?_;rintro e w3 ⟨rfl,h3,b3,a3⟩)
   have A3:Hid (Agr kR D w2 w3):=hid ((Agr.below (below_drewN (Below.refl _ _) _)).trans a3)
   have L3:Hid (Below B w w3):=hid (Below.trans b2 (Below.trans (H2.out.low (gb_of (below_drewN (Below.refl _ _) _))) b3))
   have H3:=hid h3
   have hd3:Hid (Below w3.heap.size w3 w3.drew):=hid (below_drewN (Below.refl _ _) 1)
   have hd4:Hid (Below w3.heap.size w3 (w3.alloc (.cells #[.int .u32 X] 26)).drew):=hid (below_trans (box_below w3 _) (below_drewN (Below.refl _ _) 1))
   have KA:Hid (∀W,Agr kR D w3 W→W.cell? a9=some (.int .u32 X)):=hid (fun W g=>K9.out W (A3.out.trans g))
   have ci:=CL.out _ _ (.slice (some ⟨w3.heap.size,0,none⟩) 1 1) (H3.out.below hd4.out) ((rd_one w3 X 26).below (below_drewN (Below.refl _ _) 1))
   clear h3 a3 b3 k0 k1 i0 i1
   go_wp2_with fail
   refine wp_region_held_drew (S:=fun W=>W.cell? a9=some (.int .u32 X)) (by kernel_rfl) (KA.out _ (Agr.below hd3.out)) (fun hHeld=> ?_)
   refine wpAnyH_take (i:=0) (v:= ?v1) rfl (by kernel_rfl) (by kernel_rfl) (by kernel_rfl) (fun _ _ _ h=>h) (Or.inl ⟨by kernel_rfl, ?h1⟩) hHeld ?r1
   case h1=>intro W hSw;(try dsimp only at hSw);obtain s0:=hSw;go_simp;try with_reducible rfl
   simp only[Act.put,List.setIfInBounds_toArray,List.set_cons_zero,List.set_cons_succ]
   refine wpAnyH_take (i:=1) (v:= ?v2) rfl (by kernel_rfl) (by kernel_rfl) (by kernel_rfl) (fun _ _ _ h=>h) (Or.inl ⟨by kernel_rfl, ?h2⟩) hHeld ?r2
   case h2=>intro W hSw;(try dsimp only at hSw);obtain s0:=hSw;go_simp;try with_reducible rfl
   simp only[Act.put,List.setIfInBounds_toArray,List.set_cons_zero,List.set_cons_succ]
   refine wpAnyH_take (i:=2) (v:= ?v3) rfl (by kernel_rfl) (by kernel_rfl) (by kernel_rfl) (fun _ _ _ h=>h) (Or.inl ⟨by kernel_rfl, ?h3⟩) hHeld ?r3
   case h3=>intro W hSw;(try dsimp only at hSw);obtain s0:=hSw;go_simp;try with_reducible rfl
   simp only[Act.put,List.setIfInBounds_toArray,List.set_cons_zero,List.set_cons_succ]
   refine wpAnyH_take (i:=3) (v:= ?v4) rfl (by kernel_rfl) (by kernel_rfl) (by kernel_rfl) (fun _ _ _ h=>h) (Or.inl ⟨by kernel_rfl, ?h4⟩) hHeld ?r4
   case h4=>intro W hSw;(try dsimp only at hSw);obtain s0:=hSw;go_simp;try with_reducible rfl
   simp only[Act.put,List.setIfInBounds_toArray,List.set_cons_zero,List.set_cons_succ]
   refine wpAnyH_take (i:=4) (v:= ?v5) rfl (by kernel_rfl) (by kernel_rfl) (by kernel_rfl) (fun _ _ _ h=>h) (Or.inl ⟨by kernel_rfl, ?h5⟩) hHeld ?r5
   case h5=>intro W hSw;(try dsimp only at hSw);obtain s0:=hSw;go_simp;try with_reducible rfl
   simp only[Act.put,List.setIfInBounds_toArray,List.set_cons_zero,List.set_cons_succ]
   refine wpAnyH_take (i:=5) (v:= ?v6) rfl (by kernel_rfl) (by kernel_rfl) (by kernel_rfl) (fun _ _ _ h=>h) (Or.inl ⟨by kernel_rfl, ?h6⟩) hHeld ?r6
   case h6=>intro W hSw;(try dsimp only at hSw);obtain s0:=hSw;go_simp;try with_reducible rfl
   simp only[Act.put,List.setIfInBounds_toArray,List.set_cons_zero,List.set_cons_succ]
   refine wpAnyH_ready (rs:=[6]) (by kernel_rfl) (by simp) ?_
   refine AllReadyH.cons rfl (fun K hK=> ?_) AllReadyH.nil
   go_simp
   refine hK.out _ _ (KA.out _ (Agr.below hd4.out)) (fun hHeld=> ?_)
   clear hK K
   (try simp only[Act.put,List.setIfInBounds_toArray,List.set_cons_zero,List.set_cons_succ])
   refine wpAnyH_ready (rs:=[7]) (by kernel_rfl) (by simp) ?_
   refine AllReadyH.cons rfl (fun K hK=> ?_) AllReadyH.nil
   go_simp
   go_wp2_with (first|(go_at_call 79;refine ci.mono ?_;rintro e w5 ⟨v5,rfl,h5,b5,a5⟩;have K5:Hid (w5.cell? a9=some (.int .u32 X)):=hid (KA.out _ ((Agr.below hd4.out).trans a5))))
   refine hK.out _ _ (K5.out) (fun hHeld=> ?_)
   clear hK K
   (try simp only[Act.put,List.setIfInBounds_toArray,List.set_cons_zero,List.set_cons_succ])
   refine wpAnyH_ready (rs:=[8]) (by kernel_rfl) (by simp) ?_
   refine AllReadyH.cons rfl (fun K hK=> ?_) AllReadyH.nil
   go_simp
   refine hK.out _ _ (K5.out) (fun hHeld=> ?_)
   clear hK K
   (try simp only[Act.put,List.setIfInBounds_toArray,List.set_cons_zero,List.set_cons_succ])
   refine wpAnyH_done (by kernel_rfl) ?_ _
   go_wp2_with fail
   go_ret
   exact OtP.yes (Below.trans L3.out (Below.trans (H3.out.low (gb_of hd4.out)) b5)) h5 rfl rfl
theorem w_takeUA {B:Nat} {D:Nat→Prop} {w:World} {q:Nat} {s b:Sv} {vf:Value} {fs:List Fm} {nxt fuel thr:Int} (h:RunL B D w q s b vf fs nxt fuel thr) (k:Nat) (hk:s.m.stack.length < k) (hs:s.m.stack.length≤64):
  Calls Tryz.prog 134 #[.pointer (some ⟨q,0,none⟩), .int .i64 k] w fun e w'=>∃v1 v2,e= .returned (.tuple #[v2, .int .i64 5])∧RunL B D w' q (s.stk v1 []) b vf fs nxt fuel thr∧Below B w w'∧Agr kR D w w':=by
 have c:=w_take q _ _ _ _ k w h.st rfl h.hs.stack.now hs
 rw[pop_no _ _ hk] at c
 refine c.mono ?_
 rintro e w2 ⟨v1,v2,rfl,st2,o1,o2,g2⟩
 exact ⟨v1,v2,rfl,h.stk g2 st2 o1,h.low g2,h.agr g2⟩
theorem w_takeKA {B:Nat} {D:Nat→Prop} {w:World} {q:Nat} {s b:Sv} {vf:Value} {fs:List Fm} {nxt fuel thr:Int} (h:RunL B D w q s b vf fs nxt fuel thr) (k:Nat) (hk:k≤s.m.stack.length) (hs:s.m.stack.length≤64):
  Calls Tryz.prog 134 #[.pointer (some ⟨q,0,none⟩), .int .i64 k] w fun e w'=>∃v1 v2,e= .returned (.tuple #[v2, .int .i64 0])∧RunL B D w' q (s.stk v1 (s.m.stack.take (s.m.stack.length - k))) b vf fs nxt fuel thr∧Stk.RdN w.heap.size w' v2 (s.m.stack.drop (s.m.stack.length - k))∧Below B w w'∧Agr kR D w w':=by
 have c:=w_take q _ _ _ _ k w h.st rfl h.hs.stack.now hs
 rw[pop_ok _ _ hk] at c
 refine c.mono ?_
 rintro e w2 ⟨v1,v2,rfl,st2,o1,o2,g2⟩
 exact ⟨v1,v2,rfl,h.stk g2 st2 o1,o2,h.low g2,h.agr g2⟩
theorem boxA {D:Nat→Prop} {w W:World} {cs:Array Value} {T:TypeId} (hT:kR T=false) (hD:∀k,D k→k < w.heap.size) (g:Agr kR D (w.alloc (.cells cs T)) W) (j:Nat) {u:Value} (hu:cs[j]? =some u):W.cell? ⟨w.heap.size,j,none⟩=some u:=
 agr_cell g (stands_new w cs T) hT (fun d=>by have:=hD _ d;omega) ((stands_new w cs T).cell j u hu)
theorem wr32 (d:Int) (h0:0≤d) (h1:d < 4294967296):wrap32 d=iS32 d:=by
 unfold wrap32 iS32
 split <;> omega
set_option maxHeartbeats 4000000 in
theorem w_openLoop {B:Nat} {D:Nat→Prop} {w:World} {q:Nat} {s b:Sv} {vf:Value} {bs wd at_:Int} {r:List Fm} {fuel thr:Int} (h:RunL B D w q s b vf (.colon bs wd at_::r) (-1) fuel thr) (ok:Okr (toR s (.colon bs wd at_::r) thr)) (hl:r.length≤999999) (hb0:0≤bs) (n:Int) (hn:0≤n∧n < 4294967296) (K:Int) (hK:K=5∨K=6):
  Calls Tryz.prog 129 #[.pointer (some ⟨q,0,none⟩), .agg #[.int .i64 K, .int .u32 n]] w (OtP B D q s b fuel w (opO (K,n) (toR s (.colon bs wd at_::r) thr) bs wd at_ r) rtE):=by
 have hsl:s.m.stack.length≤64:=h64_of ok
 have hsc:cells s.m.stack:=ok.ran.m.stack
 have hrl:s.ret.length≤64:=ok.ran.retL
 have hown:iOwn (toR s (.colon bs wd at_::r) thr)=(s.ret.length:Int) - bs:=rfl
 have bb:=box_below w (.cells #[.int .i64 K, .int .u32 n] 47)
 have h1:=h.below bb
 have hD:=h.hD
 have BC:Hid (∀W,Agr kR D (w.alloc (.cells #[.int .i64 K, .int .u32 n] 47)) W→W.cell? ⟨w.heap.size,0,none⟩=some (.int .i64 K)∧W.cell? ⟨w.heap.size,1,none⟩=some (.int .u32 n)):=hid (fun W g=>⟨boxA (by decide) (fun k hk=>(hD k hk).2) g 0 rfl,boxA (by decide) (fun k hk=>(hD k hk).2) g 1 rfl⟩)
 have L1:Hid (Below B w (w.alloc (.cells #[.int .i64 K, .int .u32 n] 47))):=hid (h.low (gb_of bb))
 by_cases hk:s.m.stack.length < 2
 ·rw[opO_op (R:=(toR s (.colon bs wd at_::r) thr)) (by simp;omega) (by simp;omega) (op5U hK hk)]
  have ct:=w_takeUA h1 2 hk hsl
  clear h h1 hD hK
  go_enter Tryz.func129,Tryz.ntmps129
  go_wp2_with (go_at_call 134;refine ct.mono ?_;rintro e w2 ⟨v1,v2,rfl,h2,b2,a2⟩)
  go_ret
  exact OtP.no (by decide) (Below.trans L1.out b2) h2 rfl rfl
 ·have hk1:2≤s.m.stack.length:=by omega
  have edr:=drop2 s.m.stack hk1
  have ct:=w_takeKA h1 2 hk1 hsl
  rw[edr] at ct
  obtain ⟨X,hX⟩:∃X,s.m.stack.getD (s.m.stack.length - 2) 0=X:=⟨_,rfl⟩
  obtain ⟨Y,hY⟩:∃X,s.m.stack.getD (s.m.stack.length - 1) 0=X:=⟨_,rfl⟩
  have HD1:Hid (∀k,D k→k < (w.alloc (.cells #[.int .i64 K, .int .u32 n] 47)).heap.size):=hid (fun k hk=>(h1.hD k hk).2)
  by_cases hj:K=6∧X=Y
  ·obtain ⟨hK6,hXY⟩:=hj
   subst hK6
   rw[opO_op (R:=(toR s (.colon bs wd at_::r) thr)) (by simp) (by simp) (op6J hk1 hsl (by show s.m.stack.getD (s.m.stack.length - 2) 0=s.m.stack.getD (s.m.stack.length - 1) 0;rw[hX,hY];exact hXY))]
   show Calls _ _ _ _ (OtP B D q s b fuel w ⟨{s.m with stack:=s.m.stack.take (s.m.stack.length - 2)},s.ret, .colon bs wd n::r, -1,thr,0⟩ rtE)
   rw[hX,hY] at ct
   have hb:(X==Y)=true:=by simp[hXY]
   have cj:=fun W v1 (h2:RunL B D W q (s.stk v1 (s.m.stack.take (s.m.stack.length - 2))) b vf (.colon bs wd at_::r) (-1) fuel thr)=>w_jump h2 (by omega) n hn
   have CJ:=hid cj
   clear h h1 hD edr hX hY hXY cj hK
   go_enter Tryz.func129,Tryz.ntmps129
   go_upto_region 4 with (go_at_call 134;refine ct.mono ?_;rintro e w2 ⟨v1,v2,rfl,h2,o2,b2,a2⟩)
   obtain ⟨a0,i0,k0⟩:=rd_idx o2.1 Stk.uS Stk.zS 0 (by omega) (by simp);obtain ⟨a1,i1,k1⟩:=rd_idx o2.1 Stk.uS Stk.zS 1 (by omega) (by simp);simp only[Int.toNat_zero,Int.toNat_one,List.getD_cons_zero,List.getD_cons_succ] at k0 k1
   obtain ⟨y0,y1⟩:=BC.out _ a2
   have H2:=hid h2
   have A2:=hid a2
   clear h2 o2 a2
   go_quiet (fail)
   have h3:=H2.out.below (below_drewN (Below.refl _ _) nq)
   obtain ⟨z0,z1⟩:=BC.out _ (A2.out.trans (Agr.below (below_drewN (Below.refl _ _) nq)))
   have c3:=CJ.out _ _ h3
   have L3:Hid (Below B w (w2.drewN nq)):=hid (Below.trans L1.out (Below.trans b2 (H2.out.low (gb_of (below_drewN (Below.refl _ _) _)))))
   clear h3
   go_wp2_with (go_at_call 127;refine c3.mono ?_;rintro e w3 ⟨rfl,h3,b3,a3⟩)
   go_ret
   exact OtP.yes (Below.trans L3.out b3) h3 rfl rfl
  ·have hg:(K==6&&X==Y)=false:=by
    rcases hK with rfl|rfl
    ·rfl
    ·simp only[true_and] at hj
     simp[hj]
   by_cases hr:62 < s.ret.length
   ·rw[opO_op (R:=(toR s (.colon bs wd at_::r) thr)) (by simp;omega) (by simp;omega) (op5R hK hk1 (by show ¬(K=6∧s.m.stack.getD (s.m.stack.length - 2) 0=s.m.stack.getD (s.m.stack.length - 1) 0);rw[hX,hY];exact hj) hr)]
    rw[hX,hY] at ct
    have cl:=fun W (v1 v2:Value) (h2:RunL B D W q (s.stk v1 (s.m.stack.take (s.m.stack.length - 2))) b vf (.colon bs wd at_::r) (-1) fuel thr) (o2:Rd .u32 W v2 [X,Y])=>w_leaveRetE h2 v2 [X,Y] o2 hrl (by simp) (by show 64 < s.ret.length+2;omega)
    have CL:=hid cl
    clear h h1 hD edr hX hY cl
    rcases hK with hK|hK
    ·subst hK
     clear hj hg
     go_enter Tryz.func129,Tryz.ntmps129
     go_upto_region 4 with (go_at_call 134;refine ct.mono ?_;rintro e w2 ⟨v1,v2,rfl,h2,o2,b2,a2⟩)
     obtain ⟨a0,i0,k0⟩:=rd_idx o2.1 Stk.uS Stk.zS 0 (by omega) (by simp);obtain ⟨a1,i1,k1⟩:=rd_idx o2.1 Stk.uS Stk.zS 1 (by omega) (by simp);simp only[Int.toNat_zero,Int.toNat_one,List.getD_cons_zero,List.getD_cons_succ] at k0 k1
     obtain ⟨y0,y1⟩:=BC.out _ a2
     have H2:=hid h2
     have SS:=hid (stb_rdn (D:=D) o2 HD1.out)
     clear h2 o2 a2
     go_quiet (fail)
     have h3:=H2.out.below (below_drewN (Below.refl _ _) nq)
     have c3:=CL.out _ _ _ h3 ((SS.out.below (below_drewN (Below.refl _ _) nq)).now)
     have H3:=hid h3
     have L3:Hid (Below B w (w2.drewN nq)):=hid (Below.trans L1.out (Below.trans b2 (H2.out.low (gb_of (below_drewN (Below.refl _ _) _)))))
     clear h3
     go_wp2_with (go_at_call 184;refine c3.mono ?_;rintro e w3 ⟨rfl,hw3⟩;obtain rfl:=hw3.symm)
     go_ret
     exact OtP.no (by decide) L3.out H3.out rfl rfl
    ·subst hK
     have hb:(X==Y)=false:=by simpa using hg
     clear hj hg
     go_enter Tryz.func129,Tryz.ntmps129
     go_upto_region 4 with (go_at_call 134;refine ct.mono ?_;rintro e w2 ⟨v1,v2,rfl,h2,o2,b2,a2⟩)
     obtain ⟨a0,i0,k0⟩:=rd_idx o2.1 Stk.uS Stk.zS 0 (by omega) (by simp);obtain ⟨a1,i1,k1⟩:=rd_idx o2.1 Stk.uS Stk.zS 1 (by omega) (by simp);simp only[Int.toNat_zero,Int.toNat_one,List.getD_cons_zero,List.getD_cons_succ] at k0 k1
     obtain ⟨y0,y1⟩:=BC.out _ a2
     have H2:=hid h2
     have SS:=hid (stb_rdn (D:=D) o2 HD1.out)
     clear h2 o2 a2
     go_quiet (fail)
     have h3:=H2.out.below (below_drewN (Below.refl _ _) nq)
     have c3:=CL.out _ _ _ h3 ((SS.out.below (below_drewN (Below.refl _ _) nq)).now)
     have H3:=hid h3
     have L3:Hid (Below B w (w2.drewN nq)):=hid (Below.trans L1.out (Below.trans b2 (H2.out.low (gb_of (below_drewN (Below.refl _ _) _)))))
     clear h3
     go_wp2_with (go_at_call 184;refine c3.mono ?_;rintro e w3 ⟨rfl,hw3⟩;obtain rfl:=hw3.symm)
     go_ret
     exact OtP.no (by decide) L3.out H3.out rfl rfl
   ·rw[opO_op (R:=(toR s (.colon bs wd at_::r) thr)) (by simp;omega) (by simp;omega) (op5K hK hk1 hsl (by show ¬(K=6∧s.m.stack.getD (s.m.stack.length - 2) 0=s.m.stack.getD (s.m.stack.length - 1) 0);rw[hX,hY];exact hj) hr)]
    show Calls _ _ _ _ (OtP B D q s b fuel w ⟨{s.m with stack:=s.m.stack.take (s.m.stack.length - 2)},s.ret++[s.m.stack.getD (s.m.stack.length - 2) 0,s.m.stack.getD (s.m.stack.length - 1) 0], .colon bs wd at_::r, -1,thr,0⟩ rtE)
    rw[hX,hY] at ct ⊢
    have cl:=fun W (v1 v2:Value) (h2:RunL B D W q (s.stk v1 (s.m.stack.take (s.m.stack.length - 2))) b vf (.colon bs wd at_::r) (-1) fuel thr) (o2:Rd .u32 W v2 [X,Y])=>w_leaveRet h2 v2 [X,Y] o2 hrl (by show s.ret.length+2≤64;omega)
    have CL:=hid cl
    clear h h1 hD edr hX hY cl
    rcases hK with hK|hK
    ·subst hK
     clear hj hg
     go_enter Tryz.func129,Tryz.ntmps129
     go_upto_region 4 with (go_at_call 134;refine ct.mono ?_;rintro e w2 ⟨v1,v2,rfl,h2,o2,b2,a2⟩)
     obtain ⟨a0,i0,k0⟩:=rd_idx o2.1 Stk.uS Stk.zS 0 (by omega) (by simp);obtain ⟨a1,i1,k1⟩:=rd_idx o2.1 Stk.uS Stk.zS 1 (by omega) (by simp);simp only[Int.toNat_zero,Int.toNat_one,List.getD_cons_zero,List.getD_cons_succ] at k0 k1
     obtain ⟨y0,y1⟩:=BC.out _ a2
     have H2:=hid h2
     have SS:=hid (stb_rdn (D:=D) o2 HD1.out)
     clear h2 o2 a2
     go_quiet (fail)
     have h3:=H2.out.below (below_drewN (Below.refl _ _) nq)
     have c3:=CL.out _ _ _ h3 ((SS.out.below (below_drewN (Below.refl _ _) nq)).now)
     have H3:=hid h3
     have L3:Hid (Below B w (w2.drewN nq)):=hid (Below.trans L1.out (Below.trans b2 (H2.out.low (gb_of (below_drewN (Below.refl _ _) _)))))
     clear h3
     go_wp2_with (go_at_call 184;refine c3.mono ?_;rintro e w3 ⟨v3,rfl,h3,g3⟩)
     go_ret
     exact OtP.yes (Below.trans L3.out (H3.out.low g3)) h3 rfl rfl
    ·subst hK
     have hb:(X==Y)=false:=by simpa using hg
     clear hj hg
     go_enter Tryz.func129,Tryz.ntmps129
     go_upto_region 4 with (go_at_call 134;refine ct.mono ?_;rintro e w2 ⟨v1,v2,rfl,h2,o2,b2,a2⟩)
     obtain ⟨a0,i0,k0⟩:=rd_idx o2.1 Stk.uS Stk.zS 0 (by omega) (by simp);obtain ⟨a1,i1,k1⟩:=rd_idx o2.1 Stk.uS Stk.zS 1 (by omega) (by simp);simp only[Int.toNat_zero,Int.toNat_one,List.getD_cons_zero,List.getD_cons_succ] at k0 k1
     obtain ⟨y0,y1⟩:=BC.out _ a2
     have H2:=hid h2
     have SS:=hid (stb_rdn (D:=D) o2 HD1.out)
     clear h2 o2 a2
     go_quiet (fail)
     have h3:=H2.out.below (below_drewN (Below.refl _ _) nq)
     have c3:=CL.out _ _ _ h3 ((SS.out.below (below_drewN (Below.refl _ _) nq)).now)
     have H3:=hid h3
     have L3:Hid (Below B w (w2.drewN nq)):=hid (Below.trans L1.out (Below.trans b2 (H2.out.low (gb_of (below_drewN (Below.refl _ _) _)))))
     clear h3
     go_wp2_with (go_at_call 184;refine c3.mono ?_;rintro e w3 ⟨v3,rfl,h3,g3⟩)
     go_ret
     exact OtP.yes (Below.trans L3.out (H3.out.low g3)) h3 rfl rfl
theorem w_againE {B:Nat} {D:Nat→Prop} {w:World} {q:Nat} {s b:Sv} {vf:Value} {bs wd at_:Int} {r:List Fm} {fuel thr:Int} (h:RunL B D w q s b vf (.colon bs wd at_::r) (-1) fuel thr) (ok:Okr (toR s (.colon bs wd at_::r) thr)) (hl:r.length≤999999) (hb0:0≤bs) (n:Int) (hn:0≤n∧n < 4294967296) (st:Int) (hk:(s.ret.length:Int) - bs < 2):
  Calls Tryz.prog 130 #[.pointer (some ⟨q,0,none⟩), .int .u32 n, .int .i64 st] w fun e w'=>e= .returned (.int .i64 12)∧Below w.heap.size w w':=by
 have hrl:s.ret.length≤64:=ok.ran.retL
 have ct:=w_takeRetE h (by simp;omega) hrl 2 (by omega) (by omega) (by show (s.ret.length:Int) - 2 < bs;omega)
 clear h
 go_enter Tryz.func130,Tryz.ntmps130
 go_wp2_with (go_at_call 185;refine ct.mono ?_;rintro e w2 ⟨rfl,b2⟩)
 go_ret
 exact ⟨rfl,b2⟩
set_option maxHeartbeats 4000000 in
theorem w_againK {B:Nat} {D:Nat→Prop} {w:World} {q:Nat} {s b:Sv} {vf:Value} {bs wd at_:Int} {r:List Fm} {fuel thr:Int} (h:RunL B D w q s b vf (.colon bs wd at_::r) (-1) fuel thr) (ok:Okr (toR s (.colon bs wd at_::r) thr)) (hl:r.length≤999999) (hb0:0≤bs) (n:Int) (hn:0≤n∧n < 4294967296) (st:Int) (hs0: -2147483648≤st) (hs1:st≤2147483647) (hk:¬(s.ret.length:Int) - bs < 2):
  Calls Tryz.prog 130 #[.pointer (some ⟨q,0,none⟩), .int .u32 n, .int .i64 st] w (OtP B D q s b fuel w ⟨(agn (toR s (.colon bs wd at_::r) thr) st).1.m,(agn (toR s (.colon bs wd at_::r) thr) st).1.ret, .colon bs wd (if (agn (toR s (.colon bs wd at_::r) thr) st).2.1=true then n else at_)::r, -1,thr,0⟩ rtE):=by
 have hrl:s.ret.length≤64:=ok.ran.retL
 have hrc:cells s.ret:=ok.ran.ret
 have h2l:2≤s.ret.length:=by omega
 have ct:=w_takeRet h (by simp;omega) hrl 2 (by show bs≤(s.ret.length:Int) - 2;omega) hb0
 have edr:=drop2 s.ret h2l
 have a0:=cells_get' hrc (s.ret.length - 2)
 have a1:=cells_get' hrc (s.ret.length - 1)
 have eag:agn (toR s (.colon bs wd at_::r) thr) st=if decide (iS32 ((s.ret.getD (s.ret.length - 1) 0 - s.ret.getD (s.ret.length - 2) 0)%4294967296) < 0)≠decide (iS32 ((s.ret.getD (s.ret.length - 1) 0 - s.ret.getD (s.ret.length - 2) 0)%4294967296)+st < 0) then ({(toR s (.colon bs wd at_::r) thr) with ret:=s.ret.take (s.ret.length - 2)},false,0)
   else ({(toR s (.colon bs wd at_::r) thr) with ret:=s.ret.take (s.ret.length - 2)++[s.ret.getD (s.ret.length - 2) 0,(s.ret.getD (s.ret.length - 1) 0+st)%4294967296]},true,0):=rfl
 rw[edr] at ct
 rw[eag]
 clear eag edr
 obtain ⟨X,hX⟩:∃X,s.ret.getD (s.ret.length - 2) 0=X:=⟨_,rfl⟩
 obtain ⟨Y,hY⟩:∃X,s.ret.getD (s.ret.length - 1) 0=X:=⟨_,rfl⟩
 rw[hX,hY] at ct ⊢
 rw[hX] at a0
 rw[hY] at a1
 clear hX hY
 have cs:=fun W=>Cel.w_signed ((Y - X)%4294967296) W (by omega) (by omega)
 rw[wr32 _ (by omega) (by omega)] at cs
 have hb2: -2147483648≤iS32 ((Y - X)%4294967296)∧iS32 ((Y - X)%4294967296)≤2147483647:=by unfold iS32;split <;> omega
 obtain ⟨Z,hZ⟩:∃Z,iS32 ((Y - X)%4294967296)=Z:=⟨_,rfl⟩
 rw[hZ] at cs hb2 ⊢
 have CS:=hid cs
 clear hZ cs
 have hzs:IntKind.i64.wrap (Z+st)=Z+st:=by rw[IntKind.wrap_i64];omega
 have cj:=fun W v1 (h2:RunL B D W q (s.rt v1 (s.ret.take (s.ret.length - 2))) b vf (.colon bs wd at_::r) (-1) fuel thr)=>w_jump h2 (by omega) n hn
 have CJ:=hid cj
 have hL:(s.ret.take (s.ret.length - 2)).length+2≤64:=by simp;omega
 have cl:=fun W v1 v2 V (h2:RunL B D W q (s.rt v1 (s.ret.take (s.ret.length - 2))) b vf (.colon bs wd n::r) (-1) fuel thr) (rl:Rd .u32 W v2 [X,V])=>w_leaveRet h2 v2 [X,V] rl (by show (s.ret.take (s.ret.length - 2)).length≤64;omega) (by show (s.ret.take (s.ret.length - 2)).length+2≤64;exact hL)
 have CL:=hid cl
 have HH:=hid h
 clear h cj cl hL h2l hk hrc
 rcases (show Z < 0∨0≤Z by omega) with cz|cz
 ·have hz:decide (Z < 0)=true:=by simp;omega
  rcases (show Z+st < 0∨0≤Z+st by omega) with cs|cs
  ·have hzz:decide (Z+st < 0)=true:=by simp;omega
   clear cz cs
   rw[if_neg (by rw[hz,hzz];simp)]
   show Calls _ _ _ _ (OtP B D q s b fuel w ⟨s.m,s.ret.take (s.ret.length - 2)++[X,(Y+st)%4294967296], .colon bs wd n::r, -1,thr,0⟩ rtE)
   have hsum:(Y+st%4294967296)%4294967296=(Y+st)%4294967296:=by omega
   go_enter Tryz.func130,Tryz.ntmps130
   go_upto_region 4 with (go_at_call 185;refine ct.mono ?_;rintro e w2 ⟨v1,v2,rfl,h2,o2,g2⟩)
   obtain ⟨p0,i0,k0⟩:=rd_idx o2.now Stk.uS Stk.zS 0 (by omega) (by simp)
   obtain ⟨p1,i1,k1⟩:=rd_idx o2.now Stk.uS Stk.zS 1 (by omega) (by simp)
   simp only[Int.toNat_zero,Int.toNat_one,List.getD_cons_zero,List.getD_cons_succ] at k0 k1
   have H2:=hid h2
   clear h2 o2
   go_quiet (fail)
   have c3:=CJ.out _ _ (H2.out.below (below_drewN (Below.refl _ _) nq))
   have L2:Hid (Below B w (w2.drewN nq)):=hid (Below.trans (HH.out.low g2) (H2.out.low (gb_of (below_drewN (Below.refl _ _) _))))
   go_wp2_with (first
    |(go_at_call 211;refine (CS.out _).mono ?_;rintro e w3 ⟨rfl,hw3⟩;obtain rfl:=hw3.symm)
    |(go_at_call 127;refine c3.mono ?_;rintro e w4 ⟨rfl,h4,b4,a4⟩;have H4:=hid h4;clear h4)
    |(go_at_call 184;refine (CL.out _ _ _ _ (H4.out.below (box_below w4 _)) (rd_lit w4 [X,(Y+st)%4294967296] 26 (Nat.succ_pos _) (by unfold maxLen;simp))).mono ?_;rintro e w5 ⟨v5,rfl,h5,g5⟩))
   go_ret
   exact OtP.yes (Below.trans L2.out (Below.trans b4 (Below.trans (H4.out.low (gb_of (box_below w4 _))) ((H4.out.below (box_below w4 _)).low g5)))) h5 rfl rfl
  ·have hzz:decide (Z+st < 0)=false:=by simp;omega
   clear cz cs
   rw[if_pos (by rw[hz,hzz];simp)]
   show Calls _ _ _ _ (OtP B D q s b fuel w ⟨s.m,s.ret.take (s.ret.length - 2), .colon bs wd at_::r, -1,thr,0⟩ rtE)
   go_enter Tryz.func130,Tryz.ntmps130
   go_upto_region 4 with (go_at_call 185;refine ct.mono ?_;rintro e w2 ⟨v1,v2,rfl,h2,o2,g2⟩)
   obtain ⟨p0,i0,k0⟩:=rd_idx o2.now Stk.uS Stk.zS 0 (by omega) (by simp)
   obtain ⟨p1,i1,k1⟩:=rd_idx o2.now Stk.uS Stk.zS 1 (by omega) (by simp)
   simp only[Int.toNat_zero,Int.toNat_one,List.getD_cons_zero,List.getD_cons_succ] at k0 k1
   have H2:=hid h2
   clear h2 o2
   go_quiet (fail)
   go_wp2_with (go_at_call 211;refine (CS.out _).mono ?_;rintro e w3 ⟨rfl,rfl⟩)
   go_ret
   exact OtP.yes (Below.trans (HH.out.low g2) (H2.out.low (gb_of (below_drewN (Below.refl _ _) _)))) (H2.out.below (below_drewN (Below.refl _ _) _)) rfl rfl
 ·have hz:decide (Z < 0)=false:=by simp;omega
  rcases (show Z+st < 0∨0≤Z+st by omega) with cs|cs
  ·have hzz:decide (Z+st < 0)=true:=by simp;omega
   clear cz cs
   rw[if_pos (by rw[hz,hzz];simp)]
   show Calls _ _ _ _ (OtP B D q s b fuel w ⟨s.m,s.ret.take (s.ret.length - 2), .colon bs wd at_::r, -1,thr,0⟩ rtE)
   go_enter Tryz.func130,Tryz.ntmps130
   go_upto_region 4 with (go_at_call 185;refine ct.mono ?_;rintro e w2 ⟨v1,v2,rfl,h2,o2,g2⟩)
   obtain ⟨p0,i0,k0⟩:=rd_idx o2.now Stk.uS Stk.zS 0 (by omega) (by simp)
   obtain ⟨p1,i1,k1⟩:=rd_idx o2.now Stk.uS Stk.zS 1 (by omega) (by simp)
   simp only[Int.toNat_zero,Int.toNat_one,List.getD_cons_zero,List.getD_cons_succ] at k0 k1
   have H2:=hid h2
   clear h2 o2
   go_quiet (fail)
   go_wp2_with (go_at_call 211;refine (CS.out _).mono ?_;rintro e w3 ⟨rfl,rfl⟩)
   go_ret
   exact OtP.yes (Below.trans (HH.out.low g2) (H2.out.low (gb_of (below_drewN (Below.refl _ _) _)))) (H2.out.below (below_drewN (Below.refl _ _) _)) rfl rfl
  ·have hzz:decide (Z+st < 0)=false:=by simp;omega
   clear cz cs
   rw[if_neg (by rw[hz,hzz];simp)]
   show Calls _ _ _ _ (OtP B D q s b fuel w ⟨s.m,s.ret.take (s.ret.length - 2)++[X,(Y+st)%4294967296], .colon bs wd n::r, -1,thr,0⟩ rtE)
   have hsum:(Y+st%4294967296)%4294967296=(Y+st)%4294967296:=by omega
   go_enter Tryz.func130,Tryz.ntmps130
   go_upto_region 4 with (go_at_call 185;refine ct.mono ?_;rintro e w2 ⟨v1,v2,rfl,h2,o2,g2⟩)
   obtain ⟨p0,i0,k0⟩:=rd_idx o2.now Stk.uS Stk.zS 0 (by omega) (by simp)
   obtain ⟨p1,i1,k1⟩:=rd_idx o2.now Stk.uS Stk.zS 1 (by omega) (by simp)
   simp only[Int.toNat_zero,Int.toNat_one,List.getD_cons_zero,List.getD_cons_succ] at k0 k1
   have H2:=hid h2
   clear h2 o2
   go_quiet (fail)
   have c3:=CJ.out _ _ (H2.out.below (below_drewN (Below.refl _ _) nq))
   have L2:Hid (Below B w (w2.drewN nq)):=hid (Below.trans (HH.out.low g2) (H2.out.low (gb_of (below_drewN (Below.refl _ _) _))))
   go_wp2_with (first
    |(go_at_call 211;refine (CS.out _).mono ?_;rintro e w3 ⟨rfl,hw3⟩;obtain rfl:=hw3.symm)
    |(go_at_call 127;refine c3.mono ?_;rintro e w4 ⟨rfl,h4,b4,a4⟩;have H4:=hid h4;clear h4)
    |(go_at_call 184;refine (CL.out _ _ _ _ (H4.out.below (box_below w4 _)) (rd_lit w4 [X,(Y+st)%4294967296] 26 (Nat.succ_pos _) (by unfold maxLen;simp))).mono ?_;rintro e w5 ⟨v5,rfl,h5,g5⟩))
   go_ret
   exact OtP.yes (Below.trans L2.out (Below.trans b4 (Below.trans (H4.out.low (gb_of (box_below w4 _))) ((H4.out.below (box_below w4 _)).low g5)))) h5 rfl rfl
theorem OtP.from {B:Nat} {D:Nat→Prop} {q:Nat} {s s1 b:Sv} {fuel:Int} {w w1 w':World} {o:Ot} {ret:Int→Ending} {e:Ending} (h:OtP B D q s1 b fuel w1 o ret e w') (L:Below B w w1) (e1:s1.m.words=s.m.words) (e2:s1.m.insts=s.m.insts):OtP B D q s b fuel w o ret e w':=by
 obtain ⟨h1,h2,s',vf',h3,h4,h5⟩:=h
 exact ⟨h1,Below.trans L h2,s',vf',h3,h4,fun g=>⟨(h5 g).1.trans e1,(h5 g).2.trans e2⟩⟩
theorem okr_stk {s:Sv} {fs:List Fm} {thr:Int} (ok:Okr (toR s fs thr)) (v:Value) (l:List Int) (hl:l.length≤64) (hc:cells l):Okr (toR (s.stk v l) fs thr):=⟨frm_stack ok.frm l hl,ok.ran.stack l hl hc⟩
set_option maxHeartbeats 4000000 in
theorem w_againBy {B:Nat} {D:Nat→Prop} {w:World} {q:Nat} {s b:Sv} {vf:Value} {bs wd at_:Int} {r:List Fm} {fuel thr:Int} (h:RunL B D w q s b vf (.colon bs wd at_::r) (-1) fuel thr) (ok:Okr (toR s (.colon bs wd at_::r) thr)) (hl:r.length≤999999) (hb0:0≤bs) (n:Int) (hn:0≤n∧n < 4294967296):
  Calls Tryz.prog 131 #[.pointer (some ⟨q,0,none⟩), .int .u32 n] w (OtP B D q s b fuel w (opO (8,n) (toR s (.colon bs wd at_::r) thr) bs wd at_ r) rtE):=by
 have hsl:s.m.stack.length≤64:=h64_of ok
 have hsc:cells s.m.stack:=ok.ran.m.stack
 have hrl:s.ret.length≤64:=ok.ran.retL
 have hown:iOwn (toR s (.colon bs wd at_::r) thr)=(s.ret.length:Int) - bs:=rfl
 by_cases hk:(s.ret.length:Int) - bs < 2
 ·rw[opO_op (R:=(toR s (.colon bs wd at_::r) thr)) (by simp) (by simp) (opLE (by omega) (by rw[hown];exact hk))]
  have ct:=w_cellRetE h (by simp;omega) hrl 2 (by omega) (by omega) (by show (s.ret.length:Int) - 2 < bs;omega)
  have HH:=hid h
  clear h
  go_enter Tryz.func131,Tryz.ntmps131
  go_wp2_with (go_at_call 186;refine ct.mono ?_;rintro e w2 ⟨rfl,b2⟩)
  go_ret
  exact OtP.no (by decide) (HH.out.low (gb_of b2)) (HH.out.below b2) rfl rfl
 ·have cc:=w_cellRet h (by simp;omega) hrl 2 (by omega) (by show bs≤(s.ret.length:Int) - 2;omega) hb0
  have HH:=hid h
  by_cases hu:s.m.stack.length < 1
  ·rw[opO_op (R:=(toR s (.colon bs wd at_::r) thr)) (by simp) (by simp) (op8U (by rw[hown];exact hk) hu)]
   have ct:=fun W (b2:Below w.heap.size w W)=>w_takeU (h.below b2) 1 hu hsl
   have CT:=hid ct
   clear h ct
   go_enter Tryz.func131,Tryz.ntmps131
   go_wp2_with (first
    |(go_at_call 186;refine cc.mono ?_;rintro e w2 ⟨rfl,b2⟩)
    |(go_at_call 134;refine (CT.out _ b2).mono ?_;rintro e w3 ⟨v1,v2,rfl,h3,b3⟩))
   go_ret
   exact OtP.no (by decide) (Below.trans (HH.out.low (gb_of b2)) b3) h3 rfl rfl
  ·have hk1:1≤s.m.stack.length:=by omega
   have edr:=drop1 s.m.stack hk1
   have ct:=fun W (b2:Below w.heap.size w W)=>w_takeK (h.below b2) 1 hk1 hsl
   have x0:=cells_get' hsc (s.m.stack.length - 1)
   have e8:=op8K (R:=(toR s (.colon bs wd at_::r) thr)) (n:=n) (by rw[hown];exact hk) hb0 hk1 hsl x0
   have eA:(agn {(toR s (.colon bs wd at_::r) thr) with m:={s.m with stack:=s.m.stack.take (s.m.stack.length - 1)}} (iS32 (s.m.stack.getD (s.m.stack.length - 1) 0))).2.2=0:=by
    unfold agn
    dsimp only
    split <;> rfl
   have hc1:cells (s.m.stack.take (s.m.stack.length - 1)):=cells_take' hsc _
   have hl1:(s.m.stack.take (s.m.stack.length - 1)).length≤64:=by simp;omega
   have ca:=fun W (v1:Value) (st:Int) (h2:RunL B D W q (s.stk v1 (s.m.stack.take (s.m.stack.length - 1))) b vf (.colon bs wd at_::r) (-1) fuel thr) (a: -2147483648≤st) (c:st≤2147483647)=>w_againK h2 (okr_stk ok v1 _ hl1 hc1) hl hb0 n hn st a c hk
   have eag:∀v1 st,agn (toR (s.stk v1 (s.m.stack.take (s.m.stack.length - 1))) (.colon bs wd at_::r) thr) st=agn {(toR s (.colon bs wd at_::r) thr) with m:={s.m with stack:=s.m.stack.take (s.m.stack.length - 1)}} st:=fun _ _=>rfl
   simp only[eag] at ca
   rw[edr] at ct
   obtain ⟨X,hX⟩:∃X,s.m.stack.getD (s.m.stack.length - 1) 0=X:=⟨_,rfl⟩
   simp only[hX] at ct x0 eA
   have e8':iOp (toR s (.colon bs wd at_::r) thr) (8,n)=agn {(toR s (.colon bs wd at_::r) thr) with m:={s.m with stack:=s.m.stack.take (s.m.stack.length - 1)}} (iS32 X):=by rw[←hX];exact e8
   have hX2: -2147483648≤iS32 X∧iS32 X≤2147483647:=by unfold iS32;split <;> omega
   have ca2:=fun W v1 h2=>ca W v1 (iS32 X) h2 hX2.1 hX2.2
   obtain ⟨A,hA⟩:∃A,agn {(toR s (.colon bs wd at_::r) thr) with m:={s.m with stack:=s.m.stack.take (s.m.stack.length - 1)}} (iS32 X)=A:=⟨_,rfl⟩
   simp only[hA] at ca2 eA e8'
   have e9:iOp (toR s (.colon bs wd at_::r) thr) (8,n)=(A.1,A.2.1,0):=by rw[e8',←eA]
   rw[opO_op (R:=(toR s (.colon bs wd at_::r) thr)) (by simp) (by simp) e9]
   have eif:(if A.2.1=true∧(0:Int)=0 then ((8,n):Opd).2 else at_)=if A.2.1=true then n else at_:=by simp
   rw[eif]
   show Calls _ _ _ _ (OtP B D q s b fuel w ⟨A.1.m,A.1.ret, .colon bs wd (if A.2.1=true then n else at_)::r, -1,thr,0⟩ rtE)
   obtain ⟨O,hO⟩:∃O:Ot,(⟨A.1.m,A.1.ret, .colon bs wd (if A.2.1=true then n else at_)::r, -1,thr,0⟩:Ot)=O:=⟨_,rfl⟩
   have hOe:Hid (O.e=0):=hid (by rw[←hO])
   rw[hO]
   simp only[hO] at ca2
   have cs:=fun W=>Cel.w_signed X W x0.1 x0.2
   rw[wr32 X x0.1 x0.2] at cs
   have CS:=hid cs
   have CA:=hid ca2
   have CT:=hid ct
   clear h e8 e8' e9 eA hA eag ca ca2 hX edr ct cs eif hc1 hl1 hO
   go_enter Tryz.func131,Tryz.ntmps131
   go_wp2_with (first
    |(go_at_call 186;refine cc.mono ?_;rintro e w2 ⟨rfl,b2⟩)
    |(go_at_call 134;refine (CT.out _ b2).mono ?_;rintro e w3 ⟨v1,v2,rfl,h3,o3,b3⟩;have H3:=hid h3;obtain ⟨a0,i0,k0⟩:=rd_idx o3.1 Stk.uS Stk.zS 0 (by omega) (by simp);simp only[show ((0:Int)).toNat=0 from rfl,List.getD_cons_zero] at k0;clear h3)
    |(go_at_call 211;refine (CS.out _).mono ?_;rintro e w4 ⟨rfl,hw4⟩;obtain rfl:=hw4.symm)
    |(go_at_call 130;refine (CA.out _ _ H3.out).mono ?_;rintro e w5 P5;have hP:=P5.1;rw[hOe.out] at hP;unfold rtE at hP;subst hP))
   go_ret
   exact P5.from (Below.trans (HH.out.low (gb_of b2)) b3) rfl rfl
set_option maxHeartbeats 1000000 in
theorem w_serves {B:Nat} {D:Nat→Prop} {w:World} {q:Nat} {s b:Sv} {vf:Value} {fs:List Fm} {nxt fuel thr:Int} (h:RunL B D w q s b vf fs nxt fuel thr) (ok:Okr (toR s fs thr)) (nm:ByteArray) (nd kd nn:Int) (x:Wd) (hx:x.2.1=nd) (vc:Value):
  Calls Tryz.prog 80 #[.pointer (some ⟨q,0,none⟩), .agg #[.string nm, .int .i64 nd, .int .i64 kd, .int .u32 nn,vc]] w fun e w'=>e= .returned (.bool (iSlf (toR s fs thr) x))∧Below w.heap.size w w':=by
 have hb: -1≤s.m.self∧s.m.self < s.m.insts.length∧s.m.insts.length≤16:=slf_bd ok.frm
 have bb:=box_below w (.cells #[.string nm, .int .i64 nd, .int .i64 kd, .int .u32 nn,vc] 59)
 have h1:=h.below bb
 have f8:=h1.c8
 have f7:=h1.c7
 have st:=stands_new w #[.string nm, .int .i64 nd, .int .i64 kd, .int .u32 nn,vc] 59
 have fb:=st.cell 1 _ rfl
 by_cases hs0:s.m.self= -1
 ·have e1:iSlf (toR s fs thr) x=false:=by
   unfold iSlf
   rw[show (toR s fs thr).m.self=s.m.self from rfl,hs0]
   rfl
  rw[e1]
  have hg:(s.m.self != -1)=false:=by simp[hs0]
  obtain ⟨SS,hSS⟩:∃S,s.m.self=S:=⟨_,rfl⟩
  rw[hSS] at f8 hg
  obtain ⟨ia,iq,ei⟩:=slr_slice h.rdm.insts
  rw[ei] at f7
  have BB:=hid bb
  clear h h1 e1 hs0 hSS hb ei bb hx
  go_enter Tryz.func80,Tryz.ntmps80
  go_wp2_with fail
  go_quiet (fail)
  go_wp2_with fail
  go_ret
  exact ⟨rfl,below_drewN BB.out _⟩
 ·have hs1:0≤s.m.self:=by have:=hb.1;omega
  have hi:s.m.self.toNat < s.m.insts.length:=by have:=hb.2.1;omega
  obtain ⟨bi,oi,ar,vi,irun,ic, -, -, -, -, -⟩:=ins_at h1.rdm.insts s.m.self.toNat hi
  have e1:iSlf (toR s fs thr) x=(s.m.insts[s.m.self.toNat].1==nd):=by
   rw[←hx]
   unfold iSlf
   rw[show (toR s fs thr).m.self=s.m.self from rfl,show (toR s fs thr).m.insts=s.m.insts from rfl,List.getD_eq_getElem?_getD,List.getElem?_eq_getElem hi]
   simp[hs1]
   rfl
  rw[e1]
  have hg:(s.m.self != -1)=true:=by simp[hs0]
  rw[Int.toNat_of_nonneg hs1] at irun
  obtain ⟨X,hX⟩:∃X,s.m.insts[s.m.self.toNat].1=X:=⟨_,rfl⟩
  rw[hX] at ic ⊢
  obtain ⟨SS,hSS⟩:∃S,s.m.self=S:=⟨_,rfl⟩
  rw[hSS] at f8 hg irun
  obtain ⟨ia,iq,ei⟩:=slr_slice h.rdm.insts
  rw[ei] at f7 irun
  have BB:=hid bb
  clear h h1 e1 hs0 hX hSS hb ei bb hs1 hi hx
  go_enter Tryz.func80,Tryz.ntmps80
  go_wp2_with fail
  go_quiet (fail)
  go_wp2_with fail
  go_ret
  exact ⟨rfl,below_drewN BB.out _⟩
def Sv.wds (s:Sv) (l:List Wd):Sv:={s with m:={s.m with words:=l}}
def Sv.ins (s:Sv) (l:List Iz):Sv:={s with m:={s.m with insts:=l}}
theorem StL.wds {K:TypeId→Bool} {D:Nat→Prop} {w:World} {s:Sv} (h:StL K D w s) (l:List Wd):StL K D w (s.wds l):=⟨h.stack,h.mem,h.codes,h.tree,h.out,h.ret⟩
theorem StL.ins {K:TypeId→Bool} {D:Nat→Prop} {w:World} {s:Sv} (h:StL K D w s) (l:List Iz):StL K D w (s.ins l):=⟨h.stack,h.mem,h.codes,h.tree,h.out,h.ret⟩
theorem idx_wd (T:IntKind) (g m cap n:Nat) (h:n < m):∀w',(Instr.indexAt 24 (.slice (some ⟨g,0,none⟩) m cap) (.int T (n:Int))).run Tryz.prog w'= .ok (.pointer (some ⟨g,n*5,none⟩)) w':=by
 intro w'
 rw[run_indexAt_slice (h:=uW),if_pos ⟨by omega,by omega⟩,zW]
 simp only[Result.andThen,Int.toNat_natCast]
 congr 3
 unfold Addr.add
 split
 ·rename_i hz;rw[hz]
 ·simp
theorem RunL.wdAt {B:Nat} {D:Nat→Prop} {w:World} {q:Nat} {s b:Sv} {vf:Value} {fs:List Fm} {nxt fuel thr:Int} (h:RunL B D w q s b vf fs nxt fuel thr) (k:Nat) (hk:k < s.m.words.length):
  ∃g cap vc,s.v.vw= .slice (some ⟨g,0,none⟩) s.m.words.length cap∧(∀j,w.frozen? ⟨g,j,none⟩=false)∧(∀j u,[Value.string (strOfNums s.m.words[k].1), .int .i64 s.m.words[k].2.1, .int .i64 s.m.words[k].2.2.1, .int .u32 s.m.words[k].2.2.2.1,vc][j]? =some u→w.cell? ⟨g,k*5+j,none⟩=some u)∧Stb kR D w (fun u=>RdO u vc s.m.words[k].2.2.2.2):=by
 obtain ⟨rows,h1,h2,h3,h4⟩:=h.wd
 obtain ⟨g,cap,e⟩:=own_some h3 (by omega)
 obtain ⟨vc,e2,s2⟩:=h4 k hk
 refine ⟨g,cap,vc,e,fun j=> ?_,fun j u hu=> ?_,s2⟩
 ·rw[e] at h3;exact h3.frozenAt j
 ·rw[e] at h3
  refine own_cell h3 (k*5+j) u ?_
  have hj:j < 5:=by have:=(List.getElem?_eq_some_iff.1 hu).1;simpa using this
  rw[flat_get rows 5 k j h2 (by omega) hj,e2]
  exact hu
theorem RunL.putW {B:Nat} {D:Nat→Prop} {w:World} {q:Nat} {s b:Sv} {vf:Value} {fs:List Fm} {nxt fuel thr:Int} (h:RunL B D w q s b vf fs nxt fuel thr) (k:Nat) (hk:k < s.m.words.length) {g cap:Nat} (e:s.v.vw= .slice (some ⟨g,0,none⟩) s.m.words.length cap) (X:Int):
  RunL B D (w.setCell ⟨g,k*5+3,none⟩ (.int .u32 X)) q (s.wds (s.m.words.set k (s.m.words[k].1,s.m.words[k].2.1,s.m.words[k].2.2.1,X,s.m.words[k].2.2.2.2))) b vf fs nxt fuel thr∧Below B w (w.setCell ⟨g,k*5+3,none⟩ (.int .u32 X))∧Agr kR D w (w.setCell ⟨g,k*5+3,none⟩ (.int .u32 X)):=by
 obtain ⟨rows,h1,h2,h3,h4⟩:=h.wd
 rw[e] at h3
 obtain ⟨o2,hg⟩:=own_setCells [Value.int .u32 X] w _ (k*5+3) h3
 have e1:w.setCells g (k*5+3) [Value.int .u32 X]=w.setCell ⟨g,k*5+3,none⟩ (.int .u32 X):=rfl
 rw[e1] at o2 hg
 have kp:=Kept.own h3 hg
 have a1:Agr kR D w (w.setCell ⟨g,k*5+3,none⟩ (.int .u32 X)):=Agr.kept kp rfl
 have bel:Below B w (w.setCell ⟨g,k*5+3,none⟩ (.int .u32 X)):=(Below.refl B w).grown hg h.hB (fun j hj=>(h3.lt j hj).1)
 refine ⟨⟨stands_kept kp (by decide) h.st,(h.hs.agr a1).wds _, ?_,h.ins.kept kp a1 (by decide),h.hb.agr a1,h.bw,h.bi,own_kept kp (by decide) h.fr,h.hq,Nat.le_trans h.hB bel.size,fun j hj=>⟨(h.hD j hj).1,Nat.lt_of_lt_of_le (h.hD j hj).2 bel.size⟩,fun w2 b2=>h.tab w2 (Below.trans bel b2)⟩,bel,a1⟩
 have hr:setL rows.flatten (k*5+3) [Value.int .u32 X]=(rows.set k ((rows.getD k []).set 3 (.int .u32 X))).flatten:=flat_set rows 5 k 3 _ h2 (by omega) (by omega)
 rw[hr] at o2
 have hgk:(rows.getD k []).length=5:=by
  rw[List.getD_eq_getElem?_getD,List.getElem?_eq_getElem (by omega)]
  exact h2 _ (List.getElem_mem _)
 refine ⟨rows.set k ((rows.getD k []).set 3 (.int .u32 X)),by simp[Sv.wds,h1],fun r hr=> ?_, ?_,fun i hi=> ?_⟩
 ·rcases List.mem_or_eq_of_mem_set hr with hr|rfl
  ·exact h2 r hr
  ·rw[List.length_set];exact hgk
 ·show World.ownsRow _ B _ 5 s.v.vw (s.m.words.set k _).length _
  rw[e,List.length_set]
  exact o2
 ·have hi':i < s.m.words.length:=by simpa [Sv.wds] using hi
  obtain ⟨vc,e2,s2⟩:=h4 i hi'
  have go:∀x:Wd,x=(if k=i then (s.m.words[k].1,s.m.words[k].2.1,s.m.words[k].2.2.1,X,s.m.words[k].2.2.2.2) else s.m.words[i])→∃vc',(rows.set k ((rows.getD k []).set 3 (.int .u32 X))).getD i []=[.string (strOfNums x.1), .int .i64 x.2.1, .int .i64 x.2.2.1, .int .u32 x.2.2.2.1,vc']∧Stb kR D (w.setCell ⟨g,k*5+3,none⟩ (.int .u32 X)) (fun u=>RdO u vc' x.2.2.2.2):=by
   intro x hx
   refine ⟨vc, ?_, ?_⟩
   ·rw[List.getD_eq_getElem?_getD,List.getElem?_set]
    by_cases c:k=i
    ·subst c
     rw[if_pos rfl] at hx
     subst hx
     rw[if_pos rfl,if_pos (by omega),e2]
     rfl
    ·rw[if_neg c] at hx
     subst hx
     rw[if_neg c,←List.getD_eq_getElem?_getD,e2]
   ·by_cases c:k=i
    ·subst c
     rw[if_pos rfl] at hx
     subst hx
     exact s2.agr a1
    ·rw[if_neg c] at hx
     subst hx
     exact s2.agr a1
  exact go _ (List.getElem_set _)
theorem RunL.inAt {B:Nat} {D:Nat→Prop} {w:World} {q:Nat} {s b:Sv} {vf:Value} {fs:List Fm} {nxt fuel thr:Int} (h:RunL B D w q s b vf fs nxt fuel thr) (k:Nat) (hk:k < s.m.insts.length):
  ∃bi oi vc,(∀w',(Instr.indexAt 28 s.v.vi (.int .i64 (k:Int))).run Tryz.prog w'= .ok (.pointer (some ⟨bi,oi,none⟩)) w')∧(∀W,Agr kR D w W→W.cell? ⟨bi,oi,none⟩=some (.int .i64 s.m.insts[k].1)∧W.cell? ⟨bi,oi+3,none⟩=some vc)∧w.ownsRow B 26 1 vc s.m.insts[k].2.2.2.length (s.m.insts[k].2.2.2.map (Value.int .u32))∧
   ∀j (hj:j < s.m.insts[k].2.2.2.length),∃g cap,vc= .slice (some ⟨g,0,none⟩) s.m.insts[k].2.2.2.length cap∧w.cell? ⟨g,j,none⟩=some (.int .u32 (s.m.insts[k].2.2.2.getD j 0))∧w.frozen? ⟨g,j,none⟩=false∧D g∧∀X,RunL B D (w.setCell ⟨g,j,none⟩ (.int .u32 X)) q (s.ins (s.m.insts.set k (s.m.insts[k].1,s.m.insts[k].2.1,s.m.insts[k].2.2.1,s.m.insts[k].2.2.2.set j X))) b vf fs nxt fuel thr∧Below B w (w.setCell ⟨g,j,none⟩ (.int .u32 X))∧Agr kR D w (w.setCell ⟨g,j,none⟩ (.int .u32 X)):=by
 obtain ⟨rows,h1,h2,h3,h4,h5⟩:=h.ins
 obtain ⟨vc,e2,o2,d2⟩:=h4 k hk
 have rI:∀W,Agr kR D w W→SlC 4 W s.v.vi rows:=h3
 obtain ⟨bi,oi,ar,vc0,irun, -, -, -, -, -, -⟩:=ins_at h.ins.read k hk
 have key:∀W,Agr kR D w W→W.cell? ⟨bi,oi,none⟩=some (.int .i64 s.m.insts[k].1)∧W.cell? ⟨bi,oi+3,none⟩=some vc:=by
  intro W g
  have sl:SlR 4 (fun _ cs (x:List Value)=>cs=x) W s.v.vi rows:=⟨rows,rI W g,rfl,fun i hi=>by rw[List.getD_eq_getElem?_getD,List.getElem?_eq_getElem hi];rfl⟩
  obtain ⟨b',o',cs,r',hl,hc,hcs⟩:=slr_idxN sl uI zI k (by omega)
  have e:=(irun W).symm.trans (r' W)
  injection e with e1
  injection e1 with e1
  injection e1 with e1
  injection e1 with e3 e4
  subst e3 e4
  have ek:rows[k]'(by omega)=[.int .i64 s.m.insts[k].1, .int .i64 s.m.insts[k].2.1, .string (strOfNums s.m.insts[k].2.2.1),vc]:=by
   rw[←e2,List.getD_eq_getElem?_getD,List.getElem?_eq_getElem (by omega)]
   rfl
  rw[ek] at hcs
  subst hcs
  exact ⟨by simpa using hc 0 (by omega),by simpa using hc 3 (by omega)⟩
 refine ⟨bi,oi,vc,irun,key,o2,fun j hj=> ?_⟩
 obtain ⟨g,cap,e⟩:=own_some o2 (by omega)
 have o3:=o2
 rw[e] at o3
 refine ⟨g,cap,e,own_cell o3 j _ (by simp[List.getD_eq_getElem?_getD,List.getElem?_eq_getElem hj]),o3.frozenAt j,d2 g (by rw[e];rfl),fun X=> ?_⟩
 obtain ⟨o4,hg⟩:=own_setCells [Value.int .u32 X] w _ j o3
 have e1:w.setCells g j [Value.int .u32 X]=w.setCell ⟨g,j,none⟩ (.int .u32 X):=rfl
 rw[e1] at o4 hg
 have kp:=Kept.own o3 hg
 have a1:Agr kR D w (w.setCell ⟨g,j,none⟩ (.int .u32 X)):=Agr.grown hg (fun k hk=>by injection hk with hk;subst hk;exact d2 g (by rw[e];rfl))
 have bel:Below B w (w.setCell ⟨g,j,none⟩ (.int .u32 X)):=(Below.refl B w).grown hg h.hB (fun j hj=>(o3.lt j hj).1)
 refine ⟨⟨stands_kept kp (by decide) h.st,(h.hs.agr a1).ins _,h.wd.kept kp a1 (by decide), ?_,h.hb.agr a1,h.bw,h.bi,own_kept kp (by decide) h.fr,h.hq,Nat.le_trans h.hB bel.size,fun j hj=>⟨(h.hD j hj).1,Nat.lt_of_lt_of_le (h.hD j hj).2 bel.size⟩,fun w2 b2=>h.tab w2 (Below.trans bel b2)⟩,bel,a1⟩
 refine ⟨rows,by simp[Sv.ins,h1],h2,h3.agr a1,fun i hi=> ?_,fun i j' k' hij hj'=> ?_⟩
 ·have hi':i < s.m.insts.length:=by simpa [Sv.ins] using hi
  have go:∀x:Iz,x=(if k=i then (s.m.insts[k].1,s.m.insts[k].2.1,s.m.insts[k].2.2.1,s.m.insts[k].2.2.2.set j X) else s.m.insts[i])→∃vc',rows.getD i []=[.int .i64 x.1, .int .i64 x.2.1, .string (strOfNums x.2.2.1),vc']∧World.ownsRow (w.setCell ⟨g,j,none⟩ (.int .u32 X)) B 26 1 vc' x.2.2.2.length (x.2.2.2.map (Value.int .u32))∧∀k,vc'.ownBlock=some k→D k:=by
   intro x hx
   by_cases c:k=i
   ·subst c
    rw[if_pos rfl] at hx
    subst hx
    refine ⟨vc,e2, ?_,d2⟩
    have el:setL (s.m.insts[k].2.2.2.map (Value.int .u32)) j [Value.int .u32 X]=(s.m.insts[k].2.2.2.set j X).map (Value.int .u32):=by
     show (s.m.insts[k].2.2.2.map (Value.int .u32)).set j _=_
     rw[List.map_set]
    rw[el] at o4
    dsimp only
    rw[e,List.length_set]
    exact o4
   ·rw[if_neg c] at hx
    subst hx
    obtain ⟨vi,ei,oi',di⟩:=h4 i hi'
    refine ⟨vi,ei, ?_,di⟩
    obtain ⟨p1,p2⟩:=oi'
    refine ⟨p1, ?_⟩
    rcases p2 with p|⟨b',cap',cur,rfl,q1,q2,q3⟩
    ·exact Or.inl p
    ·refine Or.inr ⟨b',cap',cur,rfl,q1, ?_,q3⟩
     rw[hg.block b' (heap_lt' q2) (fun ee=> ?_)]
     ·exact q2
     ·injection ee with ee
      subst ee
      have hk3:((rows.getD k []).getD 3 (.slice none 0 0)).ownBlock=some b':=by rw[e2,e];rfl
      have hi3:((rows.getD i []).getD 3 (.slice none 0 0)).ownBlock=some b':=by rw[ei];rfl
      rcases Nat.lt_or_gt_of_ne c with c|c
      ·exact h5 k i b' c hi' hk3 hi3
      ·exact h5 i k b' c hk hi3 hk3
  exact go _ (List.getElem_set _)
 ·exact h5 i j' k' hij (by simpa [Sv.ins] using hj')
set_option maxHeartbeats 1000000 in
theorem w_sizeOf (op a b' c:Int) (w:World) (X:Int) (hX:(if op=a then 4 else if op=b' then 2 else if op=c then 1 else 0)=X):
  Calls Tryz.prog 191 #[.int .i64 op, .int .i64 a, .int .i64 b', .int .i64 c] w fun e w'=>e= .returned (.int .u32 X)∧w'=w:=by
 by_cases h1:op=a
 ·rw[if_pos h1] at hX
  subst hX
  have g1:(op==a)=true:=beq_iff_eq.2 h1
  clear h1
  go_enter Tryz.func191,Tryz.ntmps191
  go_wp2_with fail
  go_ret
  exact ⟨rfl,rfl⟩
 ·rw[if_neg h1] at hX
  have g1:(op==a)=false:=beq_eq_false_iff_ne.2 h1
  by_cases h2:op=b'
  ·rw[if_pos h2] at hX
   subst hX
   have g2:(op==b')=true:=beq_iff_eq.2 h2
   clear h1 h2
   go_enter Tryz.func191,Tryz.ntmps191
   go_wp2_with fail
   go_ret
   exact ⟨rfl,rfl⟩
  ·rw[if_neg h2] at hX
   have g2:(op==b')=false:=beq_eq_false_iff_ne.2 h2
   by_cases h3:op=c
   ·rw[if_pos h3] at hX
    subst hX
    have g3:(op==c)=true:=beq_iff_eq.2 h3
    clear h1 h2 h3
    go_enter Tryz.func191,Tryz.ntmps191
    go_wp2_with fail
    go_ret
    exact ⟨rfl,rfl⟩
   ·rw[if_neg h3] at hX
    subst hX
    have g3:(op==c)=false:=beq_eq_false_iff_ne.2 h3
    clear h1 h2 h3
    go_enter Tryz.func191,Tryz.ntmps191
    go_wp2_with fail
    go_ret
    exact ⟨rfl,rfl⟩
def PrmE (B:Nat) (D:Nat→Prop) (q:Nat) (s b:Sv) (vf:Value) (fs:List Fm) (fuel:Int) (w:World) (r:Rs×Int):Ending→World→Prop:=fun e w'=>
 e= .returned (.int .i64 r.2)∧Below B w w'∧∃s',RunL B D w' q s' b vf fs (-1) fuel r.1.n∧s'.m.words=s.m.words∧s'.m.insts=s.m.insts∧(r.2=0→s'.m=r.1.m∧s'.ret=r.1.ret)
theorem PrmE.err {B:Nat} {D:Nat→Prop} {w:World} {q:Nat} {s b:Sv} {vf:Value} {fs:List Fm} {fuel thr:Int} {E:Int} {w2:World} {s':Sv} (L:Below B w w2) (h2:RunL B D w2 q s' b vf fs (-1) fuel thr) (e1:s'.m.words=s.m.words) (e2:s'.m.insts=s.m.insts) (hE:¬E=0):
  PrmE B D q s b vf fs fuel w ((toR s fs thr),E) (.returned (.int .i64 E)) w2:=⟨rfl,L,s',h2,e1,e2,fun e=>absurd e hE⟩
theorem PrmE.yes {B:Nat} {D:Nat→Prop} {w:World} {q:Nat} {s b:Sv} {vf:Value} {fs:List Fm} {fuel thr:Int} {w2:World} {s':Sv} {r:Rs} (L:Below B w w2) (h2:RunL B D w2 q s' b vf fs (-1) fuel thr) (e1:s'.m.words=s.m.words) (e2:s'.m.insts=s.m.insts) (em:s'.m=r.m) (er:s'.ret=r.ret) (en:r.n=thr):
  PrmE B D q s b vf fs fuel w (r,0) (.returned (.int .i64 0)) w2:=⟨rfl,L,s',by rw[en];exact h2,e1,e2,fun _=>⟨em,er⟩⟩
theorem PrmE.no {B:Nat} {D:Nat→Prop} {w:World} {q:Nat} {s b:Sv} {vf:Value} {fs:List Fm} {fuel thr:Int} {w2:World} {s':Sv} {r:Rs×Int} (L:Below B w w2) (h2:RunL B D w2 q s' b vf fs (-1) fuel thr) (e1:s'.m.words=s.m.words) (e2:s'.m.insts=s.m.insts) (hE:¬r.2=0) (hn:r.1.n=thr):
  PrmE B D q s b vf fs fuel w r (.returned (.int .i64 r.2)) w2:=⟨rfl,L,s',by rw[hn];exact h2,e1,e2,fun e=>absurd e hE⟩
theorem PrmE.leave {B:Nat} {D:Nat→Prop} {w w1:World} {q:Nat} {s b:Sv} {vf:Value} {fs:List Fm} {fuel thr:Int} (L:Below B w w1) {ys:List Int} {w2:World} {v1:Value} {l:List Int} (h2:RunL B D w2 q (s.stk v1 l) b vf fs (-1) fuel thr) (b2:Below B w1 w2)
  (h3:(iSwp (toR s fs thr) 0 ys).2=0→l=s.m.stack++ys∧(iSwp (toR s fs thr) 0 ys).1={(toR s fs thr) with m:={s.m with stack:=s.m.stack++ys}}) (h4:(iSwp (toR s fs thr) 0 ys).1.n=thr):
  PrmE B D q s b vf fs fuel w (iSwp (toR s fs thr) 0 ys) (.returned (.int .i64 (iSwp (toR s fs thr) 0 ys).2)) w2:=by
 refine ⟨rfl,Below.trans L b2,s.stk v1 l,by rw[h4];exact h2,rfl,rfl,fun e=> ?_⟩
 obtain ⟨e1,e2⟩:=h3 e
 rw[e2,e1]
 exact ⟨rfl,rfl⟩
def AtB (l:List Int) (c i:Int):Prop:=(i= -1∧∀x∈l,¬x=c)∨∃k:Nat,i=k∧k < l.length∧l=l.take k++c::l.drop (k+1)∧∀x∈l.take k,¬x=c
theorem atB_index (u:UInt8):∀l:List UInt8,AtB (l.map fun c=>(c.toNat:Int)) u.toNat (Lib.indexByte l u)
 |[]=>Or.inl ⟨rfl,fun x hx=>by simp at hx⟩
 |b::l=>by
  unfold Lib.indexByte
  by_cases hb:b=u
  ·subst hb
   simp only[beq_self_eq_true,if_true]
   exact Or.inr ⟨0,rfl,by simp,by simp,fun x hx=>by simp at hx⟩
  ·have hne:(b==u)=false:=by simpa using hb
   have hni:¬(b.toNat:Int)=u.toNat:=by
    intro h
    exact hb (UInt8.toNat_inj.1 (by omega))
   rw[hne]
   simp only[Bool.false_eq_true,if_false]
   rcases atB_index u l with ⟨h1,h2⟩|⟨k,h1,h2,h3,h4⟩
   ·rw[h1]
    refine Or.inl ⟨rfl,fun x hx=> ?_⟩
    simp only[List.map_cons,List.mem_cons] at hx
    rcases hx with rfl|hx
    ·exact hni
    ·exact h2 x hx
   ·rw[h1]
    have:((k:Int)== -1)=false:=by rw[beq_eq_false_iff_ne];omega
    rw[this]
    simp only[Bool.false_eq_true,if_false]
    refine Or.inr ⟨k+1,by simp,by simp only[List.map_cons,List.length_cons];omega, ?_,fun x hx=> ?_⟩
    ·simp only[List.map_cons,List.take_succ_cons,List.drop_succ_cons,List.cons_append]
     rw[←h3]
    ·simp only[List.map_cons,List.take_succ_cons,List.mem_cons] at hx
     rcases hx with rfl|hx
     ·exact hni
     ·exact h4 x hx
theorem byte_of {c:Int} (h0:0≤c) (h1:c < 256):((c.toNat.toUInt8).toNat:Int)=c:=by
 rw[UInt8.toNat_ofNat']
 omega
set_option maxHeartbeats 1000000 in
set_option maxRecDepth 100000 in
theorem w_slib (s:ByteArray) (c:Int) (w:World) (h0:0≤c) (h1:c < 256):
  Calls Tryz.prog 294 #[.string s, .int .u8 c] w fun e w'=>∃i,e= .returned (.int .i64 i)∧AtB (L s) c i∧w'=w:=by
 go_enter Tryz.func294,Tryz.ntmps294
 go_wp2
 rw[run_callFunc_extern Tryz.func304 (by kernel_rfl) (by kernel_rfl) (by kernel_rfl) (e:=Extern.BytealgIndexByte.indexByte) (by kernel_rfl),Lib.run_indexByteString]
 simp only[Result.andThen]
 rw[Oper.upon_value]
 go_wp2
 go_ret
 refine ⟨_,rfl, ?_,rfl⟩
 have:=atB_index c.toNat.toUInt8 s.data.toList
 rw[byte_of h0 h1] at this
 exact this
set_option maxHeartbeats 1000000 in
set_option maxRecDepth 100000 in
theorem w_sib (s:ByteArray) (c:Int) (w:World) (h0:0≤c) (h1:c < 256):
  Calls Tryz.prog 265 #[.string s, .int .u8 c] w fun e w'=>∃i,e= .returned (.int .i64 i)∧AtB (L s) c i∧w'=w:=by
 go_enter Tryz.func265,Tryz.ntmps265
 go_wp2_with (go_at_call 294;refine (w_slib s c _ h0 h1).mono ?_;rintro e w1 ⟨i,rfl,hi,rfl⟩)
 go_ret
 exact ⟨i,rfl,hi,rfl⟩
def Tab (w:World):Prop:=True
theorem Tab.below {w w':World} (h:Tab w) (g:Below w.heap.size w w'):Tab w':=trivial
theorem barred:L ⟨#[47,92,58,91,93,64]⟩=[47,92,58,91,93,64]:=by decide+kernel
theorem atB_bar {c i:Int} (h:AtB (L ⟨#[47,92,58,91,93,64]⟩) c i) (h0:33≤c) (h1:c≤126) (h2:¬(65≤c∧c≤90)):decide (i < 0)=nmC c:=by
 rw[barred] at h
 rcases h with ⟨rfl,h⟩|⟨k,rfl,hk,he,h⟩
 ·have a:=h 47 (by simp);have b:=h 92 (by simp);have d:=h 58 (by simp);have e:=h 91 (by simp);have f:=h 93 (by simp);have g:=h 64 (by simp)
  unfold nmC
  simp
  omega
 ·have hm:c∈([47,92,58,91,93,64]:List Int):=by rw[he];simp
  have hc:c=47∨c=92∨c=58∨c=91∨c=93∨c=64:=by simpa using hm
  have e:nmC c=false:=by
   unfold nmC
   rw[decide_eq_false_iff_not]
   omega
  rw[e,decide_eq_false_iff_not]
  omega
set_option maxHeartbeats 1000000 in
set_option maxRecDepth 100000 in
theorem w_inn (c:Int) (w:World) (h0:0≤c) (h1:c < 256):Calls Tryz.prog 235 #[.int .u8 c] w fun e w'=>e= .returned (.bool (nmC c))∧Below w.heap.size w w':=by
 rcases (show c < 33∨126 < c∨(65≤c∧c≤90)∨(33≤c∧c < 65)∨(90 < c∧c≤126) by omega) with h|h|⟨h,g⟩|⟨h,g⟩|⟨h,g⟩
 ·have e:nmC c=false:=by unfold nmC;simp;omega
  rw[e]
  clear e
  go_enter Tryz.func235,Tryz.ntmps235
  go_wp2_with fail
  go_ret
  exact ⟨rfl,Below.refl _ _⟩
 ·have e:nmC c=false:=by unfold nmC;simp;omega
  rw[e]
  clear e
  go_enter Tryz.func235,Tryz.ntmps235
  go_wp2_with fail
  go_ret
  exact ⟨rfl,Below.refl _ _⟩
 ·have e:nmC c=false:=by unfold nmC;simp;omega
  rw[e]
  clear e
  go_enter Tryz.func235,Tryz.ntmps235
  go_wp2_with fail
  go_ret
  exact ⟨rfl,Below.refl _ _⟩
 ·go_enter Tryz.func235,Tryz.ntmps235
  go_wp2_with (go_at_call 265;refine (w_sib _ c _ h0 h1).mono ?_;rintro e w1 ⟨i,rfl,hi,rfl⟩;have H:=hid (atB_bar hi (by omega) (by omega) (by omega));clear hi)
  go_ret
  exact ⟨ret_b (by first|exact H.out|(rw[←H.out,decide_eq_false (show ¬c≤90 by omega)];rfl)),Below.refl _ _⟩
 ·go_enter Tryz.func235,Tryz.ntmps235
  go_wp2_with (go_at_call 265;refine (w_sib _ c _ h0 h1).mono ?_;rintro e w1 ⟨i,rfl,hi,rfl⟩;have H:=hid (atB_bar hi (by omega) (by omega) (by omega));clear hi)
  go_ret
  exact ⟨ret_b (by first|exact H.out|(rw[←H.out,decide_eq_false (show ¬c≤90 by omega)];rfl)),Below.refl _ _⟩
set_option maxHeartbeats 1000000 in
set_option maxRecDepth 100000 in
theorem w_pnamed (s:ByteArray) (w:World) (hs:s.size≤maxLen):
  Calls Tryz.prog 170 #[.string s] w fun e w'=>e= .returned (.bool (nmF (L s)))∧Below w.heap.size w w':=by
 have hs2:=hs
 unfold maxLen at hs2
 by_cases h0:s.size=0
 ·have hs:s=⟨#[]⟩:=by
   apply ByteArray.ext
   exact Array.eq_empty_of_size_eq_zero h0
  subst hs
  go_enter Tryz.func170,Tryz.ntmps170
  go_wp2_with fail
  go_ret
  exact ⟨rfl,Below.refl _ _⟩
 ·have hemp:s.toList.isEmpty=false:=by
   rw[←decide_eq_emptyBytes]
   exact decide_eq_false (fun h=>h0 (by rw[h];rfl))
  by_cases h31:(31:Int) < s.size
  ·have e:nmF (L s)=false:=by unfold nmF;rw[L_len,show decide (1≤s.size∧s.size≤31)=false by simp;omega];rfl
   rw[e]
   clear e
   go_enter Tryz.func170,Tryz.ntmps170
   go_wp2_with fail
   go_ret
   exact ⟨rfl,Below.refl _ _⟩
  ·go_enter Tryz.func170,Tryz.ntmps170
   go_wp2_with fail
   go_loopw [13] (fun I wx=>∃(k:Nat),(k:Int)≤s.size∧I= .int .i64 k∧Hid (((L s).take k).all nmC=true)∧Below w.heap.size w wx) (fun I _=>(s.size - intOf I).toNat)
   case atStart=>exact ⟨0,by omega,rfl,hid rfl,Below.refl _ _⟩
   case round=>
    obtain ⟨k,hk,rfl,ha,hb⟩:=hrel
    by_cases hlt:(k:Int) < s.size
    ·have hkk:k < s.size:=by omega
     obtain ⟨c,hc⟩:∃c,(s[k].toNat:Int)=c:=⟨_,rfl⟩
     have hcb:=L_bd s k hkk
     rw[hc] at hcb
     obtain ⟨c0,c1⟩:=hcb
     have hLd:Hid (L s=(L s).take k++c::(L s).drop (k+1)):=by
      show _=_
      rw[←hc,←L_drop s k hkk,List.take_append_drop]
     have hLt:Hid ((L s).take (k+1)=(L s).take k++[c]):=by show _=_;rw[←hc];exact L_take s k hkk
     have hrun:=run_at (w:=wr) s k hkk hs
     rw[hc] at hrun
     have cn:=w_inn c wr c0 c1
     cases hcc:nmC c
     ·have hf:Hid (nmF (L s)=false):=by show _=_;rw[hLd.out];exact nm_mid _ _ _ hcc
      rw[hcc] at cn
      clear hcc hLd hLt hc
      go_wp2_with (go_at_call 235;refine cn.mono ?_;rintro e w1 ⟨rfl,b1⟩)
      go_ret
      exact ⟨ret_b hf.out.symm,below_trans hb b1⟩
     ·have ha2:Hid (((L s).take (k+1)).all nmC=true):=by
       show _=_
       rw[hLt.out,List.all_append,ha.out]
       simp[hcc]
      rw[hcc] at cn
      clear hcc hLd hLt hc
      go_wp2_with (go_at_call 235;refine cn.mono ?_;rintro e w1 ⟨rfl,b1⟩)
      go_roundw
      case rel=>exact ⟨k+1,by omega,by go_num,ha2,below_trans hb b1⟩
      case measure=>simp[intOf];omega
    ·have hall:=ha.out
     rw[List.take_of_length_le (by rw[L_len];omega)] at hall
     have hf:Hid (nmF (L s)=true):=by show _=_;unfold nmF;rw[hall,L_len];simp;omega
     clear hall
     obtain rfl:k=s.size:=by omega
     go_wp2_with fail
     go_ret
     exact ⟨ret_b hf.out.symm,hb⟩
theorem w_leaveAg {B:Nat} {D:Nat→Prop} {w:World} {q:Nat} {s b:Sv} {vf:Value} {fs:List Fm} {nxt fuel thr:Int} (h:RunL B D w q s b vf fs nxt fuel thr) (vl:Value) (ys:List Int) (rl:Rd .u32 w vl ys) (hs:s.m.stack.length≤64) (hy:ys.length≤64):
  Calls Tryz.prog 79 #[.pointer (some ⟨q,0,none⟩), .int .i64 0,vl] w fun e w'=>∃v1 l,e= .returned (.int .i64 (iSwp (toR s fs thr) 0 ys).2)∧RunL B D w' q (s.stk v1 l) b vf fs nxt fuel thr∧Below B w w'∧((iSwp (toR s fs thr) 0 ys).2=0→l=s.m.stack++ys∧(iSwp (toR s fs thr) 0 ys).1={(toR s fs thr) with m:={s.m with stack:=s.m.stack++ys}})∧(iSwp (toR s fs thr) 0 ys).1.n=thr∧w.grownBy w' (some q):=by
 have c:=w_leave q _ _ _ _ _ _ w h.st rfl h.hs.stack.now rl hs hy
 by_cases ho:64 < s.m.stack.length+ys.length
 ·rw[iS_over (R:=(toR s fs thr)) (k:=0) (Nat.zero_le _) (by simpa [toR] using ho)]
  rw[push_no _ _ ho] at c
  refine c.mono ?_
  rintro e w2 ⟨v1,rfl,st2,o1,g2⟩
  exact ⟨v1,_,rfl,h.stk g2 st2 o1,h.low g2,fun e=>by simp at e,rfl,g2⟩
 ·rw[push_ok _ _ (by omega)] at c
  rw[iSwp_ok (toR s fs thr) 0 ys (Nat.zero_le _) (by show s.m.stack.length - 0+ys.length≤64;omega)]
  refine c.mono ?_
  rintro e w2 ⟨v1,rfl,st2,o1,g2⟩
  refine ⟨v1,_,rfl,h.stk g2 st2 o1,h.low g2,fun _=>⟨rfl, ?_⟩,rfl,g2⟩
  simp[toR]
set_option maxHeartbeats 1000000 in
theorem w_pclone32 (v:Value) (xs:List Int) (w:World) (h:Rd .u32 w v xs) (hb:xs.length*4≤140737488355328):
  Calls Tryz.prog 53 #[v] w fun e w'=>∃v',e= .returned v'∧w'.ownsRow w.heap.size 26 1 v' xs.length (xs.map (Value.int .u32))∧Below w.heap.size w w':=by
 obtain ⟨i0,hi,hz0,hz1,hz2⟩:=info_parts infoU32
 obtain ⟨ao,cap,rfl,hc,hn,hx⟩:=rd_form h
 cases ao with
 |none=>
  have hc0:=hn rfl
  have hl:xs=[]:=List.eq_nil_of_length_eq_zero (by omega)
  subst hl
  subst hc0
  show Calls _ _ #[.slice none 0 0] _ _
  have q:=Lib.run_eql_slice_nil (P:=Tryz.prog) w 22 26 none 0 0 0 0 Tryz.underlying22
  go_enter Tryz.func53,Tryz.ntmps53
  go_wp2_with fail
  go_ret
  exact ⟨_,rfl,World.ownsRow_nil _ _ _ _,Below.refl _ _⟩
 |some a=>
  have q:=Lib.run_eql_slice_nil (P:=Tryz.prog) w 22 26 (some a) xs.length cap 0 0 Tryz.underlying22
  have ha:=h.below (box_below w (.cells #[] 26))
  go_enter Tryz.func53,Tryz.ntmps53
  go_wp2_with (at_builtin;refine wpList_append_rd (k:= .u32) rfl _ _ 22 rfl w.heap.size 26 i0 4 Tryz.underlying22 hi hz0 hz1 hz2 _ [] rfl (World.ownsRow_made w #[] 0 (Nat.le_refl _) (Nat.zero_le _) rfl) _ xs rfl ha (by unfold maxLen;simp;omega) (by simp;omega) (by simp) ?_;intro v5 w5 ho5 hg5)
  go_ret
  exact ⟨v5,rfl,by simpa using ho5,below_grown (box_below w _) hg5 (fun k hk=>by simp[Value.ownBlock,Act.eval] at hk;omega)⟩
set_option maxHeartbeats 1000000 in
theorem w_pclone8 (v:Value) (xs:List Int) (w:World) (h:Rd .u8 w v xs) (hz:xs.length≤140737488355328):
  Calls Tryz.prog 54 #[v] w fun e w'=>∃v',e= .returned v'∧w'.ownsRow w.heap.size 5 1 v' xs.length (xs.map (Value.int .u8))∧Below w.heap.size w w':=by
 obtain ⟨i0,hi,hz0,hz1,hz2⟩:=info_parts infoU8
 obtain ⟨ao,cap,rfl,hc,hn,hx⟩:=rd_form h
 cases ao with
 |none=>
  have hc0:=hn rfl
  have hl:xs=[]:=List.eq_nil_of_length_eq_zero (by omega)
  subst hl
  subst hc0
  show Calls _ _ #[.slice none 0 0] _ _
  have q:=Lib.run_eql_slice_nil (P:=Tryz.prog) w 23 5 none 0 0 0 0 Tryz.underlying23
  go_enter Tryz.func54,Tryz.ntmps54
  go_wp2_with fail
  go_ret
  exact ⟨_,rfl,World.ownsRow_nil _ _ _ _,Below.refl _ _⟩
 |some a=>
  have q:=Lib.run_eql_slice_nil (P:=Tryz.prog) w 23 5 (some a) xs.length cap 0 0 Tryz.underlying23
  have ha:=h.below (box_below w (.cells #[] 5))
  go_enter Tryz.func54,Tryz.ntmps54
  go_wp2_with (at_builtin;refine wpList_append_rd (k:= .u8) rfl _ _ 23 rfl w.heap.size 5 i0 1 Tryz.underlying23 hi hz0 hz1 hz2 _ [] rfl (World.ownsRow_made w #[] 0 (Nat.le_refl _) (Nat.zero_le _) rfl) _ xs rfl ha (by unfold maxLen;simp;omega) (by simp;omega) (by simp) ?_;intro v5 w5 ho5 hg5)
  go_ret
  exact ⟨v5,rfl,by simpa using ho5,below_grown (box_below w _) hg5 (fun k hk=>by simp[Value.ownBlock,Act.eval] at hk;omega)⟩
theorem infoNod8:(Tryz.prog.info? 91).map (fun i=>(i.zero,i.size,i.bytes))=some (some (.agg #[.string ⟨#[]⟩, .slice none 0 0, .int .i64 0, .slice none 0 0, .slice none 0 0]),5,96):=by kernel_rfl
theorem infoPrp8:(Tryz.prog.info? 93).map (fun i=>(i.zero,i.size,i.bytes))=some (some (.agg #[.string ⟨#[]⟩, .slice none 0 0]),2,40):=by kernel_rfl
set_option maxHeartbeats 1000000 in
theorem w_pcloneN (v:Value) (rows:List (List Value)) (w:World) (h:SlC 5 w v rows) (h1:∀r∈rows,∀u∈r,u.oneCell'=true) (hb:rows.length*96≤140737488355328):
  Calls Tryz.prog 76 #[v] w fun e w'=>∃v',e= .returned v'∧w'.ownsRow w.heap.size 91 5 v' rows.length rows.flatten∧Below w.heap.size w w':=by
 obtain ⟨i0,hi,hz0,hz1,hz2⟩:=info_parts infoNod8
 obtain ⟨ao,cap,rfl,hc,hn,hx⟩:=h.form
 cases ao with
 |none=>
  have hc0:=hn rfl
  have hl:rows=[]:=List.eq_nil_of_length_eq_zero (by omega)
  subst hl
  subst hc0
  show Calls _ _ #[.slice none 0 0] _ _
  have q:=Lib.run_eql_slice_nil (P:=Tryz.prog) w 27 91 none 0 0 0 0 Tryz.underlying27
  go_enter Tryz.func76,Tryz.ntmps76
  go_wp2_with fail
  go_ret
  exact ⟨_,rfl,World.ownsRow_nil _ _ _ _,Below.refl _ _⟩
 |some a=>
  have q:=Lib.run_eql_slice_nil (P:=Tryz.prog) w 27 91 (some a) rows.length cap 0 0 Tryz.underlying27
  have ha:=h.below (box_below w (.cells #[] 91))
  go_enter Tryz.func76,Tryz.ntmps76
  go_wp2_with (at_builtin;refine wpList_append_rows rfl _ _ 27 rfl w.heap.size 91 i0 _ 5 96 Tryz.underlying27 hi hz0 hz1 hz2 rfl (by decide) _ 0 [] rfl (World.ownsRow_made w #[] 0 (Nat.le_refl _) (Nat.zero_le _) rfl) _ rows rfl ha h1 (by unfold maxLen;omega) (by omega) (by simp) ?_;intro v5 w5 ho5 hg5)
  go_ret
  exact ⟨v5,rfl,by simpa using ho5,below_grown (box_below w _) hg5 (fun k hk=>by simp[Value.ownBlock,Act.eval] at hk;omega)⟩
set_option maxHeartbeats 1000000 in
theorem w_pcloneP (v:Value) (rows:List (List Value)) (w:World) (h:SlC 2 w v rows) (h1:∀r∈rows,∀u∈r,u.oneCell'=true) (hb:rows.length*40≤140737488355328):
  Calls Tryz.prog 77 #[v] w fun e w'=>∃v',e= .returned v'∧w'.ownsRow w.heap.size 93 2 v' rows.length rows.flatten∧Below w.heap.size w w':=by
 obtain ⟨i0,hi,hz0,hz1,hz2⟩:=info_parts infoPrp8
 obtain ⟨ao,cap,rfl,hc,hn,hx⟩:=h.form
 cases ao with
 |none=>
  have hc0:=hn rfl
  have hl:rows=[]:=List.eq_nil_of_length_eq_zero (by omega)
  subst hl
  subst hc0
  show Calls _ _ #[.slice none 0 0] _ _
  have q:=Lib.run_eql_slice_nil (P:=Tryz.prog) w 89 93 none 0 0 0 0 Tryz.underlying89
  go_enter Tryz.func77,Tryz.ntmps77
  go_wp2_with fail
  go_ret
  exact ⟨_,rfl,World.ownsRow_nil _ _ _ _,Below.refl _ _⟩
 |some a=>
  have q:=Lib.run_eql_slice_nil (P:=Tryz.prog) w 89 93 (some a) rows.length cap 0 0 Tryz.underlying89
  have ha:=h.below (box_below w (.cells #[] 93))
  go_enter Tryz.func77,Tryz.ntmps77
  go_wp2_with (at_builtin;refine wpList_append_rows rfl _ _ 89 rfl w.heap.size 93 i0 _ 2 40 Tryz.underlying89 hi hz0 hz1 hz2 rfl (by decide) _ 0 [] rfl (World.ownsRow_made w #[] 0 (Nat.le_refl _) (Nat.zero_le _) rfl) _ rows rfl ha h1 (by unfold maxLen;omega) (by omega) (by simp) ?_;intro v5 w5 ho5 hg5)
  go_ret
  exact ⟨v5,rfl,by simpa using ho5,below_grown (box_below w _) hg5 (fun k hk=>by simp[Value.ownBlock,Act.eval] at hk;omega)⟩
set_option maxHeartbeats 1000000 in
theorem w_pequal (va vb:Value) (xs ys:List Int) (w:World) (ha:Rd .u32 w va xs) (hb:Rd .u32 w vb ys):
  Calls Tryz.prog 234 #[va,vb] w fun e w'=>e= .returned (.bool (decide (xs=ys)))∧Dr w w':=by
 have hla:=rd_len ha uU (P:=Tryz.prog)
 have hlb:=rd_len hb uU (P:=Tryz.prog)
 by_cases hl:xs.length=ys.length
 ·have hn:((xs.length:Int) !=(ys.length:Int))=false:=by simp[hl]
  have hm:xs.length≤maxLen:=by
   rcases ha with ⟨_,_,_,_,rfl⟩|⟨_,_,_,_,_,g1,g2,_⟩
   ·simp
   ·omega
  unfold maxLen at hm
  have Hl:=hid hl
  have HA:=hid ha
  have HB:=hid hb
  clear hl ha hb
  go_enter Tryz.func234,Tryz.ntmps234
  go_wp2_with fail
  go_loopw [13] (fun i wx=>∃k:Nat,(k:Int)≤xs.length∧i= .int .i64 k∧Hid (xs.take k=ys.take k)∧Dr w wx) (fun i _=>(xs.length - intOf i).toNat)
  case atStart=>exact ⟨0,by omega,rfl,hid (by simp),dr_refl _⟩
  case round=>
   obtain ⟨k,hk,rfl,ht,hg⟩:=hrel
   by_cases hlt:(k:Int) < xs.length
   ·have hlt2:(k:Int) < (ys.length:Int):=by have:=Hl.out;omega
    obtain ⟨a1,i1,c1⟩:=rd_idx (HA.out.below (dr_below hg)) uU zU k (by omega) hlt
    obtain ⟨a2,i2,c2⟩:=rd_idx (HB.out.below (dr_below hg)) uU zU k (by omega) hlt2
    simp only[Int.toNat_natCast] at c1 c2
    obtain ⟨x,hx⟩:∃x,xs.getD k 0=x:=⟨_,rfl⟩
    obtain ⟨y,hy⟩:∃y,ys.getD k 0=y:=⟨_,rfl⟩
    rw[hx] at c1
    rw[hy] at c2
    by_cases hxy:x=y
    ·have ht2:Hid (xs.take (k+1)=ys.take (k+1)):=same_take xs ys k (by omega) (by omega) ht.out (by rw[hx,hy,hxy])
     have hb:(x !=y)=false:=by simp[hxy]
     clear hx hy hxy
     go_wp2_with fail
     go_quiet (fail)
     go_wp2_with fail
     go_roundw
     case rel=>exact ⟨k+1,by omega,by go_num,ht2,dr_more hg _⟩
     case measure=>simp[intOf];omega
    ·have hf:Hid (decide (xs=ys)=false):=by show _=_;simp;exact ne_at xs ys k (by rw[hx,hy];exact hxy)
     have hb:(x !=y)=true:=by simp[hxy]
     clear hx hy hxy
     go_wp2_with fail
     go_quiet (fail)
     go_wp2_with fail
     go_ret
     exact ⟨ret_b hf.out.symm,dr_more hg _⟩
   ·have hf:Hid (decide (xs=ys)=true):=by
     show _=_
     have h1:xs.take k=xs:=List.take_of_length_le (by omega)
     have h2:ys.take k=ys:=List.take_of_length_le (by have:=Hl.out;omega)
     have:=ht.out
     rw[h1,h2] at this
     simp[this]
    go_wp2_with fail
    go_ret
    exact ⟨ret_b hf.out.symm,hg⟩
 ·have hf:Hid (decide (xs=ys)=false):=by show _=_;simp;intro h;exact hl (by rw[h])
  have hn:((xs.length:Int) !=(ys.length:Int))=true:=by simp;omega
  clear hl
  go_enter Tryz.func234,Tryz.ntmps234
  go_wp2_with fail
  go_ret
  exact ⟨ret_b hf.out.symm,dr_refl _⟩
end Go.Proofs.YtbamcchghecpeaaGreatDoor
