import Derived.Deep.RegionWith
import Derived.Deep.RegionHeld2
import Derived.Laws.IdiomCopy
import Derived.Test.YtbamcchghecpeaaGreatDoorB4
set_option linter.unusedVariables false
set_option linter.unusedSimpArgs false
set_option maxRecDepth 100000
namespace Go.Proofs.YtbamcchghecpeaaGreatDoor
def rn (P:Int→Rs→Rs×Int) (c:Cl) (s:Rs) (k:Nat):Rs×Nat×Int:=runF P (k+1) c s k
theorem rn_eq (P:Int→Rs→Rs×Int) {f:Nat} (c:Cl) (s:Rs) {k:Nat} (h:k < f):runF P f c s k=rn P c s k:=run_any P f (k+1) c s k h (by omega)
theorem rn_word0 (P:Int→Rs→Rs×Int) (xt:Int) (s:Rs):rn P (.word xt) s 0=(s,0,11):=by simp[rn,runF]
theorem rn_done (P:Int→Rs→Rs×Int) {xt:Int} {s s':Rs} {k:Nat} {e:Int} (h1:(iWd s xt).2.2.1=1) (h:iPrm P (iWd s xt).2.2.2.1 s= .done s' e):rn P (.word xt) s (k+1)=(s',k,e):=by
 simp only[rn,runF,h1,h,if_true]
theorem rn_exec (P:Int→Rs→Rs×Int) {xt x:Int} {s s':Rs} {k:Nat} (h1:(iWd s xt).2.2.1=1) (h:iPrm P (iWd s xt).2.2.2.1 s= .exec x s'):rn P (.word xt) s (k+1)=rn P (.word x) s' k:=by
 simp only[rn,runF,h1,h,if_true]
theorem rn_catch (P:Int→Rs→Rs×Int) {xt x:Int} {s s':Rs} {k:Nat} (h1:(iWd s xt).2.2.1=1) (h:iPrm P (iWd s xt).2.2.2.1 s= .catch x s'):
  rn P (.word xt) s (k+1)=((iCat s' (rn P (.word x) {s' with base:=s'.ret.length} k).1 (rn P (.word x) {s' with base:=s'.ret.length} k).2.2).1,(rn P (.word x) {s' with base:=s'.ret.length} k).2.1,(iCat s' (rn P (.word x) {s' with base:=s'.ret.length} k).1 (rn P (.word x) {s' with base:=s'.ret.length} k).2.2).2):=by
 simp only[rn,runF,h1,h,if_true]
theorem rn_meth (P:Int→Rs→Rs×Int) {xt x:Int} {s s':Rs} {k:Nat} (h1:(iWd s xt).2.2.1=1) (h:iPrm P (iWd s xt).2.2.2.1 s= .meth x s'):
  rn P (.word xt) s (k+1)=if (rn P (.word x) s' k).2.2=0 then ({(rn P (.word x) s' k).1 with m:={(rn P (.word x) s' k).1.m with self:=s.m.self}},(rn P (.word x) s' k).2.1,0) else rn P (.word x) s' k:=by
 simp only[rn,runF,h1,h,if_true]
 rfl
theorem rn_deep (P:Int→Rs→Rs×Int) {xt:Int} {s:Rs} {k:Nat} (h1:(iWd s xt).2.2.1=2) (hd:32≤s.depth):rn P (.word xt) s (k+1)=(s,k,12):=by
 have h4:¬(2:Int)=1:=by omega
 simp only[rn,runF,h1,hd,h4,if_true,if_false]
theorem rn_colon (P:Int→Rs→Rs×Int) {xt:Int} {s:Rs} {k:Nat} (h1:(iWd s xt).2.2.1=2) (hd:s.depth < 32):
  rn P (.word xt) s (k+1)=
   ({(rn P (.ops (iWd s xt).2.2.2.2 0) {s with depth:=s.depth+1,base:=s.ret.length} k).1 with base:=s.base,depth:=(rn P (.ops (iWd s xt).2.2.2.2 0) {s with depth:=s.depth+1,base:=s.ret.length} k).1.depth - 1},
    (rn P (.ops (iWd s xt).2.2.2.2 0) {s with depth:=s.depth+1,base:=s.ret.length} k).2.1,
    if (rn P (.ops (iWd s xt).2.2.2.2 0) {s with depth:=s.depth+1,base:=s.ret.length} k).2.2=0∧¬iOwn (rn P (.ops (iWd s xt).2.2.2.2 0) {s with depth:=s.depth+1,base:=s.ret.length} k).1=0 then 12 else (rn P (.ops (iWd s xt).2.2.2.2 0) {s with depth:=s.depth+1,base:=s.ret.length} k).2.2):=by
 have h3:¬(32:Int)≤s.depth:=by omega
 have h4:¬(2:Int)=1:=by omega
 simp only[rn,runF,h1,h3,h4,if_true,if_false]
theorem rn_num (P:Int→Rs→Rs×Int) {xt:Int} {s:Rs} {k:Nat} (h1:(iWd s xt).2.2.1=3∨(iWd s xt).2.2.1=4∨(iWd s xt).2.2.1=5):rn P (.word xt) s (k+1)=((iSwp s 0 [(iWd s xt).2.2.2.1]).1,k,(iSwp s 0 [(iWd s xt).2.2.2.1]).2):=by
 have a:¬(iWd s xt).2.2.1=1:=by omega
 have b:¬(iWd s xt).2.2.1=2:=by omega
 simp only[rn,runF,a,b,h1,if_true,if_false]
theorem rn_inst (P:Int→Rs→Rs×Int) {xt:Int} {s:Rs} {k:Nat} (h1:(iWd s xt).2.2.1=7):rn P (.word xt) s (k+1)=if iSlf s (iWd s xt)=false then (s,k,21) else
  ((iSwp s 0 [(s.m.insts.getD s.m.self.toNat (-1, -1,[],[])).2.2.2.getD (iWd s xt).2.2.2.1.toNat 0]).1,k,(iSwp s 0 [(s.m.insts.getD s.m.self.toNat (-1, -1,[],[])).2.2.2.getD (iWd s xt).2.2.2.1.toNat 0]).2):=by
 have a:¬(7:Int)=1:=by omega
 have b:¬(7:Int)=2:=by omega
 have c:¬((7:Int)=3∨(7:Int)=4∨(7:Int)=5):=by omega
 simp only[rn,runF,h1,a,b,c,if_true,if_false]
theorem rn_defer (P:Int→Rs→Rs×Int) {xt:Int} {s:Rs} {k:Nat} (h1:¬(1≤(iWd s xt).2.2.1∧(iWd s xt).2.2.1≤5)) (h2:¬(iWd s xt).2.2.1=7):rn P (.word xt) s (k+1)=rn P (.word (iWd s xt).2.2.2.1) s k:=by
 have a:¬(iWd s xt).2.2.1=1:=by omega
 have b:¬(iWd s xt).2.2.1=2:=by omega
 have c:¬((iWd s xt).2.2.1=3∨(iWd s xt).2.2.1=4∨(iWd s xt).2.2.1=5):=by omega
 simp only[rn,runF,a,b,c,h2,if_true,if_false]
theorem rn_end (P:Int→Rs→Rs×Int) {l:List Opd} {pos:Nat} {s:Rs} {k:Nat} (h:l[pos]? =none):rn P (.ops l pos) s k=(s,k,0):=run_end P h
theorem rn_ops0 (P:Int→Rs→Rs×Int) {l:List Opd} {pos:Nat} {s:Rs} {o:Opd} (h:l[pos]? =some o):rn P (.ops l pos) s 0=(s,0,11):=by
 simp only[rn,runF,h]
theorem rn_exit (P:Int→Rs→Rs×Int) {l:List Opd} {pos:Nat} {s:Rs} {k:Nat} {o:Opd} (h:l[pos]? =some o) (h1:o.1=12):rn P (.ops l pos) s (k+1)=(s,k,0):=by
 simp only[rn,runF,h,h1,if_true]
theorem rn_call (P:Int→Rs→Rs×Int) {l:List Opd} {pos:Nat} {s:Rs} {k:Nat} {o:Opd} (h:l[pos]? =some o) (h1:o.1=2):
  rn P (.ops l pos) s (k+1)=if (rn P (.word o.2) s k).2.2=0 then rn P (.ops l (pos+1)) (rn P (.word o.2) s k).1 (rn P (.word o.2) s k).2.1 else rn P (.word o.2) s k:=by
 have a:¬(2:Int)=12:=by omega
 have hl:=run_left P (k+1) (.word o.2) s k
 have e:=rn_eq P (f:=k+1) (.ops l (pos+1)) (runF P (k+1) (.word o.2) s k).1 (k:=(runF P (k+1) (.word o.2) s k).2.1) (by omega)
 have e0:rn P (.ops l pos) s (k+1)=if (runF P (k+1) (.word o.2) s k).2.2=0 then runF P (k+1) (.ops l (pos+1)) (runF P (k+1) (.word o.2) s k).1 (runF P (k+1) (.word o.2) s k).2.1 else runF P (k+1) (.word o.2) s k:=by
  unfold rn
  conv=>lhs;unfold runF
  simp only[h,h1,a,if_true,if_false]
 rw[e0,e]
 rfl
theorem rn_op (P:Int→Rs→Rs×Int) {l:List Opd} {pos:Nat} {s:Rs} {k:Nat} {o:Opd} (h:l[pos]? =some o) (h1:¬o.1=12) (h2:¬o.1=2):
  rn P (.ops l pos) s (k+1)=if (iOp s o).2.2=0 then rn P (.ops l (if (iOp s o).2.1 then o.2.toNat else pos+1)) (iOp s o).1 k else ((iOp s o).1,k,(iOp s o).2.2):=by
 simp only[rn,runF,h,h1,h2,if_false]
inductive Fm where
 |colon (base word at_:Int)
 |catch (base height self:Int)
 |meth (base self:Int)
def bsF:List Fm→Int
 |[]=>0
 | .colon b _ _::_=>b
 | .catch b _ _::_=>b
 | .meth b _::_=>b
def dpF:List Fm→Int
 |[]=>0
 | .colon _ _ _::r=>dpF r+1
 | .catch _ _ _::r=>dpF r
 | .meth _ _::r=>dpF r
theorem dpF_0:∀fs,0≤dpF fs
 |[]=>Int.le_refl _
 | .colon _ _ _::r=>by have:=dpF_0 r;simp only[dpF];omega
 | .catch _ _ _::r=>dpF_0 r
 | .meth _ _::r=>dpF_0 r
def unw (P:Int→Rs→Rs×Int):List Fm→Rs×Nat×Int→Rs×Nat×Int
 |[],x=>(x.1,x.2.1,if x.2.2=0∧¬x.1.ret=[] then 12 else x.2.2)
 | .colon b wd at_::r,x=>
  let y:=if x.2.2=0 then rn P (.ops (iWd x.1 wd).2.2.2.2 at_.toNat) x.1 x.2.1 else x
  unw P r ({y.1 with base:=bsF r,depth:=y.1.depth - 1},y.2.1,if y.2.2=0∧¬iOwn y.1=0 then 12 else y.2.2)
 | .catch b h sl::r,x=>
  let z:=iCat {m:={nilM with stack:=List.replicate h.toNat 0,self:=sl},ret:=List.replicate b.toNat 0,base:=bsF r,depth:=dpF r,n:=0} x.1 x.2.2
  unw P r (z.1,x.2.1,z.2)
 | .meth b sl::r,x=>if x.2.2=0 then unw P r ({x.1 with m:={x.1.m with self:=sl}},x.2.1,0) else unw P r x
theorem iCat_only (s s' r:Rs) (e:Int) (h1:s.m.stack.length=s'.m.stack.length) (h2:s.m.self=s'.m.self) (h3:s.ret.length=s'.ret.length) (h4:s.base=s'.base) (h5:s.depth=s'.depth):iCat s r e=iCat s' r e:=by
 unfold iCat
 rw[h1,h2,h3,h4,h5]
theorem unw_fuel (P:Int→Rs→Rs×Int):∀(fs:List Fm) (s:Rs) (k:Nat),(unw P fs (s,k,11)).2.2=11
 |[],s,k=>by simp[unw]
 | .colon b wd at_::r,s,k=>by simp only[unw];exact unw_fuel P r _ _
 | .catch b h sl::r,s,k=>by
  have e:∀x y,iCat x y 11=(y,11):=fun x y=>by unfold iCat;simp
  simp only[unw,e]
  exact unw_fuel P r _ _
 | .meth b sl::r,s,k=>by simp only[unw];exact unw_fuel P r _ _
def Fok (words:List Wd):List Fm→Int→Int→Prop
 |[],top,self=>0≤top
 | .colon b wd at_::r,top,self=>b≤top∧bsF r≤b∧0≤wd∧wd < words.length∧(words.getD wd.toNat ([],0,0,0,[])).2.2.1=2∧0≤at_∧at_≤(words.getD wd.toNat ([],0,0,0,[])).2.2.2.2.length∧Fok words r b self
 | .catch b h sl::r,top,self=>b≤top∧bsF r≤b∧0≤h∧h < 64∧sl=self∧Fok words r b self
 | .meth b sl::r,top,self=>b≤top∧b=bsF r∧Fok words r b sl
theorem Fok.bs {words:List Wd}:∀{fs:List Fm} {top self:Int},Fok words fs top self→0≤bsF fs∧bsF fs≤top
 |[],top,self,h=>by simp only[Fok] at h;simp only[bsF];omega
 | .colon b wd at_::r,top,self,h=>by
  simp only[Fok] at h
  have:=h.2.2.2.2.2.2.2.bs
  simp only[bsF]
  omega
 | .catch b hh sl::r,top,self,h=>by
  simp only[Fok] at h
  have:=h.2.2.2.2.2.bs
  simp only[bsF]
  omega
 | .meth b sl::r,top,self,h=>by
  simp only[Fok] at h
  have:=h.2.2.bs
  simp only[bsF]
  omega
theorem Fok.top {words:List Wd}:∀{fs:List Fm} {top top' self:Int},Fok words fs top self→bsF fs≤top'→Fok words fs top' self
 |[],top,top',self,h,g=>by simp only[Fok,bsF] at h g ⊢;omega
 | .colon b wd at_::r,top,top',self,h,g=>by simp only[Fok,bsF] at h g ⊢;exact ⟨g,h.2⟩
 | .catch b hh sl::r,top,top',self,h,g=>by simp only[Fok,bsF] at h g ⊢;exact ⟨g,h.2⟩
 | .meth b sl::r,top,top',self,h,g=>by simp only[Fok,bsF] at h g ⊢;exact ⟨g,h.2⟩
theorem Fok.words {ws ws':List Wd} (e:ws'.map shW=ws.map shW):∀{fs:List Fm} {top self:Int},Fok ws fs top self→Fok ws' fs top self
 |[],top,self,h=>h
 | .colon b wd at_::r,top,self,h=>by
  have el:ws'.length=ws.length:=by have:=congrArg List.length e;simpa using this
  have g:shW (ws'.getD wd.toNat ([],0,0,0,[]))=shW (ws.getD wd.toNat ([],0,0,0,[])):=by
   rw[←getD_map shW ws',←getD_map shW ws,e]
  have g1:=congrArg (fun x=>x.2.2.1) g
  have g2:=congrArg (fun x=>x.2.2.2) g
  simp only[shW] at g1 g2
  simp only[Fok] at h ⊢
  rw[el,g1,g2]
  exact ⟨h.1,h.2.1,h.2.2.1,h.2.2.2.1,h.2.2.2.2.1,h.2.2.2.2.2.1,h.2.2.2.2.2.2.1,Fok.words e h.2.2.2.2.2.2.2⟩
 | .catch b hh sl::r,top,self,h=>by
  simp only[Fok] at h ⊢
  exact ⟨h.1,h.2.1,h.2.2.1,h.2.2.2.1,h.2.2.2.2.1,Fok.words e h.2.2.2.2.2⟩
 | .meth b sl::r,top,self,h=>by
  simp only[Fok] at h ⊢
  exact ⟨h.1,h.2.1,Fok.words e h.2.2⟩
open Go.ChangeShapes Go.WideShapes Go.ChangeAt Go.RowKit
def fmC:Fm→List Value
 | .colon b wd at_=>[.int .i64 0, .int .i64 b, .int .i64 wd, .int .i64 at_, .int .i64 0, .int .i64 0]
 | .catch b h _=>[.int .i64 1, .int .i64 b, .int .i64 0, .int .i64 0, .int .i64 h, .int .i64 0]
 | .meth b s=>[.int .i64 2, .int .i64 b, .int .i64 0, .int .i64 0, .int .i64 0, .int .i64 s]
theorem fmC_len (f:Fm):(fmC f).length=6:=by cases f <;> rfl
def rnC (s b:Sv) (vf:Value) (opn nxt fuel thr:Int):Array Value:=
 #[s.v.vs,s.v.vm,s.v.vw,s.v.vc, .int .u32 s.m.base,s.v.vt, .int .i64 s.m.node,s.v.vi, .int .i64 s.m.self, .string s.o,s.vr,
  b.v.vs,b.v.vm,b.v.vw,b.v.vc, .int .u32 b.m.base,b.v.vt, .int .i64 b.m.node,b.v.vi, .int .i64 b.m.self, .string b.o,b.vr,
  vf, .int .i64 opn, .int .i64 nxt, .int .i64 fuel, .int .u32 thr]
def fmR (fs:List Fm):List (List Value):=fs.reverse.map fmC
theorem fmR_len (fs:List Fm):(fmR fs).length=fs.length:=by simp[fmR]
theorem fmR_six (fs:List Fm):∀r∈fmR fs,r.length=6:=by
 intro r hr
 simp only[fmR,List.mem_map] at hr
 obtain ⟨f,_,rfl⟩:=hr
 exact fmC_len f
theorem fmR_cons (f:Fm) (fs:List Fm):fmR (f::fs)=fmR fs++[fmC f]:=by simp[fmR]
structure RunL (B:Nat) (D:Nat→Prop) (w:World) (q:Nat) (s b:Sv) (vf:Value) (fs:List Fm) (nxt fuel thr:Int):Prop where
 st:Stands w q (rnC s b vf (dpF fs) nxt fuel thr) 67
 hs:StL kR D w s
 wd:WdL kR D B w s.v.vw s.m.words
 ins:InL kR D B w s.v.vi s.m.insts
 hb:StL kR D w b
 bw:b.v.vw=s.v.vw
 bi:b.v.vi=s.v.vi
 fr:w.ownsRow B 122 6 vf fs.length (fmR fs).flatten
 hq:B≤q
 hB:B≤w.heap.size
 hD:∀k,D k→B≤k∧k < w.heap.size
 tab:∀w',Below B w w'→Stk.Tab w'
theorem own_kept' {T:TypeId} {w w':World} (k:Kept T w w') {v:Value} {base:Nat} {e:TypeId} {sz n:Nat} {cs:List Value} (o:w.ownsRow base e sz v n cs) (hne:¬e=T):∀k,v.ownBlock=some k→w'.heap[k]? =w.heap[k]? :=by
 intro b hb
 obtain ⟨row,g,hr⟩:=k
 obtain ⟨_,o⟩:=o
 rcases o with ⟨rfl,_⟩|⟨b',cap,cur,rfl,_,h1,_⟩
 ·cases hb
 ·simp[Value.ownBlock] at hb
  subst hb
  refine g.block b' (heap_lt' h1) (fun e0=> ?_)
  obtain ⟨cur',fr,h2⟩:=hr b' e0.symm
  rw[h1] at h2
  simp at h2
  exact hne h2.2.1
theorem WdL.kept {D:Nat→Prop} {B:Nat} {T:TypeId} {w w':World} {v:Value} {l:List Wd} (h:WdL kR D B w v l) (k:Kept T w w') (a:Agr kR D w w') (hT:¬59=T):WdL kR D B w' v l:=by
 refine h.agr a ?_
 obtain ⟨rows,h1,h2,h3,h4⟩:=h
 exact own_kept' k h3 hT
theorem InL.kept {D:Nat→Prop} {B:Nat} {T:TypeId} {w w':World} {v:Value} {l:List Iz} (h:InL kR D B w v l) (k:Kept T w w') (a:Agr kR D w w') (hT:¬26=T):InL kR D B w' v l:=by
 refine h.agr a ?_
 intro b cs fr _ e
 obtain ⟨row,g,hr⟩:=k
 refine g.block b (heap_lt' e) (fun e0=> ?_)
 obtain ⟨cur',fr',h2⟩:=hr b e0.symm
 rw[e] at h2
 simp at h2
 exact hT h2.2.1
theorem RunL.upd {B:Nat} {D:Nat→Prop} {w w':World} {q:Nat} {s s' b b':Sv} {vf:Value} {fs:List Fm} {nxt fuel thr nxt' fuel' thr':Int} (h:RunL B D w q s b vf fs nxt fuel thr) (g:w.grownBy w' (some q))
  (st:Stands w' q (rnC s' b' vf (dpF fs) nxt' fuel' thr') 67) (hs:StL kR D w' s') (hb:StL kR D w' b')
  (e1:s'.v.vw=s.v.vw:=by rfl) (e2:s'.m.words=s.m.words:=by rfl) (e3:s'.v.vi=s.v.vi:=by rfl) (e4:s'.m.insts=s.m.insts:=by rfl)
  (e5:b'.v.vw=s.v.vw:=by first|rfl|assumption) (e6:b'.v.vi=s.v.vi:=by first|rfl|assumption):RunL B D w' q s' b' vf fs nxt' fuel' thr':=by
 have k:=Kept.stands h.st g
 have a:Agr kR D w w':=Agr.kept k rfl
 refine ⟨st,hs, ?_, ?_,hb,e5.trans e1.symm,e6.trans e3.symm,own_kept k (by decide) h.fr,h.hq,Nat.le_trans h.hB g.size,fun k hk=>⟨(h.hD k hk).1,Nat.lt_of_lt_of_le (h.hD k hk).2 g.size⟩,fun w2 b2=>h.tab w2 (Below.trans (gb_below' g h.hq h.hB) b2)⟩
 ·rw[e1,e2]
  exact h.wd.kept k a (by decide)
 ·rw[e3,e4]
  exact h.ins.kept k a (by decide)
theorem RunL.agr {B:Nat} {D:Nat→Prop} {w w':World} {q:Nat} {s b:Sv} {vf:Value} {fs:List Fm} {nxt fuel thr:Int} (h:RunL B D w q s b vf fs nxt fuel thr) (g:w.grownBy w' (some q)):Agr kR D w w':=Agr.kept (Kept.stands h.st g) rfl
theorem RunL.below {B:Nat} {D:Nat→Prop} {w w':World} {q:Nat} {s b:Sv} {vf:Value} {fs:List Fm} {nxt fuel thr:Int} (h:RunL B D w q s b vf fs nxt fuel thr) (g:Below w.heap.size w w'):RunL B D w' q s b vf fs nxt fuel thr:=
 h.upd (gb_of g) (h.st.below g) (h.hs.agr (Agr.below g)) (h.hb.agr (Agr.below g)) rfl rfl rfl rfl h.bw h.bi
theorem RunL.rdm {B:Nat} {D:Nat→Prop} {w:World} {q:Nat} {s b:Sv} {vf:Value} {fs:List Fm} {nxt fuel thr:Int} (h:RunL B D w q s b vf fs nxt fuel thr):RdM w s.v s.m s.o:=rdM_of h.hs h.wd h.ins
theorem stb_rdn {D:Nat→Prop} {B:Nat} {w:World} {v:Value} {xs:List Int} (h:Stk.RdN B w v xs) (hD:∀k,D k→k < B):Stb kR D w (fun u=>Rd .u32 u v xs):=rd_stb h.1 h.2 rfl hD
def toR (s:Sv) (fs:List Fm) (thr:Int):Rs:={m:=s.m,ret:=s.ret,base:=bsF fs,depth:=dpF fs,n:=thr}
def Sv.stk (s:Sv) (v:Value) (l:List Int):Sv:={s with v:={s.v with vs:=v},m:={s.m with stack:=l}}
def Sv.rt (s:Sv) (v:Value) (l:List Int):Sv:={s with vr:=v,ret:=l}
theorem StL.stk {D:Nat→Prop} {w:World} {s:Sv} (h:StL kR D w s) {v:Value} {l:List Int} (g:Stb kR D w (fun u=>Rd .u32 u v l)):StL kR D w (s.stk v l):=⟨g,h.mem,h.codes,h.tree,h.out,h.ret⟩
theorem StL.rt {D:Nat→Prop} {w:World} {s:Sv} (h:StL kR D w s) {v:Value} {l:List Int} (g:Stb kR D w (fun u=>Rd .u32 u v l)):StL kR D w (s.rt v l):=⟨h.stack,h.mem,h.codes,h.tree,h.out,g⟩
theorem RunL.stk {B:Nat} {D:Nat→Prop} {w w':World} {q:Nat} {s b:Sv} {vf:Value} {fs:List Fm} {nxt fuel thr:Int} {v:Value} {l:List Int} (h:RunL B D w q s b vf fs nxt fuel thr) (g:w.grownBy w' (some q))
  (st:Stands w' q ((rnC s b vf (dpF fs) nxt fuel thr).setIfInBounds 0 v) 67) (n:Stk.RdN w.heap.size w' v l):RunL B D w' q (s.stk v l) b vf fs nxt fuel thr:=
 h.upd g st ((h.hs.agr (h.agr g)).stk (stb_rdn n (fun k hk=>(h.hD k hk).2))) (h.hb.agr (h.agr g)) rfl rfl rfl rfl h.bw h.bi
theorem RunL.low {B:Nat} {D:Nat→Prop} {w w':World} {q:Nat} {s b:Sv} {vf:Value} {fs:List Fm} {nxt fuel thr:Int} (h:RunL B D w q s b vf fs nxt fuel thr) (g:w.grownBy w' (some q)):Below B w w':=gb_below' g h.hq h.hB
theorem RunL.c0 {B:Nat} {D:Nat→Prop} {w:World} {q:Nat} {s b:Sv} {vf:Value} {fs:List Fm} {nxt fuel thr:Int} (h:RunL B D w q s b vf fs nxt fuel thr):w.cell? ⟨q,0,none⟩=some s.v.vs:=h.st.cell 0 _ rfl
theorem RunL.c1 {B:Nat} {D:Nat→Prop} {w:World} {q:Nat} {s b:Sv} {vf:Value} {fs:List Fm} {nxt fuel thr:Int} (h:RunL B D w q s b vf fs nxt fuel thr):w.cell? ⟨q,1,none⟩=some s.v.vm:=h.st.cell 1 _ rfl
theorem RunL.c2 {B:Nat} {D:Nat→Prop} {w:World} {q:Nat} {s b:Sv} {vf:Value} {fs:List Fm} {nxt fuel thr:Int} (h:RunL B D w q s b vf fs nxt fuel thr):w.cell? ⟨q,2,none⟩=some s.v.vw:=h.st.cell 2 _ rfl
theorem RunL.c3 {B:Nat} {D:Nat→Prop} {w:World} {q:Nat} {s b:Sv} {vf:Value} {fs:List Fm} {nxt fuel thr:Int} (h:RunL B D w q s b vf fs nxt fuel thr):w.cell? ⟨q,3,none⟩=some s.v.vc:=h.st.cell 3 _ rfl
theorem RunL.c4 {B:Nat} {D:Nat→Prop} {w:World} {q:Nat} {s b:Sv} {vf:Value} {fs:List Fm} {nxt fuel thr:Int} (h:RunL B D w q s b vf fs nxt fuel thr):w.cell? ⟨q,4,none⟩=some (.int .u32 s.m.base):=h.st.cell 4 _ rfl
theorem RunL.c5 {B:Nat} {D:Nat→Prop} {w:World} {q:Nat} {s b:Sv} {vf:Value} {fs:List Fm} {nxt fuel thr:Int} (h:RunL B D w q s b vf fs nxt fuel thr):w.cell? ⟨q,5,none⟩=some s.v.vt:=h.st.cell 5 _ rfl
theorem RunL.c6 {B:Nat} {D:Nat→Prop} {w:World} {q:Nat} {s b:Sv} {vf:Value} {fs:List Fm} {nxt fuel thr:Int} (h:RunL B D w q s b vf fs nxt fuel thr):w.cell? ⟨q,6,none⟩=some (.int .i64 s.m.node):=h.st.cell 6 _ rfl
theorem RunL.c7 {B:Nat} {D:Nat→Prop} {w:World} {q:Nat} {s b:Sv} {vf:Value} {fs:List Fm} {nxt fuel thr:Int} (h:RunL B D w q s b vf fs nxt fuel thr):w.cell? ⟨q,7,none⟩=some s.v.vi:=h.st.cell 7 _ rfl
theorem RunL.c8 {B:Nat} {D:Nat→Prop} {w:World} {q:Nat} {s b:Sv} {vf:Value} {fs:List Fm} {nxt fuel thr:Int} (h:RunL B D w q s b vf fs nxt fuel thr):w.cell? ⟨q,8,none⟩=some (.int .i64 s.m.self):=h.st.cell 8 _ rfl
theorem RunL.c9 {B:Nat} {D:Nat→Prop} {w:World} {q:Nat} {s b:Sv} {vf:Value} {fs:List Fm} {nxt fuel thr:Int} (h:RunL B D w q s b vf fs nxt fuel thr):w.cell? ⟨q,9,none⟩=some (.string s.o):=h.st.cell 9 _ rfl
theorem RunL.c10 {B:Nat} {D:Nat→Prop} {w:World} {q:Nat} {s b:Sv} {vf:Value} {fs:List Fm} {nxt fuel thr:Int} (h:RunL B D w q s b vf fs nxt fuel thr):w.cell? ⟨q,10,none⟩=some s.vr:=h.st.cell 10 _ rfl
theorem RunL.c11 {B:Nat} {D:Nat→Prop} {w:World} {q:Nat} {s b:Sv} {vf:Value} {fs:List Fm} {nxt fuel thr:Int} (h:RunL B D w q s b vf fs nxt fuel thr):w.cell? ⟨q,11,none⟩=some b.v.vs:=h.st.cell 11 _ rfl
theorem RunL.c12 {B:Nat} {D:Nat→Prop} {w:World} {q:Nat} {s b:Sv} {vf:Value} {fs:List Fm} {nxt fuel thr:Int} (h:RunL B D w q s b vf fs nxt fuel thr):w.cell? ⟨q,12,none⟩=some b.v.vm:=h.st.cell 12 _ rfl
theorem RunL.c13 {B:Nat} {D:Nat→Prop} {w:World} {q:Nat} {s b:Sv} {vf:Value} {fs:List Fm} {nxt fuel thr:Int} (h:RunL B D w q s b vf fs nxt fuel thr):w.cell? ⟨q,13,none⟩=some b.v.vw:=h.st.cell 13 _ rfl
theorem RunL.c14 {B:Nat} {D:Nat→Prop} {w:World} {q:Nat} {s b:Sv} {vf:Value} {fs:List Fm} {nxt fuel thr:Int} (h:RunL B D w q s b vf fs nxt fuel thr):w.cell? ⟨q,14,none⟩=some b.v.vc:=h.st.cell 14 _ rfl
theorem RunL.c15 {B:Nat} {D:Nat→Prop} {w:World} {q:Nat} {s b:Sv} {vf:Value} {fs:List Fm} {nxt fuel thr:Int} (h:RunL B D w q s b vf fs nxt fuel thr):w.cell? ⟨q,15,none⟩=some (.int .u32 b.m.base):=h.st.cell 15 _ rfl
theorem RunL.c16 {B:Nat} {D:Nat→Prop} {w:World} {q:Nat} {s b:Sv} {vf:Value} {fs:List Fm} {nxt fuel thr:Int} (h:RunL B D w q s b vf fs nxt fuel thr):w.cell? ⟨q,16,none⟩=some b.v.vt:=h.st.cell 16 _ rfl
theorem RunL.c17 {B:Nat} {D:Nat→Prop} {w:World} {q:Nat} {s b:Sv} {vf:Value} {fs:List Fm} {nxt fuel thr:Int} (h:RunL B D w q s b vf fs nxt fuel thr):w.cell? ⟨q,17,none⟩=some (.int .i64 b.m.node):=h.st.cell 17 _ rfl
theorem RunL.c18 {B:Nat} {D:Nat→Prop} {w:World} {q:Nat} {s b:Sv} {vf:Value} {fs:List Fm} {nxt fuel thr:Int} (h:RunL B D w q s b vf fs nxt fuel thr):w.cell? ⟨q,18,none⟩=some b.v.vi:=h.st.cell 18 _ rfl
theorem RunL.c19 {B:Nat} {D:Nat→Prop} {w:World} {q:Nat} {s b:Sv} {vf:Value} {fs:List Fm} {nxt fuel thr:Int} (h:RunL B D w q s b vf fs nxt fuel thr):w.cell? ⟨q,19,none⟩=some (.int .i64 b.m.self):=h.st.cell 19 _ rfl
theorem RunL.c20 {B:Nat} {D:Nat→Prop} {w:World} {q:Nat} {s b:Sv} {vf:Value} {fs:List Fm} {nxt fuel thr:Int} (h:RunL B D w q s b vf fs nxt fuel thr):w.cell? ⟨q,20,none⟩=some (.string b.o):=h.st.cell 20 _ rfl
theorem RunL.c21 {B:Nat} {D:Nat→Prop} {w:World} {q:Nat} {s b:Sv} {vf:Value} {fs:List Fm} {nxt fuel thr:Int} (h:RunL B D w q s b vf fs nxt fuel thr):w.cell? ⟨q,21,none⟩=some b.vr:=h.st.cell 21 _ rfl
theorem RunL.c22 {B:Nat} {D:Nat→Prop} {w:World} {q:Nat} {s b:Sv} {vf:Value} {fs:List Fm} {nxt fuel thr:Int} (h:RunL B D w q s b vf fs nxt fuel thr):w.cell? ⟨q,22,none⟩=some vf:=h.st.cell 22 _ rfl
theorem RunL.c23 {B:Nat} {D:Nat→Prop} {w:World} {q:Nat} {s b:Sv} {vf:Value} {fs:List Fm} {nxt fuel thr:Int} (h:RunL B D w q s b vf fs nxt fuel thr):w.cell? ⟨q,23,none⟩=some (.int .i64 (dpF fs)):=h.st.cell 23 _ rfl
theorem RunL.c24 {B:Nat} {D:Nat→Prop} {w:World} {q:Nat} {s b:Sv} {vf:Value} {fs:List Fm} {nxt fuel thr:Int} (h:RunL B D w q s b vf fs nxt fuel thr):w.cell? ⟨q,24,none⟩=some (.int .i64 nxt):=h.st.cell 24 _ rfl
theorem RunL.c26 {B:Nat} {D:Nat→Prop} {w:World} {q:Nat} {s b:Sv} {vf:Value} {fs:List Fm} {nxt fuel thr:Int} (h:RunL B D w q s b vf fs nxt fuel thr):w.cell? ⟨q,26,none⟩=some (.int .u32 thr):=h.st.cell 26 _ rfl
theorem uF:Tryz.prog.underlying 65=some (.slice (Tryz.prog.elem 65)):=by kernel_rfl
theorem eF:Tryz.prog.elem 65=122:=by kernel_rfl
theorem zF (w:World):(sizeOf (Tryz.prog.elem 65)).run Tryz.prog w= .ok 6 w:=by rw[eF];exact Tryz.sizeOf122 w
theorem idx_fm (g n cap i:Nat) (hi:i < n):∀w',(Instr.indexAt 65 (.slice (some ⟨g,0,none⟩) n cap) (.int .i64 (i:Int))).run Tryz.prog w'= .ok (.pointer (some ⟨g,i*6,none⟩)) w':=by
 intro w'
 rw[run_indexAt_slice (h:=uF),if_pos ⟨by omega,by omega⟩,zF]
 simp only[Result.andThen,Int.toNat_natCast]
 congr 3
 unfold Addr.add
 split
 ·rename_i hz;rw[hz]
 ·simp
theorem len_fm (ao:Option Addr) (n cap:Nat) (ty:TypeId) (w':World):(Builtin.len_ #[65] ty #[.slice ao n cap]).run Tryz.prog w'= .ok (.int .i64 n) w':=by
 simp[Builtin.len_,run_underlying uF,goInt]
theorem RunL.top {B:Nat} {D:Nat→Prop} {w:World} {q:Nat} {s b:Sv} {vf:Value} {f:Fm} {fs:List Fm} {nxt fuel thr:Int} (h:RunL B D w q s b vf (f::fs) nxt fuel thr):
  ∃g cap,vf= .slice (some ⟨g,0,none⟩) (fs.length+1) cap∧(∀j u,(fmC f)[j]? =some u→w.cell? ⟨g,fs.length*6+j,none⟩=some u)∧(∀j,w.frozen? ⟨g,j,none⟩=false)∧B≤g:=by
 have o:=h.fr
 obtain ⟨g,cap,rfl⟩:=own_some o (by simp)
 refine ⟨g,cap,rfl,fun j u hu=> ?_,fun j=>o.frozenAt j,(o.lt g rfl).1⟩
 refine own_cell o (fs.length*6+j) u ?_
 have hj:j < 6:=by
  have:=(List.getElem?_eq_some_iff.1 hu).1
  rwa [fmC_len] at this
 rw[flat_get (fmR (f::fs)) 6 fs.length j (fmR_six _) (by rw[fmR_len];simp) hj,fmR_cons,List.getD_eq_getElem?_getD,List.getElem?_append_right (by rw[fmR_len];exact Nat.le_refl _),fmR_len]
 simpa using hu
theorem fmC_base (f:Fm) (fs:List Fm):(fmC f)[1]? =some (.int .i64 (bsF (f::fs))):=by cases f <;> rfl
set_option maxHeartbeats 1000000 in
theorem w_step0 (q:Nat) (cs:Array Value) (T:TypeId) (w:World) (st:Stands w q cs T) (h:cs[25]? =some (.int .i64 0)):
  Calls Tryz.prog 78 #[.pointer (some ⟨q,0,none⟩)] w fun e w'=>e= .returned (.int .i64 11)∧w'=w:=by
 have f0:=st.cell 25 _ h
 go_enter Tryz.func78,Tryz.ntmps78
 go_wp2_with fail
 go_ret
 exact ⟨rfl,rfl⟩
set_option maxHeartbeats 1000000 in
theorem w_step1 (q:Nat) (cs:Array Value) (T:TypeId) (F:Int) (w:World) (st:Stands w q cs T) (h:cs[25]? =some (.int .i64 F)) (h0:0 < F) (h1:F≤100000):
  Calls Tryz.prog 78 #[.pointer (some ⟨q,0,none⟩)] w fun e w'=>e= .returned (.int .i64 0)∧w'=w.setCell ⟨q,25,none⟩ (.int .i64 (F - 1)):=by
 have f0:=st.cell 25 _ h
 have f1:=st.free 25
 have e0:(F==0)=false:=beq_eq_false_iff_ne.2 (by omega)
 go_enter Tryz.func78,Tryz.ntmps78
 go_wp2_with fail
 go_ret
 exact ⟨rfl,rfl⟩
set_option maxHeartbeats 1000000 in
theorem w_base {B:Nat} {D:Nat→Prop} {w:World} {q:Nat} {s b:Sv} {vf:Value} {fs:List Fm} {nxt fuel thr:Int} (h:RunL B D w q s b vf fs nxt fuel thr) (hl:fs.length≤1000000):
  Calls Tryz.prog 83 #[.pointer (some ⟨q,0,none⟩)] w fun e w'=>e= .returned (.int .i64 (bsF fs))∧Below w.heap.size w w':=by
 cases fs with
 |nil=>
  obtain ⟨a,c,rfl⟩:=own_form h.fr
  have f22:=h.c22
  have hlen:=len_fm a 0 c
  go_enter Tryz.func83,Tryz.ntmps83
  go_wp2_with fail
  go_ret
  exact ⟨rfl,Below.refl _ _⟩
 |cons f r=>
  obtain ⟨g,c,rfl,hc,hf,_⟩:=h.top
  have f22:=h.c22
  have hlen:=len_fm (some ⟨g,0,none⟩) (r.length+1) c
  have hix:=idx_fm g (r.length+1) c r.length (by omega)
  have hc1:=hc 1 _ (fmC_base f r)
  simp at hl
  have hne:(((r.length+1:Nat):Int)==0)=false:=beq_eq_false_iff_ne.2 (by omega)
  have hsub:(r.length:Int)=((r.length+1:Nat):Int) - 1:=by omega
  rw[hsub] at hix
  have hN0:0 < ((r.length+1:Nat):Int):=by omega
  have hN1:((r.length+1:Nat):Int)≤1000001:=by omega
  obtain ⟨Y,hY⟩:∃Y,bsF (f::r)=Y:=⟨_,rfl⟩
  rw[hY] at hc1 ⊢
  obtain ⟨N,hN⟩:∃N:Int,((r.length+1:Nat):Int)=N:=⟨_,rfl⟩
  rw[hN] at hlen hne hix hN0 hN1
  clear hsub
  clear hN hY hc hf h hl
  go_enter Tryz.func83,Tryz.ntmps83
  go_wp2_with fail
  go_quiet (fail)
  go_wp2_with fail
  go_ret
  exact ⟨rfl,by repeat (first|exact Below.refl _ _|exact below_drewN (Below.refl _ _) _)⟩
set_option maxHeartbeats 1000000 in
theorem w_level {B:Nat} {D:Nat→Prop} {w:World} {q:Nat} {s b:Sv} {vf:Value} {fs:List Fm} {nxt fuel thr:Int} (h:RunL B D w q s b vf fs nxt fuel thr) (hl:fs.length≤1000000) (hr:s.ret.length≤64):
  Calls Tryz.prog 61 #[.pointer (some ⟨q,0,none⟩)] w fun e w'=>e= .returned (.int .i64 (if (s.ret.length:Int)=bsF fs then 0 else 12))∧Below w.heap.size w w':=by
 have hd:Below w.heap.size w w.drew:=below_drewN (Below.refl _ _) 1
 have c:=w_base (h.below hd) hl
 have f10:=(h.below hd).c10
 have f10b:Hid (∀W,Below w.drew.heap.size w.drew W→W.cell? ⟨q,10,none⟩=some s.vr):=fun W b=>((h.below hd).below b).c10
 obtain ⟨ra,rc,er⟩:=rd_slice h.hs.ret.now
 rw[er] at f10 f10b
 have hlen:=rd_len h.hs.ret.now Stk.uS (P:=Tryz.prog)
 rw[er] at hlen
 obtain ⟨Y,hY⟩:∃Y,bsF fs=Y:=⟨_,rfl⟩
 rw[hY] at c ⊢
 obtain ⟨L,hL⟩:∃L:Int,(s.ret.length:Int)=L:=⟨_,rfl⟩
 rw[hL] at hlen ⊢
 clear hY hL er h
 by_cases hc:L=Y
 ·rw[if_pos hc]
  have hb:(L !=Y)=false:=by simp[hc]
  clear hc
  go_enter Tryz.func61,Tryz.ntmps61
  go_wp2_with fail
  go_region_with (go_at_call 83;refine c.mono ?_;rintro e w2 ⟨rfl,b2⟩;have y10:=f10b.out w2 b2)
  all_goals (
   go_wp2_with fail
   go_ret
   exact ⟨rfl,below_trans hd b2⟩)
 ·rw[if_neg hc]
  have hb:(L !=Y)=true:=by simp[hc]
  clear hc
  go_enter Tryz.func61,Tryz.ntmps61
  go_wp2_with fail
  go_region_with (go_at_call 83;refine c.mono ?_;rintro e w2 ⟨rfl,b2⟩;have y10:=f10b.out w2 b2)
  all_goals (
   go_wp2_with fail
   go_ret
   exact ⟨rfl,below_trans hd b2⟩)
set_option maxHeartbeats 1000000 in
theorem w_cellRetE {B:Nat} {D:Nat→Prop} {w:World} {q:Nat} {s b:Sv} {vf:Value} {fs:List Fm} {nxt fuel thr:Int} (h:RunL B D w q s b vf fs nxt fuel thr) (hl:fs.length≤1000000) (hr:s.ret.length≤64) (n:Int) (n0:0≤n) (n1:n≤64) (hn:(s.ret.length:Int) - n < bsF fs):
  Calls Tryz.prog 186 #[.pointer (some ⟨q,0,none⟩), .int .i64 n] w fun e w'=>e= .returned (.tuple #[.int .u32 0, .int .i64 12])∧Below w.heap.size w w':=by
 have c:=w_base h hl
 have f10:=h.c10
 obtain ⟨ra,rc,er⟩:=rd_slice h.hs.ret.now
 rw[er] at f10
 have hlen:=rd_len h.hs.ret.now Stk.uS (P:=Tryz.prog)
 rw[er] at hlen
 obtain ⟨Y,hY⟩:∃Y,bsF fs=Y:=⟨_,rfl⟩
 rw[hY] at c hn
 clear hY er h
 go_enter Tryz.func186,Tryz.ntmps186
 go_wp2_with (go_at_call 83;refine c.mono ?_;rintro e w2 ⟨rfl,b2⟩)
 go_ret2
 exact ⟨rfl,b2⟩
set_option maxHeartbeats 1000000 in
theorem w_cellRet {B:Nat} {D:Nat→Prop} {w:World} {q:Nat} {s b:Sv} {vf:Value} {fs:List Fm} {nxt fuel thr:Int} (h:RunL B D w q s b vf fs nxt fuel thr) (hl:fs.length≤1000000) (hr:s.ret.length≤64) (n:Nat) (n0:0 < n) (hn:bsF fs≤(s.ret.length:Int) - n) (h0:0≤bsF fs):
  Calls Tryz.prog 186 #[.pointer (some ⟨q,0,none⟩), .int .i64 n] w fun e w'=>e= .returned (.tuple #[.int .u32 (s.ret.getD (s.ret.length - n) 0), .int .i64 0])∧Below w.heap.size w w':=by
 have c:=w_base h hl
 have f10:=h.c10
 have F10:Hid (∀W,Below w.heap.size w W→W.cell? ⟨q,10,none⟩=some s.vr):=fun W b=>(h.below b).c10
 obtain ⟨ra,rc,er⟩:=rd_slice h.hs.ret.now
 obtain ⟨ad,hrun,hcell⟩:=rd_idx h.hs.ret.now Stk.uS Stk.zS ((s.ret.length:Int) - n) (by omega) (by omega)
 have HC:Hid (∀W,Below w.heap.size w W→W.cell? ad=some (.int .u32 (s.ret.getD (s.ret.length - n) 0))):=fun W b=>by
  have:=below_cell b hcell
  rwa [show ((s.ret.length:Int) - n).toNat=s.ret.length - n by omega] at this
 rw[er] at f10 F10 hrun
 have hlen:=rd_len h.hs.ret.now Stk.uS (P:=Tryz.prog)
 rw[er] at hlen
 obtain ⟨Y,hY⟩:∃Y,bsF fs=Y:=⟨_,rfl⟩
 rw[hY] at c hn
 obtain ⟨N,hN⟩:∃N:Int,(n:Int)=N:=⟨_,rfl⟩
 have hN1:N≤64:=by omega
 have hN0:0 < N:=by omega
 rw[hN] at hn hrun ⊢
 obtain ⟨X,hX⟩:∃X,s.ret.getD (s.ret.length - n) 0=X:=⟨_,rfl⟩
 rw[hX] at HC ⊢
 clear hY er h hN hX h0 hcell
 go_enter Tryz.func186,Tryz.ntmps186
 go_wp2_with (go_at_call 83;refine c.mono ?_;rintro e w2 ⟨rfl,b2⟩;have y10:=F10.out w2 b2;have yc:=HC.out w2 b2)
 go_ret2
 exact ⟨rfl,b2⟩
set_option maxHeartbeats 1000000 in
theorem w_takeRetE {B:Nat} {D:Nat→Prop} {w:World} {q:Nat} {s b:Sv} {vf:Value} {fs:List Fm} {nxt fuel thr:Int} (h:RunL B D w q s b vf fs nxt fuel thr) (hl:fs.length≤1000000) (hr:s.ret.length≤64) (n:Int) (n0:0≤n) (n1:n≤64) (hn:(s.ret.length:Int) - n < bsF fs):
  Calls Tryz.prog 185 #[.pointer (some ⟨q,0,none⟩), .int .i64 n] w fun e w'=>e= .returned (.tuple #[.slice none 0 0, .int .i64 12])∧Below w.heap.size w w':=by
 have c:=w_base h hl
 have f10:=h.c10
 obtain ⟨ra,rc,er⟩:=rd_slice h.hs.ret.now
 rw[er] at f10
 have hlen:=rd_len h.hs.ret.now Stk.uS (P:=Tryz.prog)
 rw[er] at hlen
 obtain ⟨Y,hY⟩:∃Y,bsF fs=Y:=⟨_,rfl⟩
 rw[hY] at c hn
 clear hY er h
 go_enter Tryz.func185,Tryz.ntmps185
 go_wp2_with (go_at_call 83;refine c.mono ?_;rintro e w2 ⟨rfl,b2⟩)
 go_ret2
 exact ⟨rfl,b2⟩
set_option maxHeartbeats 2000000 in
theorem w_takeRet {B:Nat} {D:Nat→Prop} {w:World} {q:Nat} {s b:Sv} {vf:Value} {fs:List Fm} {nxt fuel thr:Int} (h:RunL B D w q s b vf fs nxt fuel thr) (hl:fs.length≤1000000) (hr:s.ret.length≤64) (n:Nat) (hn:bsF fs≤(s.ret.length:Int) - n) (h0:0≤bsF fs):
  Calls Tryz.prog 185 #[.pointer (some ⟨q,0,none⟩), .int .i64 n] w fun e w'=>∃v1 v2,e= .returned (.tuple #[v2, .int .i64 0])∧RunL B D w' q (s.rt v1 (s.ret.take (s.ret.length - n))) b vf fs nxt fuel thr∧Stb kR D w' (fun u=>Rd .u32 u v2 (s.ret.drop (s.ret.length - n)))∧w.grownBy w' (some q):=by
 have c:=w_base h hl
 have f10:=h.c10
 have F10:Hid (∀W,Below w.heap.size w W→W.cell? ⟨q,10,none⟩=some s.vr∧W.frozen? ⟨q,10,none⟩=false):=fun W b=>⟨(h.below b).c10,(h.below b).st.free 10⟩
 obtain ⟨ra,rc,er⟩:=rd_slice h.hs.ret.now
 have h64:0≤(s.ret.length:Int) - n:=by omega
 obtain ⟨va,_,x1,c1,x2⟩:=rd_cutI h.hs.ret.now Stk.uS Stk.zS 0 ((s.ret.length:Int) - n) (by omega) (by omega) (by omega)
 have c1':=c1 rfl
 have sa:Stb kR D w (fun u=>Rd .u32 u va (s.ret.take (s.ret.length - n))):=fun W g=>by
  obtain ⟨va',ra',x1',c1'',_⟩:=rd_cutI (h.hs.ret W g) Stk.uS Stk.zS 0 ((s.ret.length:Int) - n) (by omega) (by omega) (by omega)
  have e1:=c1'' rfl W
  rw[c1' W] at e1
  injection e1 with e1
  rw[←e1,show ((s.ret.length:Int) - n - 0).toNat=s.ret.length - n by omega] at ra'
  exact ra'
 obtain ⟨vb,_,y1,y2,c2⟩:=rd_cutI h.hs.ret.now Stk.uS Stk.zS ((s.ret.length:Int) - n) s.ret.length (by omega) (by omega) (by omega)
 have c2':=c2 rfl
 have sb:Stb kR D w (fun u=>Rd .u32 u vb (s.ret.drop (s.ret.length - n))):=fun W g=>by
  obtain ⟨vb',rb',_,_,c2''⟩:=rd_cutI (h.hs.ret W g) Stk.uS Stk.zS ((s.ret.length:Int) - n) s.ret.length (by omega) (by omega) (by omega)
  have e1:=c2'' rfl W
  rw[c2' W] at e1
  injection e1 with e1
  rw[←e1,show ((s.ret.length:Int) - n).toNat=s.ret.length - n by omega,show ((s.ret.length:Int) - ((s.ret.length:Int) - n)).toNat=n by omega,List.take_of_length_le (by simp;omega)] at rb'
  exact rb'
 obtain ⟨aa,ca,ea⟩:=rd_slice sa.now
 obtain ⟨ab,cb,eb⟩:=rd_slice sb.now
 obtain ⟨la,hla⟩:∃l,(s.ret.take (s.ret.length - n)).length=l:=⟨_,rfl⟩
 obtain ⟨lb,hlb⟩:∃l,(s.ret.drop (s.ret.length - n)).length=l:=⟨_,rfl⟩
 rw[hla] at ea
 rw[hlb] at eb
 subst ea eb
 have SA:=hid sa
 have SB:=hid sb
 have HH:=hid h
 rw[er] at f10 F10 c1' c2'
 have hlen:=rd_len h.hs.ret.now Stk.uS (P:=Tryz.prog)
 rw[er] at hlen
 obtain ⟨Y,hY⟩:∃Y,bsF fs=Y:=⟨_,rfl⟩
 rw[hY] at c hn
 obtain ⟨N,hN⟩:∃N:Int,(n:Int)=N:=⟨_,rfl⟩
 have hN1:N≤64:=by omega
 have hN0:0≤N:=by omega
 rw[hN] at hn c1' c2' h64 ⊢
 have ER:=hid er
 clear hY er h hN h0 sa sb x1 x2 y1 y2 c1 c2 hla hlb
 go_enter Tryz.func185,Tryz.ntmps185
 go_wp2_with (go_at_call 83;refine c.mono ?_;rintro e w2 ⟨rfl,b2⟩;obtain ⟨y10,yf⟩:=F10.out w2 b2)
 go_ret2
 have h2:=HH.out.below b2
 have g1:w2.grownBy (w2.setCell ⟨q,10,none⟩ (.slice aa la ca)) (some q):=gb_set (gb_refl _ _) 10 _
 have a1:=h2.agr g1
 refine ⟨_,_,rfl,h2.upd g1 (h2.st.set 10 _) ((h2.hs.agr a1).rt ((SA.out.below b2).agr a1)) (h2.hb.agr a1) rfl rfl rfl rfl h2.bw h2.bi,(SB.out.below b2).agr a1,gb_trans (gb_of b2) g1⟩
set_option maxHeartbeats 1000000 in
theorem w_leaveRetE {B:Nat} {D:Nat→Prop} {w:World} {q:Nat} {s b:Sv} {vf:Value} {fs:List Fm} {nxt fuel thr:Int} (h:RunL B D w q s b vf fs nxt fuel thr) (vl:Value) (ys:List Int) (rl:Rd .u32 w vl ys) (hr:s.ret.length≤64) (hy:ys.length≤64) (hn:64 < s.ret.length+ys.length):
  Calls Tryz.prog 184 #[.pointer (some ⟨q,0,none⟩),vl] w fun e w'=>e= .returned (.int .i64 12)∧w'=w:=by
 have f10:=h.c10
 obtain ⟨ra,rc,er⟩:=rd_slice h.hs.ret.now
 rw[er] at f10
 have hlen:=rd_len h.hs.ret.now Stk.uS (P:=Tryz.prog)
 rw[er] at hlen
 have glen:=rd_len rl Stk.uS (P:=Tryz.prog)
 obtain ⟨L,hL⟩:∃L:Int,(s.ret.length:Int)=L:=⟨_,rfl⟩
 obtain ⟨M,hM⟩:∃L:Int,(ys.length:Int)=L:=⟨_,rfl⟩
 rw[hL] at hlen
 rw[hM] at glen
 have h1:(64:Int) < L+M:=by omega
 have h2:L≤64:=by omega
 have h3:M≤64:=by omega
 clear hL hM hn hr hy er h rl
 go_enter Tryz.func184,Tryz.ntmps184
 go_wp2_with fail
 go_ret
 exact ⟨rfl,rfl⟩
set_option maxHeartbeats 2000000 in
theorem w_leaveRet {B:Nat} {D:Nat→Prop} {w:World} {q:Nat} {s b:Sv} {vf:Value} {fs:List Fm} {nxt fuel thr:Int} (h:RunL B D w q s b vf fs nxt fuel thr) (vl:Value) (ys:List Int) (rl:Rd .u32 w vl ys) (hr:s.ret.length≤64) (hn:s.ret.length+ys.length≤64):
  Calls Tryz.prog 184 #[.pointer (some ⟨q,0,none⟩),vl] w fun e w'=>∃v1,e= .returned (.int .i64 0)∧RunL B D w' q (s.rt v1 (s.ret++ys)) b vf fs nxt fuel thr∧w.grownBy w' (some q):=by
 have f10:=h.c10
 obtain ⟨ra,rc,er⟩:=rd_slice h.hs.ret.now
 obtain ⟨la,lc,rfl⟩:=rd_slice rl
 have rr:=h.hs.ret.now
 rw[er] at f10 rr
 have hlen:=rd_len rr Stk.uS (P:=Tryz.prog)
 have glen:=rd_len rl Stk.uS (P:=Tryz.prog)
 obtain ⟨V,hV⟩:∃V,V=Value.slice ra s.ret.length rc:=⟨_,rfl⟩
 obtain ⟨U,hU⟩:∃U,U=Value.slice la ys.length lc:=⟨_,rfl⟩
 have b0:=(Below.refl w.heap.size w).alloc (Nat.le_refl _) (.cells #[V,U] 22)
 have hc:∀i,i < 2→(w.alloc (.cells #[V,U] 22)).cell? ⟨w.heap.size,i,none⟩=some (if i=0 then V else U):=by
  intro i hi
  rw[World.cell?_alloc_new]
  rcases i with _|_|i
  ·rfl
  ·rfl
  ·omega
 have hrd:∀i,i < 2→Rd .u32 (w.alloc (.cells #[V,U] 22)) (if i=0 then V else U) (if i=0 then s.ret else ys):=by
  intro i hi
  rcases i with _|_|i
  ·exact (show Rd .u32 w V s.ret from by rw[hV];exact rr).below b0
  ·exact (show Rd .u32 w U ys from by rw[hU];exact rl).below b0
  ·omega
 have cc:=Stk.w_concat w.heap.size 2 (fun i=>if i=0 then V else U) (fun i=>if i=0 then s.ret else ys) _ (by omega) (by omega) hc hrd (by simp[Stk.cat];omega)
 rw[show Stk.cat (fun i=>if i=0 then s.ret else ys) 2=s.ret++ys by simp[Stk.cat]] at cc
 rw[hV,hU] at cc b0
 obtain ⟨X,hX⟩:∃X,s.ret++ys=X:=⟨_,rfl⟩
 rw[hX] at cc ⊢
 have HH:=hid h
 obtain ⟨L,hL⟩:∃L:Int,(s.ret.length:Int)=L:=⟨_,rfl⟩
 obtain ⟨M,hM⟩:∃L:Int,(ys.length:Int)=L:=⟨_,rfl⟩
 rw[hL] at hlen
 rw[hM] at glen
 have h1:L+M≤64:=by omega
 have h2:0≤L:=by omega
 have h3:0≤M:=by omega
 clear hX hc hrd hV hU hL hM hn hr er h rl rr
 go_enter Tryz.func184,Tryz.ntmps184
 go_wp2_with (go_at_call 177;refine cc.mono ?_;rintro e w1 ⟨v1,rfl,r1,b1⟩;obtain ⟨a1,c1,rfl⟩:=rd_slice r1.1;have y10:=(HH.out.below (below_trans b0 b1)).c10;have yf:=(HH.out.below (below_trans b0 b1)).st.free 10)
 go_ret
 have h2:=HH.out.below (below_trans b0 b1)
 have g1:w1.grownBy (w1.setCell ⟨q,10,none⟩ (.slice a1 X.length c1)) (some q):=gb_set (gb_refl _ _) 10 _
 have a1':=h2.agr g1
 refine ⟨_,rfl,h2.upd g1 (h2.st.set 10 _) ((h2.hs.agr a1').rt ((stb_rdn (r1.le b0.size) (fun k hk=>(HH.out.hD k hk).2)).agr a1')) (h2.hb.agr a1') rfl rfl rfl rfl h2.bw h2.bi,gb_trans (gb_of (below_trans b0 b1)) g1⟩
def PrmP (B:Nat) (D:Nat→Prop) (q:Nat) (s b:Sv) (vf:Value) (fs:List Fm) (fuel:Int) (w:World) (r:Rs×Int):Ending→World→Prop:=fun e w'=>
 e= .returned (.tuple #[.bool true, .int .i64 r.2])∧Below B w w'∧∃s',RunL B D w' q s' b vf fs (-1) fuel r.1.n∧s'.m.words=s.m.words∧s'.m.insts=s.m.insts∧(r.2=0→s'.m=r.1.m∧s'.ret=r.1.ret)
theorem iW_no {R:Rs} {k:Nat} {f:List Int→Rs×Int} (h:R.m.stack.length < k):iWith R k f=(R,5):=by
 unfold iWith iTop
 rw[if_pos h]
 simp
theorem iW_yes {R:Rs} {k:Nat} {f:List Int→Rs×Int} (h:k≤R.m.stack.length):iWith R k f=f (R.m.stack.drop (R.m.stack.length - k)):=by
 have n:¬R.m.stack.length < k:=by omega
 unfold iWith iTop
 simp[n]
theorem iS_over {R:Rs} {k:Nat} {l:List Int} (h:k≤R.m.stack.length) (h2:64 < R.m.stack.length - k+l.length):iSwp R k l=(R,6):=by
 unfold iSwp
 rw[if_neg (by omega),if_pos h2]
theorem push_ok (xs ys:List Int) (h:xs.length+ys.length≤64):Stk.pushF xs ys=(xs++ys,0):=by
 unfold Stk.pushF
 rw[if_neg (by omega)]
theorem push_no (xs ys:List Int) (h:64 < xs.length+ys.length):Stk.pushF xs ys=([],6):=by
 unfold Stk.pushF
 rw[if_pos h]
theorem drop2 (l:List Int) (h:2≤l.length):l.drop (l.length - 2)=[l.getD (l.length - 2) 0,l.getD (l.length - 1) 0]:=by
 rw[List.drop_eq_getElem_cons (by omega),List.drop_eq_getElem_cons (by omega),List.drop_of_length_le (by omega)]
 simp only[List.getD_eq_getElem?_getD,List.getElem?_eq_getElem (show l.length - 2 < l.length by omega),List.getElem?_eq_getElem (show l.length - 1 < l.length by omega),Option.getD_some]
 congr 2
 simp only[show l.length - 2+1=l.length - 1 by omega]
theorem drop1 (l:List Int) (h:1≤l.length):l.drop (l.length - 1)=[l.getD (l.length - 1) 0]:=by
 rw[List.drop_eq_getElem_cons (by omega),List.drop_of_length_le (by omega)]
 simp only[List.getD_eq_getElem?_getD,List.getElem?_eq_getElem (show l.length - 1 < l.length by omega),Option.getD_some]
set_option maxHeartbeats 4000000 in
theorem w_binary {B:Nat} {D:Nat→Prop} {w:World} {q:Nat} {s b:Sv} {vf:Value} {fs:List Fm} {fuel thr:Int} (h:RunL B D w q s b vf fs (-1) fuel thr) (ok:Okr (toR s fs thr)) (op:Int) (hu:¬Cel.unE op=0) (hb:Cel.binE op 1=0):
  Calls Tryz.prog 113 #[.pointer (some ⟨q,0,none⟩), .int .i64 op] w (PrmP B D q s b vf fs fuel w (iP op (toR s fs thr))):=by
 have hsl:s.m.stack.length≤64:=(frm_parts ok.frm).1
 have hsc:cells s.m.stack:=ok.ran.m.stack
 have eP:iP op (toR s fs thr)=iWith (toR s fs thr) 2 fun l=>if Cel.binE op (l.getD 1 0)≠0 then (toR s fs thr,Cel.binE op (l.getD 1 0)) else iSwp (toR s fs thr) 2 [Cel.binX op (l.getD 0 0) (l.getD 1 0)]:=by
  unfold iP iAr
  rw[if_neg hu,if_pos hb]
 rw[eP]
 clear eP
 have c1:=Cel.w_bin op 1 1 w (by omega) (by omega) (by omega) (by omega)
 rw[hb] at c1
 have HH:=hid h
 by_cases hk:s.m.stack.length < 2
 ·rw[iW_no (R:=toR s fs thr) hk]
  have ct:=fun W (b1:Below w.heap.size w W)=>w_take q _ _ _ _ 2 W (h.below b1).st rfl (h.below b1).hs.stack.now hsl
  rw[show (2:Int)=((2:Nat):Int) from rfl] at ct
  simp only[pop_no _ _ hk] at ct
  clear h hb hu
  go_enter Tryz.func113,Tryz.ntmps113
  go_upto_region 2 with (go_at_call 178;refine c1.mono ?_;rintro e w1 ⟨rfl,b1⟩)
  go_wp2_with (go_at_call 134;refine (ct _ b1).mono ?_;rintro e w2 ⟨v1,v2,rfl,st2,o1,o2,g2⟩)
  go_ret2
  have h2:=(HH.out.below b1).stk g2 st2 o1
  exact ⟨rfl,Below.trans ((HH.out.low (gb_of b1))) ((HH.out.below b1).low g2),_,h2,rfl,rfl,fun e=>by cases e⟩
 ·have hk2:2≤s.m.stack.length:=by omega
  rw[iW_yes (R:=toR s fs thr) hk2]
  have ct:=fun W (b1:Below w.heap.size w W)=>w_take q _ _ _ _ 2 W (h.below b1).st rfl (h.below b1).hs.stack.now hsl
  rw[show (2:Int)=((2:Nat):Int) from rfl] at ct
  simp only[pop_ok _ _ hk2] at ct
  have edr:=drop2 s.m.stack hk2
  have x0:=cells_get' hsc (s.m.stack.length - 2)
  have x1:=cells_get' hsc (s.m.stack.length - 1)
  have hrest:(s.m.stack.take (s.m.stack.length - 2)).length=s.m.stack.length - 2:=by simp
  show Calls _ _ _ _ (PrmP B D q s b vf fs fuel w ((fun l=>if Cel.binE op (l.getD 1 0)≠0 then (toR s fs thr,Cel.binE op (l.getD 1 0)) else iSwp (toR s fs thr) 2 [Cel.binX op (l.getD 0 0) (l.getD 1 0)]) (s.m.stack.drop (s.m.stack.length - 2))))
  rw[edr] at ct ⊢
  simp only[List.getD_cons_zero,List.getD_cons_succ]
  obtain ⟨X,hX⟩:∃X,s.m.stack.getD (s.m.stack.length - 2) 0=X:=⟨_,rfl⟩
  obtain ⟨Y,hY⟩:∃X,s.m.stack.getD (s.m.stack.length - 1) 0=X:=⟨_,rfl⟩
  simp only[hX,hY] at ct x0 x1 ⊢
  have c2:=fun W=>Cel.w_bin op X Y W x0.1 x0.2 x1.1 x1.2
  obtain ⟨Z,hZ⟩:∃Z,Cel.binX op X Y=Z:=⟨_,rfl⟩
  obtain ⟨E,hE⟩:∃Z,Cel.binE op Y=Z:=⟨_,rfl⟩
  simp only[hZ,hE] at c2 ⊢
  obtain ⟨R0,hR0⟩:∃R,s.m.stack.take (s.m.stack.length - 2)=R:=⟨_,rfl⟩
  have CT:=hid ct
  have C2:=hid c2
  rw[hR0] at hrest CT
  have HR0:=hid hR0
  obtain ⟨r,hr⟩:∃r,(if E≠0 then (toR s fs thr,E) else iSwp (toR s fs thr) 2 [Z])=r:=⟨_,rfl⟩
  rw[hr]
  have HR:=hid hr
  clear h hb hu edr hX hY hZ hE x0 x1 hsc ct c2 hR0 hr
  go_enter Tryz.func113,Tryz.ntmps113
  go_upto_region 2 with (go_at_call 178;refine c1.mono ?_;rintro e w1 ⟨rfl,b1⟩)
  clear c1
  go_upto_region 5 with (go_at_call 134;refine (CT.out _ b1).mono ?_;rintro e w2 ⟨v1,v2,rfl,st2,o1,o2,g2⟩)
  have h2:=(HH.out.below b1).stk g2 st2 o1
  have L2:Below B w w2:=Below.trans (HH.out.low (gb_of b1)) ((HH.out.below b1).low g2)
  obtain ⟨a0,i0,k0⟩:=rd_idx o2.1 Stk.uS Stk.zS 0 (by omega) (by simp)
  obtain ⟨a1,i1,k1⟩:=rd_idx o2.1 Stk.uS Stk.zS 1 (by omega) (by simp)
  simp only[Int.toNat_zero,Int.toNat_one,List.getD_cons_zero,List.getD_cons_succ] at k0 k1
  have KK:Hid (∀W,Below w2.heap.size w2 W→W.cell? a0=some (.int .u32 X)∧W.cell? a1=some (.int .u32 Y)):=fun W b=>⟨below_cell b k0,below_cell b k1⟩
  have H2:=hid h2
  have hd:Hid (Below w2.heap.size w2 w2.drew):=below_drewN (Below.refl _ _) 1
  clear st2 o1 o2 g2 h2 k0 k1
  go_wp2_with fail
  go_region_held2 (fun W=>W.cell? a0=some (.int .u32 X)∧W.cell? a1=some (.int .u32 Y)) (first|with_reducible exact KK.out _ hd.out|with_reducible exact KK.out _ B3.out) ((go_at_call 178;refine (C2.out _).mono ?_;rintro e w3 ⟨rfl,b3⟩;have B3:Hid (Below w2.heap.size w2 w3):=below_trans hd.out b3))
  have h3:=H2.out.below B3.out
  have L3:Below B w w3:=Below.trans L2 (H2.out.low (gb_of B3.out))
  by_cases hE0:E=0
  ·subst hE0
   have cl:=fun W (b4:Below w3.heap.size w3 W) (rl:Rd .u32 W (.slice (some ⟨w3.heap.size,0,none⟩) 1 1) [Z])=>w_leave q _ _ _ _ _ _ W (h3.below b4).st rfl (h3.below b4).hs.stack.now rl (by show R0.length≤64;omega) (by simp)
   have cl2:=cl _ (box_below w3 _) (rd_one w3 Z 26)
   have hps:=push_ok R0 [Z] (by simp;omega)
   rw[show (s.stk v1 R0).m.stack=R0 from rfl,hps] at cl2
   have h4:=h3.below (box_below w3 (.cells #[.int .u32 Z] 26))
   clear cl hps
   go_wp2_with (go_at_call 79;refine cl2.mono ?_;rintro e w5 ⟨v5,rfl,st5,o5,g5⟩)
   go_ret2
   have h5:=h4.stk g5 st5 o5
   have er:=HR.out
   rw[if_neg (by simp),iSwp_ok (toR s fs thr) 2 [Z] hk2 (by show s.m.stack.length - 2+1≤64;omega)] at er
   subst er
   exact ⟨rfl,Below.trans L3 (Below.trans (h3.low (gb_of (box_below w3 _))) (h4.low g5)),_,h5,rfl,rfl,fun _=>⟨by show ({s.m with stack:=R0++[Z]}:Mc)=_;rw[←HR0.out];rfl,rfl⟩⟩
  ·have hne:(E !=0)=true:=by simpa using hE0
   have er:=HR.out
   rw[if_pos (by simpa using hE0)] at er
   have ce:=fun W vl=>w_leaveE q E vl W hne
   go_wp2_with (go_at_call 79;refine (ce _ _).mono ?_;rintro e w5 ⟨rfl,rfl⟩)
   go_ret2
   have h4:=h3.below (box_below w3 (.cells #[.int .u32 Z] 26))
   subst er
   exact ⟨rfl,Below.trans L3 (h3.low (gb_of (box_below w3 _))),_,h4,rfl,rfl,fun e=>absurd e hE0⟩
theorem w_takeU {B:Nat} {D:Nat→Prop} {w:World} {q:Nat} {s b:Sv} {vf:Value} {fs:List Fm} {nxt fuel thr:Int} (h:RunL B D w q s b vf fs nxt fuel thr) (k:Nat) (hk:s.m.stack.length < k) (hs:s.m.stack.length≤64):
  Calls Tryz.prog 134 #[.pointer (some ⟨q,0,none⟩), .int .i64 k] w fun e w'=>∃v1 v2,e= .returned (.tuple #[v2, .int .i64 5])∧RunL B D w' q (s.stk v1 []) b vf fs nxt fuel thr∧Below B w w':=by
 have c:=w_take q _ _ _ _ k w h.st rfl h.hs.stack.now hs
 rw[pop_no _ _ hk] at c
 refine c.mono ?_
 rintro e w2 ⟨v1,v2,rfl,st2,o1,o2,g2⟩
 exact ⟨v1,v2,rfl,h.stk g2 st2 o1,h.low g2⟩
theorem w_takeK {B:Nat} {D:Nat→Prop} {w:World} {q:Nat} {s b:Sv} {vf:Value} {fs:List Fm} {nxt fuel thr:Int} (h:RunL B D w q s b vf fs nxt fuel thr) (k:Nat) (hk:k≤s.m.stack.length) (hs:s.m.stack.length≤64):
  Calls Tryz.prog 134 #[.pointer (some ⟨q,0,none⟩), .int .i64 k] w fun e w'=>∃v1 v2,e= .returned (.tuple #[v2, .int .i64 0])∧RunL B D w' q (s.stk v1 (s.m.stack.take (s.m.stack.length - k))) b vf fs nxt fuel thr∧Stk.RdN w.heap.size w' v2 (s.m.stack.drop (s.m.stack.length - k))∧Below B w w':=by
 have c:=w_take q _ _ _ _ k w h.st rfl h.hs.stack.now hs
 rw[pop_ok _ _ hk] at c
 refine c.mono ?_
 rintro e w2 ⟨v1,v2,rfl,st2,o1,o2,g2⟩
 exact ⟨v1,v2,rfl,h.stk g2 st2 o1,o2,h.low g2⟩
theorem w_leaveO {B:Nat} {D:Nat→Prop} {w:World} {q:Nat} {s b:Sv} {vf:Value} {fs:List Fm} {nxt fuel thr:Int} (h:RunL B D w q s b vf fs nxt fuel thr) (vl:Value) (ys:List Int) (rl:Rd .u32 w vl ys) (hs:s.m.stack.length≤64) (hy:ys.length≤64) (ho:64 < s.m.stack.length+ys.length):
  Calls Tryz.prog 79 #[.pointer (some ⟨q,0,none⟩), .int .i64 0,vl] w fun e w'=>∃v1,e= .returned (.int .i64 6)∧RunL B D w' q (s.stk v1 []) b vf fs nxt fuel thr∧Below B w w':=by
 have c:=w_leave q _ _ _ _ _ _ w h.st rfl h.hs.stack.now rl hs hy
 rw[push_no _ _ ho] at c
 refine c.mono ?_
 rintro e w2 ⟨v1,rfl,st2,o1,g2⟩
 exact ⟨v1,rfl,h.stk g2 st2 o1,h.low g2⟩
theorem w_leaveK {B:Nat} {D:Nat→Prop} {w:World} {q:Nat} {s b:Sv} {vf:Value} {fs:List Fm} {nxt fuel thr:Int} (h:RunL B D w q s b vf fs nxt fuel thr) (vl:Value) (ys:List Int) (rl:Rd .u32 w vl ys) (hy:s.m.stack.length+ys.length≤64):
  Calls Tryz.prog 79 #[.pointer (some ⟨q,0,none⟩), .int .i64 0,vl] w fun e w'=>∃v1,e= .returned (.int .i64 0)∧RunL B D w' q (s.stk v1 (s.m.stack++ys)) b vf fs nxt fuel thr∧Below B w w':=by
 have c:=w_leave q _ _ _ _ _ _ w h.st rfl h.hs.stack.now rl (by omega) (by omega)
 rw[push_ok _ _ hy] at c
 refine c.mono ?_
 rintro e w2 ⟨v1,rfl,st2,o1,g2⟩
 exact ⟨v1,rfl,h.stk g2 st2 o1,h.low g2⟩
theorem w_leaveA {B:Nat} {D:Nat→Prop} {w:World} {q:Nat} {s b:Sv} {vf:Value} {fs:List Fm} {nxt fuel thr:Int} (h:RunL B D w q s b vf fs nxt fuel thr) (vl:Value) (ys:List Int) (rl:Rd .u32 w vl ys) (hs:s.m.stack.length≤64) (hy:ys.length≤64):
  Calls Tryz.prog 79 #[.pointer (some ⟨q,0,none⟩), .int .i64 0,vl] w fun e w'=>∃v1 l,e= .returned (.int .i64 (iSwp (toR s fs thr) 0 ys).2)∧RunL B D w' q (s.stk v1 l) b vf fs nxt fuel thr∧Below B w w'∧((iSwp (toR s fs thr) 0 ys).2=0→l=s.m.stack++ys∧(iSwp (toR s fs thr) 0 ys).1={(toR s fs thr) with m:={s.m with stack:=s.m.stack++ys}})∧(iSwp (toR s fs thr) 0 ys).1.n=thr:=by
 by_cases ho:64 < s.m.stack.length+ys.length
 ·rw[iS_over (R:=(toR s fs thr)) (k:=0) (Nat.zero_le _) (by simpa [toR] using ho)]
  refine (w_leaveO h vl ys rl hs hy ho).mono ?_
  rintro e w2 ⟨v1,rfl,h2,b2⟩
  exact ⟨v1,[],rfl,h2,b2,fun e=>by simp at e,rfl⟩
 ·have e1:=iSwp_ok (toR s fs thr) 0 ys (Nat.zero_le _) (by simp[toR];omega)
  rw[e1]
  refine (w_leaveK h vl ys rl (by omega)).mono ?_
  rintro e w2 ⟨v1,rfl,h2,b2⟩
  exact ⟨v1,_,rfl,h2,b2,fun _=>⟨rfl,by simp[toR]⟩,rfl⟩
theorem doF_none (c:Int) (xs:List Int) (h:xs.length≤64) (hT:Stk.isT c=false) (h8:¬(78≤c∧c≤81)):Stk.doF c xs=([],2):=by
 unfold Stk.doF
 rw[if_neg (by omega),hT,if_neg (by decide),if_neg (by omega),if_neg (by omega),if_neg (by omega),if_neg (by omega)]
theorem iP_out (c:Int) (s:Rs) (hA:iAr c s=none) (hs:s.m.stack.length≤64) (hT:Stk.isT c=false) (h8:¬(78≤c∧c≤81)):iP c s=
  (if c=536 then iWith s 1 fun l=>if l.getD 0 0=0 then iSwp s 1 [] else ({s with n:=l.getD 0 0},28)
  else if c=48∨c=49∨c=50∨c=25∨c=26∨c=137 then iRet c s
  else if c=108∨c=109∨c=111∨c=113∨c=114∨c=116∨c=117∨c=120∨c=121∨c=122∨c=139 then iMem c s
  else if c=143∨c=144∨c=146∨c=155∨c=157∨c=160 then iCon c s
  else iDev c s):=by
 unfold iP
 rw[hA]
 simp only[doF_none c s.m.stack hs hT h8]
 rw[if_neg (by decide)]
theorem PrmP.leave {B:Nat} {D:Nat→Prop} {w w1:World} {q:Nat} {s b:Sv} {vf:Value} {fs:List Fm} {fuel thr:Int} (L:Below B w w1) {ys:List Int} {w2:World} {v1:Value} {l:List Int} (h2:RunL B D w2 q (s.stk v1 l) b vf fs (-1) fuel thr) (b2:Below B w1 w2)
  (h3:(iSwp (toR s fs thr) 0 ys).2=0→l=s.m.stack++ys∧(iSwp (toR s fs thr) 0 ys).1={(toR s fs thr) with m:={s.m with stack:=s.m.stack++ys}}) (h4:(iSwp (toR s fs thr) 0 ys).1.n=thr):
  PrmP B D q s b vf fs fuel w (iSwp (toR s fs thr) 0 ys) (.returned (.tuple #[.bool true, .int .i64 (iSwp (toR s fs thr) 0 ys).2])) w2:=by
 refine ⟨rfl,Below.trans L b2,s.stk v1 l,by rw[h4];exact h2,rfl,rfl,fun e=> ?_⟩
 obtain ⟨e1,e2⟩:=h3 e
 rw[e2,e1]
 exact ⟨rfl,rfl⟩
theorem slf_bd {m:Mc} (h:frmM m=true): -1≤m.self∧m.self < m.insts.length∧m.insts.length≤16:=by
 have p:=frm_parts h
 have q:m.insts.length≤16:=by
  have:=p.2.2.2.2.1
  unfold insF at this
  simp only[Bool.and_eq_true,decide_eq_true_eq] at this
  exact this.1
 rcases self_of h with e|e
 ·rw[e];omega
 ·unfold alvF at e
  simp only[Bool.and_eq_true,decide_eq_true_eq] at e
  omega
theorem PrmP.err {B:Nat} {D:Nat→Prop} {w:World} {q:Nat} {s b:Sv} {vf:Value} {fs:List Fm} {fuel thr:Int} {E:Int} {w2:World} {s':Sv} (L:Below B w w2) (h2:RunL B D w2 q s' b vf fs (-1) fuel thr) (e1:s'.m.words=s.m.words) (e2:s'.m.insts=s.m.insts) (hE:¬E=0):
  PrmP B D q s b vf fs fuel w ((toR s fs thr),E) (.returned (.tuple #[.bool true, .int .i64 E])) w2:=⟨rfl,L,s',h2,e1,e2,fun e=>absurd e hE⟩
theorem PrmP.yes {B:Nat} {D:Nat→Prop} {w:World} {q:Nat} {s b:Sv} {vf:Value} {fs:List Fm} {fuel thr:Int} {w2:World} {s':Sv} {r:Rs} (L:Below B w w2) (h2:RunL B D w2 q s' b vf fs (-1) fuel thr) (e1:s'.m.words=s.m.words) (e2:s'.m.insts=s.m.insts) (em:s'.m=r.m) (er:s'.ret=r.ret) (en:r.n=thr):
  PrmP B D q s b vf fs fuel w (r,0) (.returned (.tuple #[.bool true, .int .i64 0])) w2:=⟨rfl,L,s',by rw[en];exact h2,e1,e2,fun _=>⟨em,er⟩⟩
theorem PrmP.no {B:Nat} {D:Nat→Prop} {w:World} {q:Nat} {s b:Sv} {vf:Value} {fs:List Fm} {fuel thr:Int} {w2:World} {s':Sv} {r:Rs×Int} (L:Below B w w2) (h2:RunL B D w2 q s' b vf fs (-1) fuel thr) (e1:s'.m.words=s.m.words) (e2:s'.m.insts=s.m.insts) (hE:¬r.2=0) (hn:r.1.n=thr):
  PrmP B D q s b vf fs fuel w r (.returned (.tuple #[.bool true, .int .i64 r.2])) w2:=⟨rfl,L,s',by rw[hn];exact h2,e1,e2,fun e=>absurd e hE⟩
theorem swp_n (R:Rs) (k:Nat) (l:List Int):(iSwp R k l).1.n=R.n:=by unfold iSwp;(repeat' split) <;> rfl
theorem swp_two2 {R R':Rs} (h:R.m.stack=R'.m.stack) (k:Nat) (l:List Int):(iSwp R k l).2=(iSwp R' k l).2:=by
 unfold iSwp
 rw[h]
 split
 ·rfl
 ·split <;> rfl
theorem swp_eq {R:Rs} {k:Nat} {l:List Int} (h:(iSwp R k l).2=0):(iSwp R k l).1={R with m:={R.m with stack:=R.m.stack.take (R.m.stack.length - k)++l}}:=by
 unfold iSwp at h ⊢
 split at h
 ·simp at h
 ·split at h
  ·simp at h
  ·rename_i h1 h2
   rw[if_neg h1,if_neg h2]
set_option maxHeartbeats 2000000 in
theorem w_ret49 {B:Nat} {D:Nat→Prop} {w:World} {q:Nat} {s b:Sv} {vf:Value} {fs:List Fm} {fuel thr:Int} (h:RunL B D w q s b vf fs (-1) fuel thr) (ok:Okr (toR s fs thr)) (hl:fs.length≤1000000) (hb0:0≤bsF fs):
  Calls Tryz.prog 118 #[.pointer (some ⟨q,0,none⟩), .int .i64 49] w (PrmP B D q s b vf fs fuel w (iP 49 (toR s fs thr))):=by
 have hsl:s.m.stack.length≤64:=(frm_parts ok.frm).1
 have hsc:cells s.m.stack:=ok.ran.m.stack
 have hrl:s.ret.length≤64:=ok.ran.retL
 have hrc:cells s.ret:=ok.ran.ret
 have hown:iOwn (toR s fs thr)=(s.ret.length:Int) - bsF fs:=rfl
 have hrE:(toR s fs thr).ret=s.ret:=rfl
 by_cases ho:(s.ret.length:Int) - 1 < bsF fs
 ·have eP:iP 49 (toR s fs thr)=((toR s fs thr),12):=by
   rw[iP_out 49 (toR s fs thr) (by unfold iAr;simp[Cel.unE,Cel.binE]) hsl (by decide) (by decide)]
   unfold iRet
   have n1:iOwn (toR s fs thr) < 1:=by rw[hown];omega
   simp[n1]
  rw[eP]
  clear eP
  have ct:=w_takeRetE h hl hrl 1 (by omega) (by omega) ho
  have ce:=fun W vl=>w_leaveE q 12 vl W (by decide)
  have HH:=hid h
  clear h
  go_enter Tryz.func118,Tryz.ntmps118
  go_wp2_with (first
   |(go_at_call 185;refine ct.mono ?_;rintro e w2 ⟨rfl,b2⟩)
   |(go_at_call 79;refine (ce _ _).mono ?_;rintro e w3 ⟨rfl,hw3⟩;obtain rfl:=hw3.symm))
  go_ret2
  exact PrmP.err (HH.out.low (gb_of b2)) (HH.out.below b2) rfl rfl (by decide)
 ·have hlen1:1≤s.ret.length:=by omega
  have ct:=w_takeRet h hl hrl 1 (by omega) hb0
  have edr:s.ret.drop (s.ret.length - 1)=[s.ret.getD (s.ret.length - 1) 0]:=drop1 s.ret hlen1
  have eP:iP 49 (toR s fs thr)=(if (iSwp (toR s fs thr) 0 [s.ret.getD (s.ret.length - 1) 0]).2=0 then ({(iSwp (toR s fs thr) 0 [s.ret.getD (s.ret.length - 1) 0]).1 with ret:=s.ret.take (s.ret.length - 1)},0) else iSwp (toR s fs thr) 0 [s.ret.getD (s.ret.length - 1) 0]):=by
   rw[iP_out 49 (toR s fs thr) (by unfold iAr;simp[Cel.unE,Cel.binE]) hsl (by decide) (by decide)]
   unfold iRet
   have n1:¬iOwn (toR s fs thr) < 1:=by rw[hown];omega
   simp[n1,hrE]
  rw[eP]
  clear eP
  rw[edr] at ct
  obtain ⟨X,hX⟩:∃X,s.ret.getD (s.ret.length - 1) 0=X:=⟨_,rfl⟩
  rw[hX] at ct ⊢
  obtain ⟨T,hT⟩:∃X,s.ret.take (s.ret.length - 1)=X:=⟨_,rfl⟩
  rw[hT] at ct ⊢
  have cl:=fun W (v1 v2:Value) (h2:RunL B D W q (s.rt v1 T) b vf fs (-1) fuel thr) (o2:Rd .u32 W v2 [X])=>w_leaveA h2 v2 [X] o2 hsl (by simp)
  obtain ⟨r,hr⟩:∃r,(if (iSwp (toR s fs thr) 0 [X]).2=0 then ({(iSwp (toR s fs thr) 0 [X]).1 with ret:=T},(0:Int)) else iSwp (toR s fs thr) 0 [X])=r:=⟨_,rfl⟩
  rw[hr]
  have HR:=hid hr
  have e2:∀v1,(iSwp (toR (s.rt v1 T) fs thr) 0 [X]).2=(iSwp (toR s fs thr) 0 [X]).2:=fun v1=>swp_two2 (R:=toR (s.rt v1 T) fs thr) (R':=toR s fs thr) rfl 0 [X]
  have HH:=hid h
  clear h hr hX hT
  go_enter Tryz.func118,Tryz.ntmps118
  go_wp2_with (first
   |(go_at_call 185;refine ct.mono ?_;rintro e w2 ⟨v1,v2,rfl,h2,o2,g2⟩;have H2:=hid h2;have O2:=hid o2;clear h2 o2)
   |(go_at_call 79;refine (cl _ _ _ H2.out O2.out.now).mono ?_;rintro e w3 ⟨v3,l,rfl,h3,b3,p3,p4⟩))
  go_ret2
  have er:=HR.out
  have L:Below B w w3:=Below.trans (HH.out.low g2) b3
  have ee:=e2 v1
  show PrmP B D q s b vf fs fuel w r (.returned (.tuple #[.bool true, .int .i64 (iSwp (toR s fs thr) 0 [X]).2])) w3
  by_cases hE:(iSwp (toR s fs thr) 0 [X]).2=0
  ·rw[if_pos hE] at er
   subst er
   obtain ⟨p5,p6⟩:=p3 (ee.trans hE)
   subst p5
   rw[hE]
   exact PrmP.yes L h3 rfl rfl (by rw[swp_eq hE];simp[toR,Sv.rt,Sv.stk]) rfl (swp_n _ _ _)
  ·rw[if_neg hE] at er
   subst er
   exact PrmP.no L h3 rfl rfl hE (swp_n _ _ _)
set_option maxHeartbeats 2000000 in
theorem w_ret25 {B:Nat} {D:Nat→Prop} {w:World} {q:Nat} {s b:Sv} {vf:Value} {fs:List Fm} {fuel thr:Int} (h:RunL B D w q s b vf fs (-1) fuel thr) (ok:Okr (toR s fs thr)) (hl:fs.length≤1000000) (hb0:0≤bsF fs):
  Calls Tryz.prog 118 #[.pointer (some ⟨q,0,none⟩), .int .i64 25] w (PrmP B D q s b vf fs fuel w (iP 25 (toR s fs thr))):=by
 have hsl:s.m.stack.length≤64:=(frm_parts ok.frm).1
 have hsc:cells s.m.stack:=ok.ran.m.stack
 have hrl:s.ret.length≤64:=ok.ran.retL
 have hrc:cells s.ret:=ok.ran.ret
 have hown:iOwn (toR s fs thr)=(s.ret.length:Int) - bsF fs:=rfl
 have hrE:(toR s fs thr).ret=s.ret:=rfl
 by_cases ho:(s.ret.length:Int) - 1 < bsF fs
 ·have eP:iP 25 (toR s fs thr)=((toR s fs thr),12):=by
   rw[iP_out 25 (toR s fs thr) (by unfold iAr;simp[Cel.unE,Cel.binE]) hsl (by decide) (by decide)]
   unfold iRet
   have n1:iOwn (toR s fs thr) < 1:=by rw[hown];omega
   simp[n1]
  rw[eP]
  clear eP
  have ct:=w_cellRetE h hl hrl 1 (by omega) (by omega) ho
  have ce:=fun W vl=>w_leaveE q 12 vl W (by decide)
  have HH:=hid h
  clear h
  go_enter Tryz.func118,Tryz.ntmps118
  go_wp2_with (first
   |(go_at_call 186;refine ct.mono ?_;rintro e w2 ⟨rfl,b2⟩)
   |(go_at_call 79;refine (ce _ _).mono ?_;rintro e w3 ⟨rfl,hw3⟩;obtain rfl:=hw3.symm))
  go_ret2
  have b3:=below_trans b2 (box_below w2 (.cells #[.int .u32 0] 26))
  exact PrmP.err (HH.out.low (gb_of b3)) (HH.out.below b3) rfl rfl (by decide)
 ·have ct:=w_cellRet h hl hrl 1 (by decide) (by omega) hb0
  have eP:iP 25 (toR s fs thr)=iSwp (toR s fs thr) 0 [s.ret.getD (s.ret.length - 1) 0]:=by
   rw[iP_out 25 (toR s fs thr) (by unfold iAr;simp[Cel.unE,Cel.binE]) hsl (by decide) (by decide)]
   unfold iRet
   have n1:¬iOwn (toR s fs thr) < 1:=by rw[hown];omega
   simp[n1,hrE]
  rw[eP]
  clear eP
  obtain ⟨X,hX⟩:∃X,s.ret.getD (s.ret.length - 1) 0=X:=⟨_,rfl⟩
  rw[hX] at ct ⊢
  have cl:=fun W (b2:Below w.heap.size w W)=>w_leaveA ((h.below b2).below (box_below W (.cells #[.int .u32 X] 26))) _ _ (rd_one W X 26) hsl (by simp)
  obtain ⟨r,hr⟩:∃r,iSwp (toR s fs thr) 0 [X]=r:=⟨_,rfl⟩
  simp only[hr] at cl
  rw[hr]
  have HR:=hid hr
  have HH:=hid h
  have CL:=hid cl
  clear hr hX h cl
  go_enter Tryz.func118,Tryz.ntmps118
  go_wp2_with (first
   |(go_at_call 186;refine ct.mono ?_;rintro e w2 ⟨rfl,b2⟩)
   |(go_at_call 79;refine (CL.out _ b2).mono ?_;rintro e w3 ⟨v1,l,rfl,h2,b3,h3,h4⟩))
  go_ret2
  have er:=HR.out
  subst er
  exact PrmP.leave (HH.out.low (gb_of (below_trans b2 (box_below w2 _)))) h2 b3 h3 h4
def setL {α:Type} (cs:List α):Nat→List α→List α
 |_,[]=>cs
 |o,v::r=>setL (cs.set o v) (o+1) r
theorem own_setCells {base:Nat} {e:TypeId} {sz g n cap:Nat}:∀(news:List Value) (w:World) (cs:List Value) (o:Nat),w.ownsRow base e sz (.slice (some ⟨g,0,none⟩) n cap) n cs→
  (w.setCells g o news).ownsRow base e sz (.slice (some ⟨g,0,none⟩) n cap) n (setL cs o news)∧w.grownBy (w.setCells g o news) (some g)
 |[],w,cs,o,h=>⟨h,⟨rfl,rfl,rfl,Nat.le_refl _,fun _ _ _=>rfl⟩⟩
 |v::r,w,cs,o,h=>by
  obtain ⟨h1,h2⟩:=h.stored o v
  obtain ⟨h3,h4⟩:=own_setCells r (w.setCell ⟨g,o,none⟩ v) (cs.set o v) (o+1) h1
  exact ⟨h3,h4.os.trans h2.os,h4.tape.trans h2.tape,h4.output.trans h2.output,Nat.le_trans h2.size h4.size,fun k hk hne=>(h4.block k (Nat.lt_of_lt_of_le hk h2.size) hne).trans (h2.block k hk hne)⟩
theorem own_take {w:World} {base:Nat} {e:TypeId} {sz g n cap:Nat} {cs:List Value} (h:w.ownsRow base e sz (.slice (some ⟨g,0,none⟩) n cap) n cs) (m:Nat) (hm:m≤n):w.ownsRow base e sz (.slice (some ⟨g,0,none⟩) m cap) m (cs.take (m*sz)):=by
 obtain ⟨hl,h⟩:=h
 have hle:m*sz≤n*sz:=Nat.mul_le_mul_right _ hm
 refine ⟨by rw[List.length_take];omega, ?_⟩
 rcases h with ⟨h,_⟩|⟨g',cap',cur,he,hb,hg,hc,hx,hs,ht⟩
 ·simp at h
 ·simp at he
  obtain ⟨rfl,rfl⟩:=he
  refine Or.inr ⟨g,cap,cur,rfl,hb,hg,by omega,hx,hs, ?_⟩
  rw[←ht,List.take_take,Nat.min_eq_left hle]
theorem uFr:Tryz.prog.underlying 65=some (.slice (Tryz.prog.elem 65)):=by kernel_rfl
theorem eFr:Tryz.prog.elem 65=122:=by kernel_rfl
theorem zFr (w:World):(sizeOf (Tryz.prog.elem 65)).run Tryz.prog w= .ok 6 w:=by rw[eFr];exact Tryz.sizeOf122 w
theorem idx_fr (g m cap n:Nat) (h:n < m):∀w',(Instr.indexAt 65 (.slice (some ⟨g,0,none⟩) m cap) (.int .i64 (n:Int))).run Tryz.prog w'= .ok (.pointer (some ⟨g,n*6,none⟩)) w':=by
 intro w'
 rw[run_indexAt_slice (h:=uFr),if_pos ⟨by omega,by omega⟩,zFr]
 simp only[Result.andThen,Int.toNat_natCast]
 congr 3
 unfold Addr.add
 split
 ·rename_i hz;rw[hz]
 ·simp
theorem fmR_flat (fs:List Fm):(fmR fs).flatten.length=fs.length*6:=by
 induction fs with
 |nil=>rfl
 |cons f fs ih=>rw[fmR_cons,List.flatten_append,List.length_append,ih];simp[fmC_len];omega
theorem RunL.jump {B:Nat} {D:Nat→Prop} {w:World} {q:Nat} {s b:Sv} {bs wd at_:Int} {fs:List Fm} {nxt fuel thr:Int} {g cap:Nat} (h:RunL B D w q s b (.slice (some ⟨g,0,none⟩) (fs.length+1) cap) (.colon bs wd at_::fs) nxt fuel thr) (n:Int):
  RunL B D (w.setCell ⟨g,fs.length*6+3,none⟩ (.int .i64 n)) q s b (.slice (some ⟨g,0,none⟩) (fs.length+1) cap) (.colon bs wd n::fs) nxt fuel thr∧Below B w (w.setCell ⟨g,fs.length*6+3,none⟩ (.int .i64 n))∧Agr kR D w (w.setCell ⟨g,fs.length*6+3,none⟩ (.int .i64 n)):=by
 have o:=h.fr
 obtain ⟨o2,hg⟩:=own_setCells [Value.int .i64 n] w _ (fs.length*6+3) o
 have e1:w.setCells g (fs.length*6+3) [Value.int .i64 n]=w.setCell ⟨g,fs.length*6+3,none⟩ (.int .i64 n):=rfl
 rw[e1] at o2 hg
 have k:=Kept.own o hg
 have a1:Agr kR D w (w.setCell ⟨g,fs.length*6+3,none⟩ (.int .i64 n)):=Agr.kept k rfl
 have bel:Below B w (w.setCell ⟨g,fs.length*6+3,none⟩ (.int .i64 n)):=(Below.refl B w).grown hg h.hB (fun j hj=>(o.lt j hj).1)
 refine ⟨⟨stands_kept k (by decide) h.st,h.hs.agr a1,h.wd.kept k a1 (by decide),h.ins.kept k a1 (by decide),h.hb.agr a1,h.bw,h.bi, ?_,h.hq,Nat.le_trans h.hB bel.size,fun j hj=>⟨(h.hD j hj).1,Nat.lt_of_lt_of_le (h.hD j hj).2 bel.size⟩,fun w2 b2=>h.tab w2 (Below.trans bel b2)⟩,bel,a1⟩
 have e2:setL (fmR (.colon bs wd at_::fs)).flatten (fs.length*6+3) [Value.int .i64 n]=(fmR (.colon bs wd n::fs)).flatten:=by
  have hl:=fmR_flat fs
  rw[fmR_cons,fmR_cons,List.flatten_append,List.flatten_append]
  show ((fmR fs).flatten++_).set (fs.length*6+3) _=_
  rw[List.set_append_right _ _ (by omega),hl]
  simp[fmC]
 rw[e2] at o2
 exact o2
set_option maxHeartbeats 1000000 in
theorem w_jump {B:Nat} {D:Nat→Prop} {w:World} {q:Nat} {s b:Sv} {vf:Value} {bs wd at_:Int} {fs:List Fm} {nxt fuel thr:Int} (h:RunL B D w q s b vf (.colon bs wd at_::fs) nxt fuel thr) (hl:fs.length≤1000000) (n:Int) (hn:0≤n∧n < 4294967296):
  Calls Tryz.prog 127 #[.pointer (some ⟨q,0,none⟩), .int .u32 n] w fun e w'=>e= .returned (.tuple #[])∧RunL B D w' q s b vf (.colon bs wd n::fs) nxt fuel thr∧Below B w w'∧Agr kR D w w':=by
 obtain ⟨g,cap,hv,hc,hf,hg⟩:=h.top
 have kc:=hc 3 _ rfl
 have kf:=hf (fs.length*6+3)
 have hix:=idx_fr g (fs.length+1) cap fs.length (by omega)
 rw[←hv] at hix
 obtain ⟨LN,hLN⟩:∃n:Int,((fs.length+1:Nat):Int)=n:=⟨_,rfl⟩
 have hlen:∀ty w',(Builtin.len_ #[65] ty #[vf]).run Tryz.prog w'= .ok (.int .i64 LN) w':=fun ty w'=>by
  rw[hv,←hLN]
  simp[Builtin.len_,run_underlying uFr,goInt]
 obtain ⟨O,hO⟩:∃n,fs.length*6+3=n:=⟨_,rfl⟩
 obtain ⟨O6,hO6⟩:∃n,fs.length*6=n:=⟨_,rfl⟩
 have hw1:IntKind.i64.wrap n=n:=by rw[IntKind.wrap_i64];omega
 have hw2:IntKind.i64.wrap (LN - 1)=fs.length:=by rw[IntKind.wrap_i64];omega
 have hd:Below w.heap.size w w.drew:=below_drewN (Below.refl _ _) 1
 have h1:=h.below hd
 have P:Hid (RunL B D (w.drew.setCell ⟨g,fs.length*6+3,none⟩ (.int .i64 n)) q s b vf (.colon bs wd n::fs) nxt fuel thr∧Below B w.drew (w.drew.setCell ⟨g,fs.length*6+3,none⟩ (.int .i64 n))∧Agr kR D w.drew (w.drew.setCell ⟨g,fs.length*6+3,none⟩ (.int .i64 n))):=by
  subst hv
  exact h1.jump n
 have K1:Hid (w.drew.cell? ⟨q,22,none⟩=some vf):=hid h1.c22
 have K2:Hid ((w.drew.setCell ⟨g,fs.length*6+3,none⟩ (.int .i64 n)).cell? ⟨q,22,none⟩=some vf):=hid P.out.1.c22
 have L1:=hid (h.low (gb_of hd))
 have A1:Hid (Agr kR D w w.drew):=hid (Agr.below hd)
 clear h h1 hc hf hd hv hLN hO hO6 O O6
 go_enter Tryz.func127,Tryz.ntmps127
 go_wp2_with fail
 go_region_held2 (fun W=>W.cell? ⟨q,22,none⟩=some vf) (first|with_reducible exact K1.out|exact K2.out) (fail)
 go_wp2_with fail
 go_end0
 exact ⟨rfl,P.out.1,Below.trans L1.out P.out.2.1,A1.out.trans P.out.2.2⟩
end Go.Proofs.YtbamcchghecpeaaGreatDoor
namespace Go.Proofs.YtbamcchghecpeaaGreatDoor.Stk
theorem fits_ok (out x:List Int) (h:fits out=(x,0)):out=x∧out.length≤64:=by
 unfold fits at h
 by_cases c:64 < out.length
 ·rw[if_pos c] at h;simp at h
 ·rw[if_neg c] at h;simp at h;exact ⟨h,by omega⟩
theorem fits_le (out:List Int) (h:out.length≤64):fits out=(out,0):=by unfold fits;rw[if_neg (by omega)]
theorem pickL_up (b l:List Int) (p:Nat) (ls:List Int):pickL (b++l) (b.length+p) ls=pickL l p ls:=by
 unfold pickL
 apply List.map_congr_left
 intro c _
 rw[List.getD_eq_getElem?_getD,List.getD_eq_getElem?_getD,List.getElem?_append_right (by omega)]
 congr 2
 omega
theorem fits_len (l:List Int):(fits l).1.length≤64:=by
 unfold fits;split
 ·simp
 ·simp;omega
theorem doF_len (op:Int) (l x:List Int) (h:doF op l=(x,0)):x.length≤64:=by
 have e:(doF op l).1=x:=by rw[h]
 rw[←e]
 unfold doF doT doQ doP doR
 repeat' first|exact fits_len _|exact Nat.zero_le _|split
def cells (l:List Int):Prop:=∀x∈l,0≤x∧x < 4294967296
theorem cells_getD (l:List Int) (h:cells l) (i:Nat):0≤l.getD i 0∧l.getD i 0 < 4294967296:=by
 rw[List.getD_eq_getElem?_getD]
 rcases Nat.lt_or_ge i l.length with hi|hi
 ·rw[List.getElem?_eq_getElem hi];exact h _ (List.getElem_mem _)
 ·rw[List.getElem?_eq_none hi];decide
theorem cells_app {a b:List Int} (h:cells a) (g:cells b):cells (a++b):=by
 intro x hx
 rw[List.mem_append] at hx
 rcases hx with hx|hx
 ·exact h x hx
 ·exact g x hx
theorem cells_take {a:List Int} (h:cells a) (n:Nat):cells (a.take n):=fun x hx=>h x (List.mem_of_mem_take hx)
theorem cells_drop {a:List Int} (h:cells a) (n:Nat):cells (a.drop n):=fun x hx=>h x (List.mem_of_mem_drop hx)
theorem cells_one {y:Int} (h:0≤y∧y < 4294967296):cells [y]:=by intro x hx;simp at hx;subst hx;exact h
theorem cells_nil:cells []:=by intro x hx;simp at hx
theorem cells_pick {l:List Int} (h:cells l) (p:Nat) (ls:List Int):cells (pickL l p ls):=by
 intro x hx
 unfold pickL at hx
 rw[List.mem_map] at hx
 obtain ⟨c,_,rfl⟩:=hx
 exact cells_getD l h _
theorem cells_fits {l:List Int} (h:cells l):cells (fits l).1:=by
 unfold fits;split
 ·exact cells_nil
 ·exact h
theorem cells_do (op:Int) (l:List Int) (h:cells l):cells (doF op l).1:=by
 unfold doF
 by_cases hl:64 < l.length
 ·rw[if_pos hl];exact cells_nil
 rw[if_neg hl]
 by_cases ht:isT op=true
 ·rw[if_pos ht];unfold doT
  split
  ·exact cells_nil
  ·exact cells_fits (cells_app (cells_take h _) (cells_pick h _ _))
 rw[if_neg ht]
 by_cases h80:op=80
 ·rw[if_pos h80];unfold doQ
  split
  ·exact cells_nil
  ·refine cells_fits (cells_app h ?_)
   split
   ·exact cells_nil
   ·exact cells_one (cells_getD l h _)
 rw[if_neg h80]
 by_cases h81:op=81
 ·rw[if_pos h81];exact cells_fits (cells_app h (cells_one (by omega)))
 rw[if_neg h81]
 by_cases h78:op=78
 ·rw[if_pos h78];unfold doP
  split
  ·exact cells_nil
  ·exact cells_fits (cells_app (cells_take h _) (cells_one (cells_getD l h _)))
 rw[if_neg h78]
 by_cases h79:op=79
 ·rw[if_pos h79];unfold doR
  split
  ·exact cells_nil
  ·exact cells_fits (cells_app (cells_app (cells_take h _) (cells_take (cells_drop h _) _)) (cells_one (cells_getD l h _)))
 rw[if_neg h79];exact cells_nil
theorem doT_at (p q:List Int) (ls:List Int):doT (p++q) (q.length:Int) ls=fits (p++pickL q 0 ls):=by
 unfold doT
 rw[if_neg (by simp;omega)]
 have e:(p++q).length - ((q.length:Int)).toNat=p.length:=by simp
 rw[e]
 have e2:(p++q).take p.length=p:=by simp
 have e3:=pickL_up p q 0 ls
 rw[Nat.add_zero] at e3
 rw[e2,e3]
theorem doF_at (op:Int) (p q:List Int) (h:isT op=true) (hq:(q.length:Int)=effT op) (hl:(p++q).length≤64):doF op (p++q)=fits (p++pickL q 0 (LB (effS op))):=by
 unfold doF
 rw[if_neg (by omega),if_pos h,←hq,doT_at]
theorem step (op:Int) (p q r:List Int) (h:isT op=true) (hq:(q.length:Int)=effT op) (hr:pickL q 0 (LB (effS op))=r) (hl:(p++q).length≤64) (hl2:(p++r).length≤64):doF op (p++q)=(p++r,0):=by
 rw[doF_at op p q h hq hl,hr,fits_le _ hl2]
end Go.Proofs.YtbamcchghecpeaaGreatDoor.Stk
namespace Go.Proofs.YtbamcchghecpeaaGreatDoor
structure Gd (s:Rs) (x:Rs×Int):Prop where
 sp:Spr s x.1
 slf:x.1.m.self=s.m.self
 er:Er x.2
 no:¬x.2=0→x.1.m=s.m∧x.1.ret=s.ret
theorem Gd.err {s:Rs} (h:Okr s) {e:Int} (he:Er e):Gd s (s,e):=⟨Spr.refl h,rfl,he,fun _=>⟨rfl,rfl⟩⟩
theorem Gd.swp {s:Rs} (h:Okr s) (k:Nat) {l:List Int} (hl:cells l):Gd s (iSwp s k l):=by
 refine ⟨iSwp_sp h k hl, ?_,iSwp_er _ _ _, ?_⟩
 ·unfold iSwp;split
  ·rfl
  ·split <;> rfl
 ·unfold iSwp;split
  ·intro _;exact ⟨rfl,rfl⟩
  ·split
   ·intro _;exact ⟨rfl,rfl⟩
   ·intro h;exact absurd rfl h
theorem Gd.swp' {s r:Rs} (h:Spr s r) (hs:r.m.self=s.m.self) (hst:r.m.stack=s.m.stack) (k:Nat) (hk:k≤s.m.stack.length) (h64:s.m.stack.length≤64) {l:List Int} (hl:cells l) (hn:l.length≤k):Gd s (iSwp r k l):=by
 have a:¬r.m.stack.length < k:=by rw[hst];omega
 have b:¬64 < r.m.stack.length - k+l.length:=by rw[hst];omega
 refine ⟨h.trans (iSwp_sp h.ok k hl), ?_,iSwp_er _ _ _, ?_⟩
 ·unfold iSwp;rw[if_neg a,if_neg b];exact hs
 ·unfold iSwp;rw[if_neg a,if_neg b];intro h;exact absurd rfl h
theorem Gd.wth {s:Rs} (h:Okr s) (k:Nat) {f:List Int→Rs×Int} (g:k≤s.m.stack.length→∀l,cells l→l.length=k→Gd s (f l)):Gd s (iWith s k f):=by
 unfold iWith
 split
 ·exact Gd.err h (iTop_er s k)
 ·rename_i c
  have c':k≤s.m.stack.length:=by
   unfold iTop at c
   split at c
   ·simp at c
   ·omega
  refine g c' _ (iTop_c h.ran k) ?_
  unfold iTop
  rw[if_neg (by omega)]
  simp
  omega
theorem Gd.ite {s:Rs} {p:Prop} [Decidable p] {x y:Rs×Int} (hx:p→Gd s x) (hy:¬p→Gd s y):Gd s (if p then x else y):=by
 by_cases h:p
 ·rw[if_pos h];exact hx h
 ·rw[if_neg h];exact hy h
theorem h64_of {s:Rs} (h:Okr s):s.m.stack.length≤64:=(frm_parts h.frm).1
theorem sp_mem {s:Rs} (h:Okr s) {m:List Int} (hb:bytesL m) (hl:m.length≤4096):Spr s {s with m:={s.m with mem:=m}}:=by
 refine ⟨⟨?_,⟨{h.ran.m with mem:=hb,memZ:=(by simp only;omega)},h.ran.ret,h.ran.retL,h.ran.n0,h.ran.n1⟩⟩,rfl,rfl⟩
 have hf:=h.frm
 unfold frmM at hf ⊢
 simp only[Bool.and_eq_true,decide_eq_true_eq] at hf ⊢
 exact ⟨⟨hf.1.1,hl,hf.1.2.2⟩,hf.2⟩
theorem sp_out {s:Rs} (h:Okr s) {m:List Int} (hb:bytesL m) (hl:m.length≤1024):Spr s {s with m:={s.m with out:=m}}:=by
 refine ⟨⟨?_,⟨{h.ran.m with out:=hb,outZ:=(by simp only;omega)},h.ran.ret,h.ran.retL,h.ran.n0,h.ran.n1⟩⟩,rfl,rfl⟩
 have hf:=h.frm
 unfold frmM at hf ⊢
 simp only[Bool.and_eq_true,decide_eq_true_eq] at hf ⊢
 exact ⟨⟨hf.1.1,hf.1.2.1,hf.1.2.2.1,hf.1.2.2.2.1,hl⟩,hf.2⟩
theorem sp_base {s:Rs} (h:Okr s) {b:Int} (h0:2≤b) (h1:b≤36):Spr s {s with m:={s.m with base:=b}}:=by
 refine ⟨⟨?_,⟨{h.ran.m with base:=(by simp only;omega)},h.ran.ret,h.ran.retL,h.ran.n0,h.ran.n1⟩⟩,rfl,rfl⟩
 have hf:=h.frm
 unfold frmM at hf ⊢
 simp only[Bool.and_eq_true,decide_eq_true_eq] at hf ⊢
 exact ⟨⟨hf.1.1,hf.1.2.1,h0,h1,hf.1.2.2.2.2⟩,hf.2⟩
theorem sp_n {s:Rs} (h:Okr s) {n:Int} (h0:0≤n) (h1:n < 4294967296):Spr s {s with n:=n}:=
 ⟨⟨h.frm,⟨h.ran.m,h.ran.ret,h.ran.retL,h0,h1⟩⟩,rfl,rfl⟩
theorem ins_tree {l:List Iz} {t t':List Nd} (h:insF l t=true) (hl:t.length≤t'.length) (hc:∀i,i < t.length→(t'.getD i ([],[],0,[],[])).2.2.2.2.length=(t.getD i ([],[],0,[],[])).2.2.2.2.length):insF l t'=true:=by
 unfold insF at h ⊢
 simp only[Bool.and_eq_true,decide_eq_true_eq,List.all_eq_true] at h ⊢
 obtain ⟨h1,h2,h3⟩:=h
 refine ⟨h1,fun x hx=> ?_,h3⟩
 have q:=h2 x hx
 unfold okI at q ⊢
 by_cases e:x.1= -1
 ·rw[if_pos e] at q ⊢;exact q
 ·rw[if_neg e] at q ⊢
  simp only[Bool.and_eq_true,decide_eq_true_eq] at q ⊢
  obtain ⟨⟨q1,q1'⟩,q2,q3⟩:=q
  exact ⟨⟨q1,by omega⟩,by rw[hc _ (by omega)];exact q2,q3⟩
theorem wof_tree {w:Wd} {n:Int} {t t':List Nd} (h:wofF w n t=true) (hl:t.length≤t'.length) (hc:∀i,i < t.length→(t'.getD i ([],[],0,[],[])).2.2.2.2.length=(t.getD i ([],[],0,[],[])).2.2.2.2.length):wofF w n t'=true:=by
 unfold wofF at h ⊢
 simp only[Bool.and_eq_true,decide_eq_true_eq] at h ⊢
 obtain ⟨h1,h2,h3,h4⟩:=h
 refine ⟨h1,h2,⟨h3.1,by omega⟩, ?_⟩
 split
 ·rename_i e;rw[if_pos e] at h4;exact h4
 ·rename_i e;rw[if_neg e] at h4
  simp only[Bool.and_eq_true,decide_eq_true_eq] at h4 ⊢
  refine ⟨h4.1,fun e7=> ?_,h4.2.2⟩
  have:=h4.2.1 e7
  rw[hc _ (by omega)]
  exact this
theorem sp_tree {s:Rs} (h:Okr s) {t:List Nd} {nd:Int} (hf:frmT t=true) (hg:goodT t) (hl:s.m.tree.length≤t.length) (hc:∀i,i < s.m.tree.length→(t.getD i ([],[],0,[],[])).2.2.2.2.length=(s.m.tree.getD i ([],[],0,[],[])).2.2.2.2.length) (hn: -1≤nd∧nd < t.length):Spr s {s with m:={s.m with tree:=t,node:=nd}}:=by
 have h32:t.length≤32:=by
  rw[frm_iff] at hf
  exact hf.2.1
 refine ⟨⟨?_,⟨{h.ran.m with tree:=hg,treeZ:=(by simp only;omega),node:=wf64 (by simp only;omega) (by simp only;omega)},h.ran.ret,h.ran.retL,h.ran.n0,h.ran.n1⟩⟩,rfl,rfl⟩
 have hm:=h.frm
 unfold frmM at hm ⊢
 simp only[Bool.and_eq_true,Bool.or_eq_true,decide_eq_true_eq] at hm ⊢
 obtain ⟨a1,a2,a3,a4,a5,a6,a7⟩:=hm
 refine ⟨a1,hf,hn,ins_tree a4 hl hc,a5, ?_,a7⟩
 unfold wdsF at a6 ⊢
 simp only[Bool.and_eq_true,decide_eq_true_eq,List.all_eq_true] at a6 ⊢
 exact ⟨a6.1,a6.2.1,fun x hx=>wof_tree (a6.2.2 x hx) hl hc⟩
theorem put_cel (t:List Nd) (n:Int) (l:List Pp) (i:Nat):((putN t n l).getD i ([],[],0,[],[])).2.2.2.2=(t.getD i ([],[],0,[],[])).2.2.2.2:=by
 unfold putN
 split
 ·rfl
 ·rename_i x hx
  simp only[List.getD_eq_getElem?_getD,List.getElem?_set]
  by_cases e:n.toNat=i
  ·subst e
   rw[hx]
   have:n.toNat < t.length:=(List.getElem?_eq_some_iff.1 hx).1
   simp[this]
  ·simp[e]
theorem bd_ite {p:Prop} [Decidable p] {x y:Int} (hx:p→0≤x∧x < 4294967296) (hy:¬p→0≤y∧y < 4294967296):0≤(if p then x else y)∧(if p then x else y) < 4294967296:=by
 by_cases h:p
 ·rw[if_pos h];exact hx h
 ·rw[if_neg h];exact hy h
theorem g_un (op a:Int) (h0:0≤a) (h1:a < 4294967296):0≤Cel.unX op a∧Cel.unX op a < 4294967296:=by
 unfold Cel.unX
 repeat' split
 all_goals omega
theorem g_dvQ (c a b:Int) (h0:0≤a) (h1:a < 4294967296) (g0:0≤b):0≤Cel.dvQ c a b∧Cel.dvQ c a b < 4294967296:=by
 unfold Cel.dvQ
 split
 ·omega
 ·split
  ·have h2:0≤a / b:=Int.ediv_nonneg h0 g0
   have h3:a / b≤a:=Int.ediv_le_self b h0
   omega
  ·omega
theorem g_dvR (c a b:Int) (h0:0≤a) (h1:a < 4294967296) (g0:0≤b) (g1:b < 4294967296):0≤Cel.dvR c a b∧Cel.dvR c a b < 4294967296:=by
 unfold Cel.dvR
 split
 ·omega
 ·split
  ·rename_i h
   have h2:0≤a%b:=Int.emod_nonneg a h.2
   have h3:a%b < b:=Int.emod_lt_of_pos a (by omega)
   omega
  ·omega
theorem g_bin (op a b:Int) (h0:0≤a) (h1:a < 4294967296) (g0:0≤b) (g1:b < 4294967296):0≤Cel.binX op a b∧Cel.binX op a b < 4294967296:=by
 have q1:=g_dvQ 42 a b h0 h1 g0
 have q2:=g_dvR 42 a b h0 h1 g0 g1
 have q3:=Cel.bw_and_lt a b h0 h1 g0 g1
 have q4:=Cel.bw_or_lt a b h0 h1 g0 g1
 have q5:=Cel.bw_xor_lt a b h0 h1 g0 g1
 have q6:=Cel.shl_bd a (min b.toNat 32)
 have q7:=Cel.shr_bd a (min b.toNat 32) h0 h1
 have q8:=Cel.sar_bd a (min b.toNat 32)
 have q9:=Cel.fl_bd
 simp only[show (2:Nat)^32=4294967296 from rfl] at q3 q4 q5
 unfold Cel.binX
 repeat' (refine bd_ite (fun _=> ?_) (fun _=> ?_))
 all_goals first|omega|exact q9 _
theorem g_db (c a0 a1 b0 b1:Int):(0≤Cel.dbL c a0 a1 b0 b1∧Cel.dbL c a0 a1 b0 b1 < 4294967296)∧(0≤Cel.dbH c a0 a1 b0 b1∧Cel.dbH c a0 a1 b0 b1 < 4294967296):=by
 have q:0≤Cel.dbN c a0 a1 b0 b1∧Cel.dbN c a0 a1 b0 b1 < 18446744073709551616:=by
  unfold Cel.dbN
  split
  ·exact Cel.wrap_u64_bd _
  ·split
   ·exact Cel.wrap_u64_bd _
   ·omega
 unfold Cel.dbL Cel.dbH
 generalize Cel.dbN c a0 a1 b0 b1=x at q
 omega
theorem g_jn (a b c d:Int):0≤Cel.jn a b c d∧Cel.jn a b c d < 4294967296:=by unfold Cel.jn;omega
theorem g_wi (c lo hi d:Int) (h0:0≤lo) (g0:0≤hi) (d0:0≤d):(0≤(iWi c lo hi d).1∧(iWi c lo hi d).1 < 4294967296)∧(0≤(iWi c lo hi d).2.1∧(iWi c lo hi d).2.1 < 4294967296)∧Er (iWi c lo hi d).2.2:=by
 have hN:0≤(hi*4294967296+lo) / d:=Int.ediv_nonneg (by omega) d0
 unfold iWi
 dsimp only
 generalize (hi*4294967296+lo) / d=x at hN ⊢
 generalize (hi*4294967296+lo)%d=y
 generalize (if hi < 2147483648 then hi*4294967296+lo else hi*4294967296+lo - 18446744073709551616)=M
 generalize M.tdiv (iS32 d)=z1
 generalize M.tmod (iS32 d)=z2
 generalize M.fdiv (iS32 d)=z3
 generalize M.fmod (iS32 d)=z4
 unfold Cel.fcQ Cel.fcR Cel.fcE Cel.fsQ Cel.fsR Cel.fsE Er
 repeat' split
 all_goals (dsimp only;omega)
theorem g_mul (a b:Int) (h0:0≤a) (h1:a < 4294967296) (g0:0≤b) (g1:b < 4294967296):0≤a*b / 4294967296∧a*b / 4294967296 < 4294967296:=by
 have p:0≤a*b:=Int.mul_nonneg h0 g0
 have q:a*b≤4294967295*4294967295:=Int.mul_le_mul (by omega) (by omega) g0 (by decide)
 generalize a*b=x at p q
 omega
theorem cells2 {x y:Int} (h:0≤x∧x < 4294967296) (g:0≤y∧y < 4294967296):cells [x,y]:=cells_cons' h (cells_one' g)
theorem g_ar {c:Int} {s:Rs} (h:Okr s) {r:Rs×Int} (e:iAr c s=some r):Gd s r:=by
 have hm:s.m.mem.length≤4096:=(frm_parts h.frm).2.1
 have G:∀l:List Int,cells l→∀i,0≤l.getD i 0∧l.getD i 0 < 4294967296:=fun l hl i=>cells_get' hl i
 unfold iAr at e
 repeat' split at e
 all_goals try (cases e;done)
 all_goals cases e
 ·exact Gd.wth h 1 fun _ l hl _=>Gd.swp h 1 (cells_one' (g_un _ _ (G l hl 0).1 (G l hl 0).2))
 ·refine Gd.wth h 2 fun _ l hl _=>Gd.ite (fun hne=>Gd.err h ?_) fun _=>Gd.swp h 2 (cells_one' (g_bin _ _ _ (G l hl 0).1 (G l hl 0).2 (G l hl 1).1 (G l hl 1).2))
  unfold Cel.binE Er
  repeat' split
  all_goals omega
 ·refine Gd.wth h 2 fun _ l hl _=>Gd.swp h 2 (cells2 (by omega) (g_mul _ _ (G l hl 0).1 (G l hl 0).2 (G l hl 1).1 (G l hl 1).2))
 ·refine Gd.wth h 2 fun _ l hl _=>Gd.ite (fun hne=>Gd.err h ?_) fun _=>Gd.swp h 2 (cells2 (g_dvR _ _ _ (G l hl 0).1 (G l hl 0).2 (G l hl 1).1 (G l hl 1).2) (g_dvQ _ _ _ (G l hl 0).1 (G l hl 0).2 (G l hl 1).1))
  unfold Cel.dvE Er
  repeat' split
  all_goals omega
 ·refine Gd.wth h 3 fun _ l hl _=> ?_
  have q:=g_wi c (l.getD 0 0) (l.getD 1 0) (l.getD 2 0) (G l hl 0).1 (G l hl 1).1 (G l hl 2).1
  exact Gd.ite (fun hne=>Gd.err h q.2.2) fun _=>Gd.swp h 3 (cells2 q.2.1 q.1)
 ·refine Gd.wth h 4 fun _ l hl _=>Gd.swp h 4 (cells2 (g_db _ _ _ _ _).1 (g_db _ _ _ _ _).2)
 ·refine Gd.wth h 1 fun _ l hl _=> ?_
  have q:=G l hl 0
  exact Gd.swp h 1 (cells_cons' (by omega) (cells_cons' (by omega) (cells2 (by omega) (by omega))))
 ·exact Gd.wth h 4 fun _ l hl _=>Gd.swp h 4 (cells_one' (g_jn _ _ _ _))
 ·exact Gd.swp h 0 (cells_one' (by omega))
 ·exact Gd.swp h 0 (cells_one' (by omega))
 ·exact Gd.swp h 0 (cells_one' (by omega))
theorem g_ret (c:Int) {s:Rs} (h:Okr s):Gd s (iRet c s):=by
 have hr:=h.ran.retL
 have hc:=h.ran.ret
 unfold iRet
 dsimp only
 refine Gd.ite (fun _=>Gd.wth h 1 fun hk l hl hn=>Gd.ite (fun _=>Gd.err h ⟨by omega,by omega⟩) fun c1=> ?_) fun _=> ?_
 ·exact Gd.swp' ((Spr.refl h).ret _ (by simp;omega) (cells_app' hc (cells_one' (cells_get' hl 0)))) rfl rfl 1 hk (h64_of h) cells_nil' (by simp)
 refine Gd.ite (fun _=>Gd.ite (fun _=>Gd.err h ⟨by omega,by omega⟩) fun _=>Gd.swp h 0 (cells_one' (cells_get' hc _))) fun _=> ?_
 refine Gd.ite (fun _=>Gd.ite (fun _=>Gd.err h ⟨by omega,by omega⟩) fun _=> ?_) fun _=> ?_
 ·exact ⟨(Spr.refl h).ret _ (by simp;omega) (cells_take' hc _),rfl,⟨by simp,by simp⟩,fun e=>absurd rfl e⟩
 refine Gd.ite (fun _=>Gd.err h ⟨by omega,by omega⟩) fun _=> ?_
 have q:=Gd.swp h 0 (l:=[s.ret.getD (s.ret.length - 1) 0]) (cells_one' (cells_get' hc _))
 refine Gd.ite (fun _=> ?_) fun _=>q
 exact ⟨q.sp.ret _ (by simp;omega) (cells_take' hc _),q.slf,⟨by simp,by simp⟩,fun e=>absurd rfl e⟩
theorem g_be:∀(n:Nat) (l:List Int),l.length=n→bytesL l→0≤beV l∧beV l < 256^n:=by
 intro n
 induction n with
 |zero=>
  intro l h _
  rw[List.eq_nil_of_length_eq_zero h]
  simp[beV]
 |succ n ih=>
  intro l h hb
  have hne:l≠[]:=by intro e;rw[e] at h;simp at h
  obtain ⟨i,x,rfl⟩:∃i x,l=i++[x]:=⟨l.dropLast,l.getLast hne,(List.dropLast_concat_getLast hne).symm⟩
  rw[beV_snoc]
  have q:=ih i (by simpa using h) (fun y hy=>hb y (by simp[hy]))
  have hx:=hb x (by simp)
  rw[Int.pow_succ]
  omega
theorem g_be4 (l:List Int) (h:l.length≤4) (hb:bytesL l):0≤beV l∧beV l < 4294967296:=by
 have q:=g_be l.length l rfl hb
 rcases (show l.length=0∨l.length=1∨l.length=2∨l.length=3∨l.length=4 by omega) with e|e|e|e|e <;> rw[e] at q <;> simp at q <;> omega
theorem g_wrong (L a s:Int):Er (wrongF L a s):=by
 unfold wrongF Er
 repeat' split
 all_goals omega
theorem g_fet (m:List Int) (a s:Int) (hb:bytesL m):(0≤(fetF m a s).1∧(fetF m a s).1 < 4294967296)∧Er (fetF m a s).2:=by
 unfold fetF
 split
 ·rename_i h
  have w:=wrong_ok h
  refine ⟨g_be4 _ ?_ (bytes_take (bytes_drop hb _) _),⟨by simp,by simp⟩⟩
  simp
  omega
 ·exact ⟨⟨by simp,by simp⟩,g_wrong _ _ _⟩
theorem g_sto (m:List Int) (a s v:Int) (hb:bytesL m) (ha:0≤a):bytesL (stoF m a s v).1∧(stoF m a s v).1.length≤m.length∧Er (stoF m a s v).2:=by
 refine ⟨sto_bytes hb _ _ _, ?_⟩
 unfold stoF
 split
 ·rename_i h
  have w:=wrong_ok h
  refine ⟨?_,⟨by simp,by simp⟩⟩
  simp[beB_len]
  omega
 ·exact ⟨by simp,g_wrong _ _ _⟩
theorem in_ok {L a n:Int} (h:inF L a n=true):a≤L∧n≤L - a:=by unfold inF at h;simpa using h
theorem g_put (m:List Int) (a:Int) (t:List Int) (hb:bytesL m) (ht:bytesL t) (ha:0≤a):bytesL (putF m a t).1∧(putF m a t).1.length≤m.length∧Er (putF m a t).2:=by
 refine ⟨put_bytes hb ht _, ?_⟩
 unfold putF
 split
 ·rename_i h
  have w:=in_ok h
  refine ⟨?_,⟨by simp,by simp⟩⟩
  simp
  omega
 ·exact ⟨by simp,⟨by simp,by simp⟩⟩
theorem g_mov (m:List Int) (f t n:Int) (hb:bytesL m) (h0:0≤t):bytesL (movF m f t n).1∧(movF m f t n).1.length≤m.length∧Er (movF m f t n).2:=by
 unfold movF
 split
 ·exact g_put m t _ hb (bytes_take (bytes_drop hb _) _) h0
 ·exact ⟨fun x hx=>by simp at hx,by simp,⟨by simp,by simp⟩⟩
theorem g_fil (m:List Int) (a n v:Int) (hb:bytesL m) (h0:0≤a) (n0:0≤n):bytesL (filF m a n v).1∧(filF m a n v).1.length≤m.length∧Er (filF m a n v).2:=by
 refine ⟨fil_bytes hb _ _ _, ?_⟩
 unfold filF
 split
 ·rename_i h
  have w:=in_ok h
  refine ⟨?_,⟨by simp,by simp⟩⟩
  simp
  omega
 ·exact ⟨by simp,⟨by simp,by simp⟩⟩
theorem g_all (m:List Int) (n:Int) (hb:bytesL m) (n0:0≤n):bytesL (allF m n).1∧(allF m n).1.length≤4096∧(0≤(allF m n).2.1∧(allF m n).2.1 < 4294967296)∧Er (allF m n).2.2:=by
 refine ⟨all_bytes hb _, ?_⟩
 unfold allF
 split
 ·exact ⟨by simp,⟨by simp,by simp⟩,⟨by simp,by simp⟩⟩
 ·split
  ·exact ⟨by simp,⟨by simp,by simp⟩,⟨by simp,by simp⟩⟩
  ·rename_i h1 h2
   have:(m.length:Int)≤allAt m.length:=by unfold allAt;omega
   refine ⟨?_,⟨?_, ?_⟩,⟨by simp,by simp⟩⟩
   ·simp
    omega
   ·dsimp only;omega
   ·dsimp only;omega
theorem g_cmp (m:List Int) (a b n:Int):(0≤(cmpF m a b n).1∧(cmpF m a b n).1 < 4294967296)∧Er (cmpF m a b n).2:=by
 unfold cmpF
 split
 ·refine ⟨?_,⟨by simp,by simp⟩⟩
  rcases cmp_vals ((m.drop a.toNat).take n.toNat) ((m.drop b.toNat).take n.toNat) with e|e|e <;> (dsimp only;omega)
 ·exact ⟨⟨by simp,by simp⟩,⟨by simp,by simp⟩⟩
theorem g_mm (c:Int) {m l:List Int} (hb:bytesL m) (hm:m.length≤4096) (hl:cells l):bytesL (iMm c m l).1∧(iMm c m l).1.length≤4096∧(0≤(iMm c m l).2.1∧(iMm c m l).2.1 < 4294967296)∧Er (iMm c m l).2.2:=by
 have a:=cells_get' hl 0
 have b:=cells_get' hl 1
 have d:=cells_get' hl 2
 have z:(0:Int)≤0∧(0:Int) < 4294967296:=by omega
 unfold iMm
 dsimp only
 split
 ·have q:=g_fet m (l.getD 0 0) (iSz c) hb
  exact ⟨hb,hm,q.1,q.2⟩
 ·split
  ·have q:=g_sto m (l.getD 1 0) (iSz c) (l.getD 0 0) hb b.1
   exact ⟨q.1,by dsimp only;omega,z,q.2.2⟩
  ·split
   ·have q:=g_fet m (l.getD 1 0) 4 hb
    split
    ·exact ⟨hb,hm,z,q.2⟩
    ·have p:=g_sto m (l.getD 1 0) 4 (((fetF m (l.getD 1 0) 4).1+l.getD 0 0)%4294967296) hb b.1
     exact ⟨p.1,by dsimp only;omega,z,p.2.2⟩
   ·split
    ·have q:=g_mov m (l.getD 0 0) (l.getD 1 0) (l.getD 2 0) hb b.1
     exact ⟨q.1,by dsimp only;omega,z,q.2.2⟩
    ·split
     ·have q:=g_fil m (l.getD 0 0) (l.getD 1 0) (l.getD 2 0) hb a.1 b.1
      exact ⟨q.1,by dsimp only;omega,z,q.2.2⟩
     ·split
      ·have q:=g_cmp m (l.getD 0 0) (l.getD 1 0) (l.getD 2 0)
       exact ⟨hb,hm,q.1,q.2⟩
      ·have q:=g_all m (l.getD 0 0) hb a.1
       exact ⟨q.1,q.2.1,q.2.2.1,q.2.2.2⟩
theorem g_mem (c:Int) {s:Rs} (h:Okr s):Gd s (iMem c s):=by
 have hm:s.m.mem.length≤4096:=(frm_parts h.frm).2.1
 have n1:1≤iMn c:=by
  unfold iMn;repeat' split
  all_goals omega
 refine Gd.wth h (iMn c) fun hk l hl hn=> ?_
 have q:=g_mm c (l:=l) h.ran.m.mem hm hl
 refine Gd.ite (fun _=>Gd.err h q.2.2.2) fun _=>Gd.swp' (sp_mem h q.1 q.2.1) rfl rfl (iMn c) hk (h64_of h) ?_ ?_
 ·split
  ·exact cells_one' q.2.2.1
  ·exact cells_nil'
 ·split
  ·simpa using n1
  ·simp
theorem g_shw {s:Rs} (h:Okr s) (k:Nat) {t:List Int} (ht:bytesL t):Gd s (iShw s k t):=by
 refine Gd.wth h k fun hk l hl hn=>Gd.ite (fun _=>Gd.err h ⟨by omega,by omega⟩) fun c=> ?_
 exact Gd.swp' (sp_out h (bytes_app h.ran.m.out ht) (by simp;omega)) rfl rfl k hk (h64_of h) cells_nil' (by simp)
theorem g_shwB {s:Rs} (h:Okr s) {b:Int} (b0:2≤b) (b1:b≤36) (hk:1≤s.m.stack.length):Gd s (iShw {s with m:={s.m with base:=b}} 1 []):=by
 have ho:s.m.out.length≤1024:=(frm_parts h.frm).2.2.1
 have n:¬s.m.stack.length < 1:=by omega
 have n2:¬1024 < s.m.out.length:=by omega
 have e:iShw {s with m:={s.m with base:=b}} 1 []=iSwp {s with m:={s.m with base:=b,out:=s.m.out++[]}} 1 []:=by
  unfold iShw iWith iTop
  simp[n,n2]
 rw[e]
 have sp:=sp_base h b0 b1
 have sp2:=sp_out sp.ok (m:=s.m.out++[]) (by simpa using h.ran.m.out) (by simpa using ho)
 exact Gd.swp' (sp.trans sp2) rfl rfl 1 hk (h64_of h) cells_nil' (by simp)
theorem g_sh (b n:Int) (b0:2≤b) (b1:b≤36) (h0:0≤n) (h1:n < 4294967296):bytesL (sh b n):=fun x hx=>by
 have:=(sh_all b n b0 b1 h0 h1).2.2.1 x hx
 exact ⟨this.1,this.2.1⟩
theorem g_sg (b n:Int) (b0:2≤b) (b1:b≤36) (h0:0≤n) (h1:n < 4294967296):bytesL (sg b n):=by
 unfold sg
 split
 ·exact g_sh b n b0 b1 h0 h1
 ·intro x hx
  rcases List.mem_cons.1 hx with rfl|hx
  ·omega
  ·exact g_sh b (4294967296 - n) b0 b1 (by omega) (by omega) x hx
theorem bytes1 {x:Int} (h:0≤x∧x < 256):bytesL [x]:=fun y hy=>by simp at hy;subst hy;exact h
theorem frm_base {m:Mc} (h:frmM m=true):2≤m.base∧m.base≤36:=by
 unfold frmM at h
 simp only[Bool.and_eq_true,decide_eq_true_eq] at h
 exact ⟨h.1.2.2.1,h.1.2.2.2.1⟩
theorem g_con (c:Int) {s:Rs} (h:Okr s):Gd s (iCon c s):=by
 have hb:=frm_base h.frm
 unfold iCon
 refine Gd.ite (fun _=>g_shw h 0 (bytes1 (by omega))) fun _=> ?_
 refine Gd.ite (fun _=>Gd.wth h 2 fun _ l hl _=>Gd.ite (fun _=>Gd.err h (tex_er _ _ _)) fun _=>g_shw h 2 (tex_bytes h.ran.m.mem _ _)) fun _=> ?_
 refine Gd.wth h 1 fun hk l hl _=> ?_
 have a:=cells_get' hl 0
 dsimp only
 refine Gd.ite (fun _=>g_shw h 1 (bytes1 (by omega))) fun _=> ?_
 refine Gd.ite (fun _=>g_shw h 1 (bytes_app (g_sh _ _ hb.1 hb.2 a.1 a.2) (bytes1 (by omega)))) fun _=> ?_
 refine Gd.ite (fun _=>g_shw h 1 (bytes_app (g_sg _ _ hb.1 hb.2 a.1 a.2) (bytes1 (by omega)))) fun _=> ?_
 refine Gd.ite (fun _=>Gd.err h ⟨by omega,by omega⟩) fun c1=> ?_
 exact g_shwB h (by omega) (by omega) hk
theorem g_lay {s:Rs} (h:Okr s) (k:Nat) {b more:List Int} (hb:bytesL b) (hm:cells more):Gd s (iLay s k b more):=by
 have q:=g_all s.m.mem b.length h.ran.m.mem (by omega)
 have p:=g_put (allF s.m.mem b.length).1 (allF s.m.mem b.length).2.1 b q.1 hb q.2.2.1.1
 unfold iLay
 dsimp only
 refine Gd.ite (fun _=>Gd.err h q.2.2.2) fun _=> ?_
 have g:=Gd.swp h k (l:=(allF s.m.mem b.length).2.1::more) (cells_cons' q.2.2.1 hm)
 refine Gd.ite (fun _=> ?_) fun _=>g
 refine ⟨g.sp.trans (sp_mem g.sp.ok p.1 (by omega)),g.slf,⟨by simp,by simp⟩,fun e=>absurd rfl e⟩
theorem g_set {s:Rs} (h:Okr s) {nm d:List Int} (h1:bytesL nm) (h2:nm.length≤maxLen) (h3:bytesL d) (hz:(setF s.m.tree s.m.node nm d).2=0):Spr s {s with m:={s.m with tree:=(setF s.m.tree s.m.node nm d).1}}:=by
 obtain ⟨w,_,_,_,e⟩:=set_ok hz
 have e1:(setF s.m.tree s.m.node nm d).1=putN s.m.tree s.m.node (setP (prpF s.m.tree s.m.node) nm d):=by rw[e]
 have hn:=wrg_ok w
 have q:=sp_tree h (nd:=s.m.node) (set_formed hz).1 (set_goodT h.ran.m.tree h1 h2 h3) (by rw[e1,put_len];exact Nat.le_refl _) (fun i _=>by rw[e1,put_cel]) ⟨by omega,by rw[e1,put_len];omega⟩
 exact q
theorem g_drp {s:Rs} (h:Okr s) {nm:List Int} (hz:(drpF s.m.tree s.m.node nm).2=0):Spr s {s with m:={s.m with tree:=(drpF s.m.tree s.m.node nm).1}}:=by
 have w:wrgF s.m.tree s.m.node=0:=by
  unfold drpF at hz
  by_cases c:wrgF s.m.tree s.m.node=0
  ·exact c
  ·rw[if_pos c] at hz;exact absurd hz c
 have e1:∃l,(drpF s.m.tree s.m.node nm).1=putN s.m.tree s.m.node l:=by
  unfold drpF at hz ⊢
  rw[if_neg (by simpa using w)] at hz ⊢
  split at hz
  ·simp at hz
  ·rename_i k hk
   exact ⟨drpP (prpF s.m.tree s.m.node) k,rfl⟩
 obtain ⟨l,e1⟩:=e1
 have hn:=wrg_ok w
 exact sp_tree h (nd:=s.m.node) (drp_formed hz).1 (drp_goodT h.ran.m.tree) (by rw[e1,put_len];exact Nat.le_refl _) (fun i _=>by rw[e1,put_cel]) ⟨by omega,by rw[e1,put_len];omega⟩
theorem g_wrg (t:List Nd) (n:Int):Er (wrgF t n):=by
 rcases wrg_err (t:=t) (n:=n) with e|e|e <;> rw[e] <;> exact ⟨by omega,by omega⟩
theorem g_setE (t:List Nd) (n:Int) (nm d:List Int):Er (setF t n nm d).2:=by
 have:=g_wrg t n
 unfold setF
 repeat' split
 all_goals first|exact this|exact ⟨by simp,by simp⟩
theorem g_drpE (t:List Nd) (n:Int) (nm:List Int):Er (drpF t n nm).2:=by
 have:=g_wrg t n
 unfold drpF
 repeat' split
 all_goals first|exact this|exact ⟨by simp,by simp⟩
theorem g_addE (t:List Nd) (p:Int) (nm un:List Int):Er (addF t p nm un).2.2:=by
 unfold addF
 repeat' split
 all_goals exact ⟨by simp,by simp⟩
theorem g_tex {s:Rs} (h:Okr s) (a n:Int):bytesL (texF s.m.mem a n).1∧(texF s.m.mem a n).1.length≤4096:=by
 refine ⟨tex_bytes h.ran.m.mem _ _, ?_⟩
 have hm:s.m.mem.length≤4096:=(frm_parts h.frm).2.1
 unfold texF
 split
 ·simp;omega
 ·simp
theorem max4096 {n:Nat} (h:n≤4096):n≤maxLen:=by unfold maxLen;omega
theorem g_get {s:Rs} (h:Okr s) (nm:List Int):bytesL (getF s.m.tree s.m.node nm).1∧(getF s.m.tree s.m.node nm).1.length < 4294967296:=by
 refine ⟨get_bytes h.ran.m.tree, ?_⟩
 unfold getF
 split
 ·simp
 ·rename_i w
  split
  ·simp
  ·rename_i k hk
   have hn:=wrg_ok (t:=s.m.tree) (n:=s.m.node) (by simpa using w)
   have p:=frm_props (n:=s.m.node) hn.1 hn.2.2
   obtain ⟨g,_,_⟩:=pf_some hk
   have q:=((okR_iff _).1 p.2).1 _ (List.getElem_mem g)
   rw[List.getD_eq_getElem?_getD,List.getElem?_eq_getElem g]
   simp only[Option.getD_some]
   omega
theorem g_prp (c:Int) {s:Rs} (h:Okr s):Gd s (iPrp c s):=by
 unfold iPrp
 dsimp only
 by_cases c1:c=272
 ·rw[if_pos c1]
  refine Gd.wth h 4 fun hk l hl _=>Gd.ite (fun _=>Gd.err h ⟨by omega,by omega⟩) fun _=>Gd.ite (fun _=>Gd.err h (tex_er _ _ _)) fun _=> ?_
  rw[if_pos c1]
  refine Gd.ite (fun _=>Gd.err h (tex_er _ _ _)) fun _=>Gd.ite (fun _=>Gd.err h (g_setE _ _ _ _)) fun hz=> ?_
  exact Gd.swp' (g_set h (g_tex h _ _).1 (max4096 (g_tex h _ _).2) (g_tex h _ _).1 (by simpa using hz)) rfl rfl 4 hk (h64_of h) cells_nil' (by simp)
 ·rw[if_neg c1]
  refine Gd.wth h 2 fun hk l hl _=>Gd.ite (fun _=>Gd.err h ⟨by omega,by omega⟩) fun _=>Gd.ite (fun _=>Gd.err h (tex_er _ _ _)) fun _=> ?_
  rw[if_neg c1]
  refine Gd.ite (fun _=>Gd.ite (fun _=>Gd.err h (g_drpE _ _ _)) fun hz=> ?_) fun _=> ?_
  ·exact Gd.swp' (g_drp h (by simpa using hz)) rfl rfl 2 hk (h64_of h) cells_nil' (by simp)
  ·have q:=g_get h (texF s.m.mem (l.getD (2 - 2) 0) (l.getD (2 - 1) 0)).1
   exact Gd.ite (fun _=>Gd.swp h 2 (cells_one' (by omega))) fun _=>g_lay h 2 q.1 (cells2 (by omega) (by omega))
theorem g_chd {s:Rs} (h:Okr s):Gd s (iChd s):=by
 unfold iChd
 refine Gd.wth h 3 fun _ l hl _=>Gd.ite (fun _=>Gd.err h ⟨by omega,by omega⟩) fun _=> ?_
 dsimp only
 refine Gd.wth h _ fun hk all ha _=>Gd.ite (fun _=>Gd.err h (tex_er _ _ _)) fun _=>Gd.ite (fun _=>Gd.err h (g_addE _ _ _ _)) fun hz=> ?_
 have hz':(addF s.m.tree (max 0 s.m.node) (texF s.m.mem (l.getD 1 0) (l.getD 2 0)).1 (all.take (l.getD 0 0).toNat)).2.2=0:=by simpa using hz
 have gt:=add_goodT (p:=max 0 s.m.node) (nm:=(texF s.m.mem (l.getD 1 0) (l.getD 2 0)).1) (un:=all.take (l.getD 0 0).toNat) h.ran.m.tree (g_tex h _ _).1 (max4096 (g_tex h _ _).2) (cells_take' ha _)
 have ft:=add_formed _ _ _ _ hz'
 have e:∃x,x.2.2.2.2=[]∧(addF s.m.tree (max 0 s.m.node) (texF s.m.mem (l.getD 1 0) (l.getD 2 0)).1 (all.take (l.getD 0 0).toNat)).1=s.m.tree++[x]∧(addF s.m.tree (max 0 s.m.node) (texF s.m.mem (l.getD 1 0) (l.getD 2 0)).1 (all.take (l.getD 0 0).toNat)).2.1=s.m.tree.length:=by
  clear gt ft
  unfold addF at hz' ⊢
  repeat' split at hz'
  all_goals try (simp at hz';done)
  rename_i c1 c2 c3 c4 c5
  rw[if_neg c1,if_neg c2,if_neg c3,if_neg c4,if_neg c5]
  exact ⟨((texF s.m.mem (l.getD 1 0) (l.getD 2 0)).1,all.take (l.getD 0 0).toNat,max 0 s.m.node,[],[]),rfl,rfl,rfl⟩
 obtain ⟨x,ex,e1,e2⟩:=e
 refine Gd.swp' (sp_tree h ft gt (by rw[e1];simp) (fun i hi=> ?_) (by rw[e1,e2];simp;omega)) rfl rfl _ hk (h64_of h) cells_nil' (by simp)
 rw[e1,List.getD_eq_getElem?_getD,List.getElem?_append_left hi,←List.getD_eq_getElem?_getD]
theorem g_end {s:Rs} (h:Okr s) (hn:¬s.m.node < 0):Spr s {s with m:={s.m with node:=(s.m.tree.getD s.m.node.toNat ([],[],0,[],[])).2.2.1}}:=by
 have hf:=h.frm
 unfold frmM at hf
 simp only[Bool.and_eq_true,decide_eq_true_eq] at hf
 have hk:s.m.node.toNat < s.m.tree.length:=by have:=hf.2.2.1;omega
 have ft:=hf.2.1
 have p: -1≤(s.m.tree.getD s.m.node.toNat ([],[],0,[],[])).2.2.1∧(s.m.tree.getD s.m.node.toNat ([],[],0,[],[])).2.2.1 < s.m.tree.length:=by
  rw[List.getD_eq_getElem?_getD,List.getElem?_eq_getElem hk]
  simp only[Option.getD_some]
  by_cases z:s.m.node.toNat=0
  ·have:=(frm_iff _).1 ft
   obtain ⟨h1,h2,h3,h4⟩:=this
   unfold rootF at h3
   simp only[Bool.and_eq_true,decide_eq_true_eq] at h3
   simp only[z]
   rw[h3.2.2]
   omega
  ·have:=frm_at ft hk z
   omega
 exact sp_tree h (nd:=(s.m.tree.getD s.m.node.toNat ([],[],0,[],[])).2.2.1) ft h.ran.m.tree (Nat.le_refl _) (fun _ _=>rfl) p
theorem g_ent {t:List Int} (h:bytesL t) (hl:t.length≤4096):bytesL (enTF t).1∧(enTF t).1.length < 4294967296∧Er (enTF t).2:=by
 unfold enTF
 split
 ·exact ⟨fun x hx=>by simp at hx,by simp,⟨by simp,by simp⟩⟩
 ·split
  ·exact ⟨fun x hx=>by simp at hx,by simp,⟨by simp,by simp⟩⟩
  ·exact ⟨bytes_app h (bytes1 (by omega)),by simp;omega,⟨by simp,by simp⟩⟩
theorem g_deI {t:List Int} (h:bytesL t):(0≤(deIF t).1∧(deIF t).1 < 4294967296)∧Er (deIF t).2.2:=by
 unfold deIF
 split
 ·exact ⟨⟨by simp,by simp⟩,⟨by simp,by simp⟩⟩
 ·exact ⟨g_be4 _ (by simp;omega) (bytes_take h _),⟨by simp,by simp⟩⟩
theorem g_spl (d:Int):∀(l cur:List Int),∀p∈spl d cur l,p.length≤cur.length+l.length
 |[],cur,p,hp=>by simp[spl] at hp;subst hp;simp
 |c::r,cur,p,hp=>by
  unfold spl at hp
  split at hp
  ·rcases List.mem_cons.1 hp with rfl|hp
   ·simp
   ·have:=g_spl d r [] p hp
    simp at this ⊢
    omega
  ·have:=g_spl d r _ p hp
   simp at this ⊢
   omega
theorem g_deT {t:List Int} (hl:t.length≤4096):(deTF t).1.length≤4096∧Er (deTF t).2.2:=by
 unfold deTF
 split
 ·rename_i p q r e
  have:=g_spl 0 t [] p (by rw[e];simp)
  simp at this
  exact ⟨by dsimp only;omega,⟨by simp,by simp⟩⟩
 ·exact ⟨by simp,⟨by simp,by simp⟩⟩
theorem g_dev (c:Int) {s:Rs} (h:Okr s):Gd s (iDev c s):=by
 unfold iDev
 dsimp only
 refine Gd.ite (fun _=>Gd.wth h 1 fun _ l hl _=>g_lay h 1 (beB_bytes _ _) (cells_one' (by omega))) fun _=> ?_
 refine Gd.ite (fun _=>Gd.wth h 4 fun _ l hl _=>Gd.ite (fun _=>Gd.err h ⟨by omega,by omega⟩) fun _=>Gd.ite (fun _=>Gd.swp h 4 (cells2 (cells_get' hl 0) (by omega))) fun _=>g_lay h 4 (bytes_app (g_tex h _ _).1 (g_tex h _ _).1) (cells_one' (by omega))) fun _=> ?_
 refine Gd.ite (fun _=>g_prp c h) fun _=> ?_
 refine Gd.ite (fun _=>g_chd h) fun _=> ?_
 refine Gd.ite (fun _=>Gd.ite (fun _=>Gd.err h ⟨by omega,by omega⟩) fun c1=> ?_) fun _=> ?_
 ·exact ⟨g_end h c1,rfl,⟨by simp,by simp⟩,fun e=>absurd rfl e⟩
 refine Gd.ite (fun _=>Gd.swp h 0 (cells_one' (by omega))) fun _=> ?_
 refine Gd.ite (fun _=>Gd.ite (fun _=>Gd.err h ⟨by omega,by omega⟩) fun _=>Gd.swp h 0 (cells_one' (by omega))) fun _=> ?_
 refine Gd.wth h 2 fun _ l hl _=>Gd.ite (fun _=>Gd.err h (tex_er _ _ _)) fun _=> ?_
 have q:=g_tex h (l.getD 0 0) (l.getD 1 0)
 have a:=cells_get' hl 0
 have e:=g_ent q.1 q.2
 have i:=g_deI q.1
 have t:=g_deT q.2
 refine Gd.ite (fun _=>Gd.ite (fun _=>Gd.err h e.2.2) fun _=>g_lay h 2 e.1 (cells_one' (by omega))) fun _=> ?_
 refine Gd.ite (fun _=>Gd.ite (fun _=>Gd.err h i.2) fun _=>Gd.swp h 2 (cells_cons' (by omega) (cells2 (by omega) i.1))) fun _=> ?_
 exact Gd.ite (fun _=>Gd.err h t.2) fun _=>Gd.swp h 2 (cells_cons' (by omega) (cells_cons' (by omega) (cells2 a (by omega))))
theorem g_doE (c:Int) (l:List Int):Er (Stk.doF c l).2:=by
 unfold Stk.doF Stk.doT Stk.doQ Stk.doP Stk.doR Stk.fits Er
 repeat' split
 all_goals (try dsimp only)
 all_goals omega
theorem gd_iP (c:Int) {s:Rs} (h:Okr s):Gd s (iP c s):=by
 unfold iP
 split
 ·rename_i r e
  exact g_ar h e
 ·refine Gd.ite (fun _=>Gd.ite (fun z=> ?_) fun _=>Gd.err h (g_doE _ _)) fun _=> ?_
  ·have hl:(Stk.doF c s.m.stack).1.length≤64:=Stk.doF_len c s.m.stack _ (by rw[←z])
   have hc:cells (Stk.doF c s.m.stack).1:=Stk.cells_do c s.m.stack h.ran.m.stack
   exact ⟨⟨⟨frm_stack h.frm _ hl,h.ran.stack _ hl hc⟩,rfl,rfl⟩,rfl,⟨by simp,by simp⟩,fun e=>absurd rfl e⟩
  refine Gd.ite (fun _=>Gd.wth h 1 fun _ l hl _=>Gd.ite (fun _=>Gd.swp h 1 cells_nil') fun _=> ?_) fun _=> ?_
  ·exact ⟨sp_n h (cells_get' hl 0).1 (cells_get' hl 0).2,rfl,⟨by simp,by simp⟩,fun _=>⟨rfl,rfl⟩⟩
  exact Gd.ite (fun _=>g_ret c h) fun _=>Gd.ite (fun _=>g_mem c h) fun _=>Gd.ite (fun _=>g_con c h) fun _=>g_dev c h
theorem kq_iP:Kq iP:=fun c s h=>(gd_iP c h).sp
theorem er_iP:∀c s,Okr s→Er (iP c s).2:=fun c s h=>(gd_iP c h).er
def mkR (m:Mc) (ret:List Int) (fs:List Fm) (thr:Int):Rs:={m:=m,ret:=ret,base:=bsF fs,depth:=dpF fs,n:=thr}
structure Ot where
 m:Mc
 ret:List Int
 fs:List Fm
 nxt:Int
 thr:Int
 e:Int
def nxO (R:Rs) (fs:List Fm):Nx→Ot
 | .done r e=>⟨r.m,r.ret,fs, -1,r.n,e⟩
 | .exec x r=>⟨r.m,r.ret,fs,x,r.n,0⟩
 | .catch x r=>⟨r.m,r.ret, .catch r.ret.length r.m.stack.length r.m.self::fs,x,r.n,0⟩
 | .meth x r=>⟨r.m,r.ret, .meth (bsF fs) R.m.self::fs,x,r.n,0⟩
def begO (xt:Int) (R:Rs) (fs:List Fm):Ot:=
 let w:=iWd R xt
 if w.2.2.1=1 then nxO R fs (iPrm iP w.2.2.2.1 R)
 else if w.2.2.1=2 then
  if 32≤R.depth then ⟨R.m,R.ret,fs, -1,R.n,12⟩ else ⟨R.m,R.ret, .colon R.ret.length xt 0::fs, -1,R.n,0⟩
 else if w.2.2.1=3∨w.2.2.1=4∨w.2.2.1=5 then ⟨(iSwp R 0 [w.2.2.2.1]).1.m,R.ret,fs, -1,R.n,(iSwp R 0 [w.2.2.2.1]).2⟩
 else if w.2.2.1=7 then
  if iSlf R w=false then ⟨R.m,R.ret,fs, -1,R.n,21⟩ else
  let x:=(R.m.insts.getD R.m.self.toNat (-1, -1,[],[])).2.2.2.getD w.2.2.2.1.toNat 0
  ⟨(iSwp R 0 [x]).1.m,R.ret,fs, -1,R.n,(iSwp R 0 [x]).2⟩
 else ⟨R.m,R.ret,fs,w.2.2.2.1,R.n,0⟩
def opO (o:Opd) (R:Rs) (b wd at_:Int) (r:List Fm):Ot:=
 if o.1=12 then
  if iOwn R=0 then ⟨R.m,R.ret,r, -1,R.n,0⟩ else ⟨R.m,R.ret, .colon b wd at_::r, -1,R.n,12⟩
 else if o.1=2 then ⟨R.m,R.ret, .colon b wd at_::r,o.2,R.n,0⟩
 else ⟨(iOp R o).1.m,(iOp R o).1.ret, .colon b wd (if (iOp R o).2.1=true∧(iOp R o).2.2=0 then o.2 else at_)::r, -1,R.n,(iOp R o).2.2⟩
def Rst (fs:List Fm) (nxt:Int) (R:Rs) (k:Nat):Rs×Nat×Int:=if nxt= -1 then unw iP fs (R,k,0) else unw iP fs (rn iP (.word nxt) R k)
theorem rst_no {fs:List Fm} {R:Rs} {k:Nat}:Rst fs (-1) R k=unw iP fs (R,k,0):=if_pos rfl
theorem rst_yes {fs:List Fm} {x:Int} {R:Rs} {k:Nat} (h:¬x= -1):Rst fs x R k=unw iP fs (rn iP (.word x) R k):=if_neg h
theorem mk_eta (R:Rs) (fs:List Fm) (h1:R.base=bsF fs) (h2:R.depth=dpF fs):mkR R.m R.ret fs R.n=R:=by
 cases R
 simp only at h1 h2
 subst h1 h2
 rfl
theorem iSwp_no {s:Rs} {k:Nat} {l:List Int} (h:¬(iSwp s k l).2=0):(iSwp s k l).1=s:=by
 unfold iSwp at h ⊢
 split
 ·rfl
 ·rename_i c1
  rw[if_neg c1] at h
  split
  ·rfl
  ·rename_i c2
   rw[if_neg c2] at h
   exact absurd rfl h
theorem iSwp_R (m:Mc) (ret:List Int) (fs:List Fm) (thr:Int) (k:Nat) (l:List Int):(iSwp (mkR m ret fs thr) k l).1=mkR (iSwp (mkR m ret fs thr) k l).1.m ret fs thr:=by
 unfold iSwp
 split
 ·rfl
 ·split <;> rfl
theorem sim_beg {m:Mc} {ret:List Int} {fs:List Fm} {thr:Int} (ok:Okr (mkR m ret fs thr)) (bs:Bs (mkR m ret fs thr)) (xt:Int) (k:Nat) {o:Ot} (ho:begO xt (mkR m ret fs thr) fs=o):
  (o.e=0→(o.nxt= -1∨0≤o.nxt)→unw iP fs (rn iP (.word xt) (mkR m ret fs thr) (k+1))=Rst o.fs o.nxt (mkR o.m o.ret o.fs o.thr) k)∧
  (¬o.e=0→unw iP fs (rn iP (.word xt) (mkR m ret fs thr) (k+1))=unw iP o.fs (mkR m ret o.fs o.thr,k,o.e)):=by
 unfold begO at ho
 dsimp only at ho
 obtain ⟨R,hR⟩:∃R,mkR m ret fs thr=R:=⟨_,rfl⟩
 have e1:R.base=bsF fs:=by rw[←hR];rfl
 have e2:R.depth=dpF fs:=by rw[←hR];rfl
 have e3:R.m=m:=by rw[←hR];rfl
 have e4:R.ret=ret:=by rw[←hR];rfl
 have e5:R.n=thr:=by rw[←hR];rfl
 rw[hR] at ok bs ho ⊢
 by_cases k1:(iWd R xt).2.2.1=1
 ·rw[if_pos k1] at ho
  have fr:=iPrm_fr iP_kp (iWd R xt).2.2.2.1 R bs
  cases hp:iPrm iP (iWd R xt).2.2.2.1 R with
  |done r e=>
   rw[hp] at fr ho
   rw[rn_done iP k1 hp]
   subst ho
   have fr':Fr R r:=fr
   refine ⟨fun he _=> ?_,fun he=> ?_⟩
   ·have he':e=0:=he
    subst he'
    show _=Rst fs (-1) (mkR r.m r.ret fs r.n) k
    rw[rst_no,mk_eta r fs (fr'.1.trans e1) (fr'.2.1.trans e2)]
   ·show _=unw iP fs (mkR m ret fs r.n,k,e)
    have q:r.m=R.m∧r.ret=R.ret:=by
     have he':¬e=0:=he
     unfold iPrm at hp
     dsimp only at hp
     repeat' split at hp
     all_goals try (cases hp;done)
     all_goals try (injection hp with hp1 hp2;subst hp1;exact ⟨rfl,rfl⟩)
     injection hp with hp1 hp2
     subst hp1 hp2
     exact (gd_iP _ ok).no he'
    rw[←e3,←e4,←q.1,←q.2,mk_eta r fs (fr'.1.trans e1) (fr'.2.1.trans e2)]
  |exec x r=>
   rw[hp] at fr ho
   rw[rn_exec iP k1 hp]
   subst ho
   have fr':Mo R r:=fr
   refine ⟨fun _ hx=> ?_,fun he=>absurd rfl he⟩
   have hx':¬x= -1∨x= -1:=by omega
   show _=Rst fs x (mkR r.m r.ret fs r.n) k
   rw[mk_eta r fs (fr'.1.trans e1) (fr'.2.1.trans e2)]
   by_cases hn:x= -1
   ·exfalso
    have:0≤x:=by
     unfold iPrm at hp
     dsimp only at hp
     repeat' split at hp
     all_goals try (cases hp;done)
     injection hp with hp1 hp2
     rw[←hp1]
     exact (cells_get' (iTop_c ok.ran 1) 0).1
    omega
   ·rw[rst_yes hn]
  |«catch» x r=>
   rw[hp] at fr ho
   rw[rn_catch iP k1 hp]
   subst ho
   have fr':Mo R r:=fr
   refine ⟨fun _ hx=> ?_,fun he=>absurd rfl he⟩
   have hn:¬x= -1:=by
    have:0≤x:=by
     unfold iPrm at hp
     dsimp only at hp
     repeat' split at hp
     all_goals try (cases hp;done)
     injection hp with hp1 hp2
     rw[←hp1]
     exact (cells_get' (iTop_c ok.ran 1) 0).1
    omega
   show _=Rst (.catch r.ret.length r.m.stack.length r.m.self::fs) x (mkR r.m r.ret (.catch r.ret.length r.m.stack.length r.m.self::fs) r.n) k
   rw[rst_yes hn]
   have em:mkR r.m r.ret (.catch r.ret.length r.m.stack.length r.m.self::fs) r.n={r with base:=r.ret.length}:=by
    have:=fr'.2.1.trans e2
    cases r
    simp only at this
    subst this
    rfl
   rw[em]
   generalize rn iP (.word x) {r with base:=r.ret.length} k=ρ
   conv=>rhs;unfold unw
   dsimp only
   have ec:=iCat_only r {m:={nilM with stack:=List.replicate r.m.stack.length 0,self:=r.m.self},ret:=List.replicate r.ret.length 0,base:=bsF fs,depth:=dpF fs,n:=0} ρ.1 ρ.2.2 (by simp) rfl (by simp) (fr'.1.trans e1) (fr'.2.1.trans e2)
   rw[ec]
   simp only[Int.toNat_natCast]
  |meth x r=>
   rw[hp] at fr ho
   rw[rn_meth iP k1 hp]
   subst ho
   have fr':Mo R r:=fr
   refine ⟨fun _ hx=> ?_,fun he=>absurd rfl he⟩
   have hn:¬x= -1:=by
    have:0≤x:=by
     unfold iPrm at hp
     dsimp only at hp
     repeat' split at hp
     all_goals try (cases hp;done)
     injection hp with hp1 hp2
     omega
    omega
   show _=Rst (.meth (bsF fs) R.m.self::fs) x (mkR r.m r.ret (.meth (bsF fs) R.m.self::fs) r.n) k
   rw[rst_yes hn]
   have em:mkR r.m r.ret (.meth (bsF fs) R.m.self::fs) r.n=r:=by
    have a:=fr'.2.1.trans e2
    have b:=fr'.1.trans e1
    cases r
    simp only at a b
    subst a b
    rfl
   rw[em]
   generalize rn iP (.word x) r k=ρ
   conv=>rhs;unfold unw
   split <;> rfl
 ·rw[if_neg k1] at ho
  by_cases k2:(iWd R xt).2.2.1=2
  ·rw[if_pos k2] at ho
   by_cases hd:32≤R.depth
   ·rw[if_pos hd] at ho
    rw[rn_deep iP k2 hd]
    subst ho
    refine ⟨fun he=>by simp at he,fun he=> ?_⟩
    show _=unw iP fs (mkR m ret fs R.n,k,12)
    rw[e5,hR]
   ·rw[if_neg hd] at ho
    rw[rn_colon iP k2 (by omega)]
    subst ho
    refine ⟨fun _ _=> ?_,fun he=>absurd rfl he⟩
    show _=Rst (.colon R.ret.length xt 0::fs) (-1) (mkR R.m R.ret (.colon R.ret.length xt 0::fs) R.n) k
    rw[rst_no]
    have em:mkR R.m R.ret (.colon R.ret.length xt 0::fs) R.n={R with depth:=R.depth+1,base:=R.ret.length}:=by
     rw[e2]
     rfl
    rw[em]
    conv=>rhs;unfold unw
    dsimp only
    rw[if_pos rfl,e1]
    rfl
  ·rw[if_neg k2] at ho
   by_cases k3:(iWd R xt).2.2.1=3∨(iWd R xt).2.2.1=4∨(iWd R xt).2.2.1=5
   ·rw[if_pos k3] at ho
    rw[rn_num iP k3]
    subst ho
    have q:=iSwp_R m ret fs thr 0 [(iWd R xt).2.2.2.1]
    rw[hR] at q
    refine ⟨fun he _=> ?_,fun he=> ?_⟩
    ·show _=Rst fs (-1) (mkR (iSwp R 0 [(iWd R xt).2.2.2.1]).1.m R.ret fs R.n) k
     rw[rst_no,e4,e5,←q]
     have he':(iSwp R 0 [(iWd R xt).2.2.2.1]).2=0:=he
     rw[he']
    ·show _=unw iP fs (mkR m ret fs R.n,k,(iSwp R 0 [(iWd R xt).2.2.2.1]).2)
     rw[iSwp_no he,e5,hR]
   ·rw[if_neg k3] at ho
    by_cases k7:(iWd R xt).2.2.1=7
    ·rw[if_pos k7] at ho
     rw[rn_inst iP k7]
     by_cases hs:iSlf R (iWd R xt)=false
     ·rw[if_pos hs] at ho ⊢
      subst ho
      refine ⟨fun he=>by simp at he,fun he=> ?_⟩
      show _=unw iP fs (mkR m ret fs R.n,k,21)
      rw[e5,hR]
     ·rw[if_neg hs] at ho ⊢
      subst ho
      have q:=iSwp_R m ret fs thr 0 [(R.m.insts.getD R.m.self.toNat (-1, -1,[],[])).2.2.2.getD (iWd R xt).2.2.2.1.toNat 0]
      rw[hR] at q
      refine ⟨fun he _=> ?_,fun he=> ?_⟩
      ·show _=Rst fs (-1) (mkR (iSwp R 0 [(R.m.insts.getD R.m.self.toNat (-1, -1,[],[])).2.2.2.getD (iWd R xt).2.2.2.1.toNat 0]).1.m R.ret fs R.n) k
       rw[rst_no,e4,e5,←q]
       have he':(iSwp R 0 [(R.m.insts.getD R.m.self.toNat (-1, -1,[],[])).2.2.2.getD (iWd R xt).2.2.2.1.toNat 0]).2=0:=he
       rw[he']
      ·show _=unw iP fs (mkR m ret fs R.n,k,(iSwp R 0 [(R.m.insts.getD R.m.self.toNat (-1, -1,[],[])).2.2.2.getD (iWd R xt).2.2.2.1.toNat 0]).2)
       rw[iSwp_no he,e5,hR]
    ·rw[if_neg k7] at ho
     have kk:¬(1≤(iWd R xt).2.2.1∧(iWd R xt).2.2.1≤5):=by omega
     rw[rn_defer iP kk k7]
     subst ho
     refine ⟨fun _ _=> ?_,fun he=>absurd rfl he⟩
     show _=Rst fs (iWd R xt).2.2.2.1 (mkR R.m R.ret fs R.n) k
     have hw:=(wd_num ok xt).1
     rw[rst_yes (by omega),mk_eta R fs e1 e2]
end Go.Proofs.YtbamcchghecpeaaGreatDoor
