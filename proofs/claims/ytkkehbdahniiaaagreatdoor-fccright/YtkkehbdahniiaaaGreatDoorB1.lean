import Derived.Laws.ResultCell
import Derived.Laws.StructEq
import Derived.Test.YtkkehbdahniiaaaGreatDoorB0
set_option linter.unusedVariables false
set_option linter.unusedSimpArgs false
set_option maxRecDepth 100000
namespace Go.Proofs.YtkkehbdahniiaaaGreatDoor
open Go.ChangeShapes Go.WideShapes Go.ChangeAt Go.RowKit
theorem slr_slice {α:Type} {R:World→List Value→α→Prop} {sz:Nat} {w:World} {v:Value} {xs:List α} (h:SlR sz R w v xs):∃ao cap,v= .slice ao xs.length cap:=by
 obtain ⟨rows,h1,h2,_⟩:=h
 obtain ⟨ao,cap,rfl,_⟩:=h1.form
 exact ⟨ao,cap,by rw[h2]⟩
theorem set_kept {w:World} {b:Nat} {cs:Array Value} {T:TypeId} (h:Stands w b cs T) (j:Nat) (u:Value):Kept T w (w.setCell ⟨b,j,none⟩ u):=by
 refine Kept.stands h ⟨rfl,rfl,rfl,by simp,fun k hk hne=> ?_⟩
 exact Below.heap_setCell _ _ _ k (fun e=>hne (by rw[e]))
theorem own_some {w:World} {base:Nat} {e:TypeId} {sz:Nat} {v:Value} {n:Nat} {cs:List Value} (o:w.ownsRow base e sz v n cs) (h:0 < n):∃g cap,v= .slice (some ⟨g,0,none⟩) n cap:=by
 rcases o.2 with ⟨_,h0⟩|⟨g,cap,cur,hv,_⟩
 ·omega
 ·exact ⟨g,cap,hv⟩
theorem own_cell {w:World} {base:Nat} {e:TypeId} {sz g n cap:Nat} {cs:List Value} (o:w.ownsRow base e sz (.slice (some ⟨g,0,none⟩) n cap) n cs) (j:Nat) (u:Value) (h:cs[j]? =some u):w.cell? ⟨g,j,none⟩=some u:=by
 have h1:=o.cells (g:=g) rfl j u h
 have e1:(⟨g,0,none⟩:Addr).add j=⟨g,j,none⟩:=by
  unfold Addr.add
  split
  ·rename_i hz;rw[hz]
  ·simp
 rwa [e1] at h1
theorem grown_below {w w':World} {r:Option Nat} (g:w.grownBy w' r) {e:TypeId} {sz base:Nat} {v:Value} {n:Nat} {cs:List Value} (o:w.ownsRow base e sz v n cs) (hne:∀k,v.ownBlock=some k→r≠some k):w'.ownsRow base e sz v n cs:=by
 obtain ⟨hl,o⟩:=o
 refine ⟨hl, ?_⟩
 rcases o with h|⟨b,cap,cur,rfl,h1,h2,h3⟩
 ·exact Or.inl h
 ·refine Or.inr ⟨b,cap,cur,rfl,h1, ?_,h3⟩
  rw[g.block b (Array.getElem?_eq_some_iff.1 h2).1 (fun e=>hne b rfl e.symm)]
  exact h2
theorem gb_refl (w:World) (r:Option Nat):w.grownBy w r:=⟨rfl,rfl,rfl,Nat.le_refl _,fun _ _ _=>rfl⟩
theorem gb_below {a b c:World} {r:Option Nat} (h:a.grownBy b r) (g:Below b.heap.size b c):a.grownBy c r:=
 ⟨g.os.trans h.os,g.tape.trans h.tape,g.output.trans h.output,Nat.le_trans h.size g.size,fun k hk hne=>(g.block k (Nat.lt_of_lt_of_le hk h.size)).trans (h.block k hk hne)⟩
theorem gb_set {a b:World} {g:Nat} (h:a.grownBy b (some g)) (j:Nat) (u:Value):a.grownBy (b.setCell ⟨g,j,none⟩ u) (some g):=
 ⟨h.os,h.tape,h.output,by simpa [World.setCell] using h.size,fun k hk hne=>(Below.heap_setCell _ _ _ k (fun e=>hne (by rw[e]))).trans (h.block k hk hne)⟩
theorem slr_tail {α:Type} {P:Program} {R:World→List Value→α→Prop} {w:World} {v:Value} {xs:List α} {sz:Nat} (h:SlR sz R w v xs) {t:TypeId} (ht:P.underlying t=some (.slice (P.elem t))) (hs:∀w,(sizeOf (P.elem t)).run P w= .ok sz w) (n:Nat) (hn:n≤xs.length):
  ∃v',(∀w',(Instr.slice t v (some (.int .i64 (n:Int))) none none).run P w'= .ok v' w')∧SlR sz R w v' (xs.drop n):=by
 obtain ⟨rows,h1,h2,h3⟩:=h
 obtain ⟨ao,cap,rfl,hc,hno,hx⟩:=h1.form
 refine ⟨sliced ao n rows.length cap sz,fun w'=> ?_,rows.drop n, ?_,by simp[h2],fun i hi=> ?_⟩
 ·rw[run_slice_l w' t ao rows.length cap ht .i64 (n:Int) (by omega) (by omega),hs]
  simp[Result.andThen]
 ·rcases Nat.eq_zero_or_pos (rows.length - n) with h0|h0
  ·refine Or.inl ⟨if cap=n then ao else ao.map (·.add (n*sz)),cap - n,by rw[sliced,h0], ?_, ?_⟩
   ·intro he
    by_cases hcl:cap=n
    ·omega
    ·rw[if_neg hcl] at he
     cases ao with
     |none=>have:=hno rfl;omega
     |some a=>cases he
   ·apply List.eq_nil_of_length_eq_zero
    rw[List.length_drop]
    exact h0
  ·obtain ⟨hm,b,off,rfl,hcell⟩:=hx (by omega)
   have hl:(rows.drop n).length=rows.length - n:=by simp
   refine Or.inr ⟨b,off+n*sz,cap - n, ?_,by omega,by omega,by omega,fun i hi=> ?_⟩
   ·rw[sliced,hl,if_neg (by omega)]
    simp[Addr.add]
   ·rw[hl] at hi
    have e:(rows.drop n).getD i []=rows.getD (n+i) []:=by
     rw[List.getD_eq_getElem?_getD,List.getD_eq_getElem?_getD,List.getElem?_drop]
    rw[e]
    have:=hcell (n+i) (by omega)
    rw[show off+n*sz+i*sz=off+(n+i)*sz by rw[Nat.add_mul];omega]
    exact this
 ·have hi2:n+i < xs.length:=by simp at hi;omega
  have e:(rows.drop n).getD i []=rows.getD (n+i) []:=by
   rw[List.getD_eq_getElem?_getD,List.getD_eq_getElem?_getD,List.getElem?_drop]
  rw[e,List.getElem_drop]
  exact h3 (n+i) hi2
theorem own_belowN {w w':World} {base:Nat} {e:TypeId} {sz:Nat} {v:Value} {n:Nat} {cs:List Value} (o:w.ownsRow base e sz v n cs) (g:Below w.heap.size w w'):w'.ownsRow base e sz v n cs:=by
 obtain ⟨hl,h3⟩:=o
 refine ⟨hl, ?_⟩
 rcases h3 with h|⟨b,cap,cur,rfl,hb,hg,hc⟩
 ·exact Or.inl h
 ·refine Or.inr ⟨b,cap,cur,rfl,hb, ?_,hc⟩
  rw[g.block b (Array.getElem?_eq_some_iff.1 hg).1]
  exact hg
theorem res_row2 {P:Program} {fn:Func} {p a:Tmp} {ty:TypeId} (h:fn.results=#[.cell p ty, .tmp a]) (tmps:Array Value) (w:World) (g:Nat) (t:TypeId) (cs:Array Value) (fr:Nat×Nat) (d:TypeDesc)
  (hp:tmps.getD p undef= .pointer (some ⟨g,0,none⟩)) (hg:w.heap[g]? =some (.cells cs t fr))
  (hu:P.underlying ty=some d) (hd:(match d with| .struct _| .array _ _=>true|_=>false)=true) (hi:(P.info? ty).map (·.size)=some cs.size):
  (results fn tmps).run P w= .ok (.tuple #[.agg cs,tmps.getD a undef]) w:=by
 have hp':tmps[p]?.getD undef= .pointer (some ⟨g,0,none⟩):=by simpa using hp
 simp[results,h,hp',asAddr,run_loadVar_row w g t ty cs fr d hg hu hd hi]
theorem res_row3 {P:Program} {fn:Func} {p a b:Tmp} {ty:TypeId} (h:fn.results=#[.cell p ty, .tmp a, .tmp b]) (tmps:Array Value) (w:World) (g:Nat) (t:TypeId) (cs:Array Value) (fr:Nat×Nat) (d:TypeDesc)
  (hp:tmps.getD p undef= .pointer (some ⟨g,0,none⟩)) (hg:w.heap[g]? =some (.cells cs t fr))
  (hu:P.underlying ty=some d) (hd:(match d with| .struct _| .array _ _=>true|_=>false)=true) (hi:(P.info? ty).map (·.size)=some cs.size):
  (results fn tmps).run P w= .ok (.tuple #[.agg cs,tmps.getD a undef,tmps.getD b undef]) w:=by
 have hp':tmps[p]?.getD undef= .pointer (some ⟨g,0,none⟩):=by simpa using hp
 simp[results,h,hp',asAddr,run_loadVar_row w g t ty cs fr d hg hu hd hi]
structure Agr (K:TypeId→Bool) (D:Nat→Prop) (w w':World):Prop where
 os:w'.os=w.os
 tape:w'.tape=w.tape
 output:w'.output=w.output
 size:w.heap.size≤w'.heap.size
 block:∀(k:Nat) cs T fr,w.heap[k]? =some (Obj.cells cs T fr)→K T=false→¬D k→w'.heap[k]? =w.heap[k]?
theorem Agr.refl (K:TypeId→Bool) (D:Nat→Prop) (w:World):Agr K D w w:=⟨rfl,rfl,rfl,Nat.le_refl _,fun _ _ _ _ _ _ _=>rfl⟩
theorem Agr.trans {K:TypeId→Bool} {D:Nat→Prop} {a b c:World} (h:Agr K D a b) (g:Agr K D b c):Agr K D a c:=
 ⟨g.os.trans h.os,g.tape.trans h.tape,g.output.trans h.output,Nat.le_trans h.size g.size,fun k cs T fr e t d=>by
  have e1:=h.block k cs T fr e t d
  rw[g.block k cs T fr (by rw[e1];exact e) t d,e1]⟩
theorem heap_lt' {w:World} {k:Nat} {o:Obj} (h:w.heap[k]? =some o):k < w.heap.size:=(Array.getElem?_eq_some_iff.1 h).1
theorem Agr.below {K:TypeId→Bool} {D:Nat→Prop} {w w':World} (h:Below w.heap.size w w'):Agr K D w w':=⟨h.os,h.tape,h.output,h.size,fun k cs T fr e _ _=>h.block k (heap_lt' e)⟩
theorem Agr.kept {K:TypeId→Bool} {D:Nat→Prop} {T:TypeId} {w w':World} (k:Kept T w w') (hT:K T=true):Agr K D w w':=by
 obtain ⟨row,g,hr⟩:=k
 refine ⟨g.os,g.tape,g.output,g.size,fun k cs T' fr e t _=>g.block k (heap_lt' e) (fun e2=> ?_)⟩
 obtain ⟨cur,fr',e3⟩:=hr k e2.symm
 rw[e] at e3
 injection e3 with e3
 injection e3 with _ e4
 rw[e4,hT] at t
 cases t
theorem Agr.grown {K:TypeId→Bool} {D:Nat→Prop} {w w':World} {r:Option Nat} (g:w.grownBy w' r) (hr:∀k,r=some k→D k):Agr K D w w':=
 ⟨g.os,g.tape,g.output,g.size,fun k cs T fr e t d=>g.block k (heap_lt' e) (fun e2=>d (hr k e2.symm))⟩
theorem Agr.mono {K K':TypeId→Bool} {D D':Nat→Prop} {w w':World} (h:Agr K D w w') (hK:∀T,K' T=false→K T=false) (hD:∀k,k < w.heap.size→D k→D' k):Agr K' D' w w':=
 ⟨h.os,h.tape,h.output,h.size,fun k cs T fr e t d=>h.block k cs T fr e (hK T t) (fun q=>d (hD k (heap_lt' e) q))⟩
theorem Agr.set {K:TypeId→Bool} {D:Nat→Prop} (w:World) (q j:Nat) (u:Value) (hq:D q):Agr K D w (w.setCell ⟨q,j,none⟩ u):=
 ⟨rfl,rfl,rfl,by simp[World.setCell],fun k cs T fr e t d=>Below.heap_setCell _ _ _ k (fun e2=>d (by have e3:k=q:=e2;rw[e3];exact hq))⟩
def Stb (K:TypeId→Bool) (D:Nat→Prop) (w:World) (φ:World→Prop):Prop:=∀w',Agr K D w w'→φ w'
theorem Stb.agr {K:TypeId→Bool} {D:Nat→Prop} {w w':World} {φ:World→Prop} (h:Stb K D w φ) (g:Agr K D w w'):Stb K D w' φ:=fun w2 g2=>h w2 (g.trans g2)
theorem Stb.below {K:TypeId→Bool} {D:Nat→Prop} {w w':World} {φ:World→Prop} (h:Stb K D w φ) (g:Below w.heap.size w w'):Stb K D w' φ:=h.agr (Agr.below g)
theorem Stb.mono {K K':TypeId→Bool} {D D':Nat→Prop} {w:World} {φ:World→Prop} (h:Stb K D w φ) (hK:∀T,K T=false→K' T=false) (hD:∀k,k < w.heap.size→D' k→D k):Stb K' D' w φ:=
 fun w' g=>h w' (g.mono hK hD)
def Nw (B:Nat) (e:TypeId) (w:World) (v:Value):Prop:=∀k,v.ownBlock=some k→B≤k∧∃cs fr,w.heap[k]? =some (.cells cs e fr)
theorem Nw.nil (B:Nat) (e:TypeId) (w:World):Nw B e w (.slice none 0 0):=fun k hk=>by cases hk
theorem Nw.own {B:Nat} {e:TypeId} {sz:Nat} {w:World} {v:Value} {n:Nat} {cs:List Value} (o:w.ownsRow B e sz v n cs):Nw B e w v:=by
 intro k hk
 obtain ⟨_,o⟩:=o
 rcases o with ⟨rfl,_⟩|⟨g,cap,cur,rfl,hb,h1,_⟩
 ·cases hk
 ·simp[Value.ownBlock] at hk
  subst hk
  exact ⟨hb,cur,_,h1⟩
theorem Nw.below {B:Nat} {e:TypeId} {w w':World} {v:Value} (h:Nw B e w v) (g:Below w.heap.size w w'):Nw B e w' v:=by
 intro k hk
 obtain ⟨h1,cs,fr,h2⟩:=h k hk
 exact ⟨h1,cs,fr,by rw[g.block k (heap_lt' h2)];exact h2⟩
theorem Nw.le {B B':Nat} {e:TypeId} {w:World} {v:Value} (h:Nw B e w v) (hb:B'≤B):Nw B' e w v:=fun k hk=>⟨Nat.le_trans hb (h k hk).1,(h k hk).2⟩
theorem own_agr {K:TypeId→Bool} {D:Nat→Prop} {B:Nat} {e:TypeId} {sz:Nat} {w w':World} {v:Value} {n:Nat} {cs:List Value} (g:Agr K D w w') (hK:K e=false) (hD:∀b,v.ownBlock=some b→¬D b) (o:w.ownsRow B e sz v n cs):w'.ownsRow B e sz v n cs:=by
 obtain ⟨hl,o⟩:=o
 refine ⟨hl, ?_⟩
 rcases o with h|⟨b,cap,cur,rfl,h1,h2,h3⟩
 ·exact Or.inl h
 ·exact Or.inr ⟨b,cap,cur,rfl,h1,by rw[g.block b _ _ _ h2 hK (hD b rfl)];exact h2,h3⟩
theorem OwnR.agr {α:Type} {K:TypeId→Bool} {D:Nat→Prop} {e:TypeId} {sz:Nat} {O:World→List Value→α→Prop} {base:Nat} {w w':World} {v:Value} {xs:List α} (h:OwnR e sz O base w v xs) (g:Agr K D w w') (hK:K e=false) (hD:∀b,D b→b < base) (hO:∀cs x,O w cs x→O w' cs x):OwnR e sz O base w' v xs:=by
 obtain ⟨rows,h1,h2,h3,h4⟩:=h
 exact ⟨rows,h1,h2,own_agr g hK (fun b hb d=>by have:=(h3.lt b hb).1;have:=hD b d;omega) h3,fun i hi=>hO _ _ (h4 i hi)⟩
theorem Stands.agr {K:TypeId→Bool} {D:Nat→Prop} {w w':World} {b:Nat} {cs:Array Value} {T:TypeId} (h:Stands w b cs T) (g:Agr K D w w') (hK:K T=false) (hD:¬D b):Stands w' b cs T:=by
 unfold Stands at h ⊢
 rw[g.block b _ _ _ h hK hD]
 exact h
def tqC (t:Tq):List Value:=[.int .i64 t.c, .int .u32 t.n, .string (strOfNums t.t), .int .i64 t.o]
def tqR (_:World) (cs:List Value) (t:Tq):Prop:=cs=tqC t
theorem tqR_below {w w':World} (cs:List Value) (x:Tq) (h:tqR w cs x):tqR w' cs x:=h
theorem uQ:Tryz.prog.underlying 23=some (.slice (Tryz.prog.elem 23)):=by kernel_rfl
theorem eQ:Tryz.prog.elem 23=40:=by kernel_rfl
theorem zQ (w:World):(sizeOf (Tryz.prog.elem 23)).run Tryz.prog w= .ok 4 w:=by rw[eQ];exact Tryz.sizeOf40 w
theorem infoTq:(Tryz.prog.info? 40).map (fun i=>(i.zero,i.size,i.bytes))=some (some (.agg #[.int .i64 0, .int .u32 0, .string ⟨#[]⟩, .int .i64 0]),4,40):=by kernel_rfl
theorem slr_idx4 {α:Type} {P:Program} {R:World→List Value→α→Prop} {w:World} {v:Value} {xs:List α} (h:SlR 4 R w v xs) {t:TypeId} (ht:P.underlying t=some (.slice (P.elem t))) (hs:∀w,(sizeOf (P.elem t)).run P w= .ok 4 w) (i:Nat) (h1:i < xs.length):
  ∃(b o:Nat) (c0 c1 c2 c3:Value),(∀w',(Instr.indexAt t v (.int .i64 (i:Int))).run P w'= .ok (.pointer (some ⟨b,o,none⟩)) w')∧w.cell? ⟨b,o,none⟩=some c0∧w.cell? ⟨b,o+1,none⟩=some c1∧w.cell? ⟨b,o+2,none⟩=some c2∧w.cell? ⟨b,o+3,none⟩=some c3∧R w [c0,c1,c2,c3] xs[i]:=by
 obtain ⟨rows,g1,g2,g3⟩:=h
 obtain ⟨ao,cap,rfl,hc,hn,hx⟩:=g1.form
 obtain ⟨hm,b,off,rfl,hcell⟩:=hx (by omega)
 obtain ⟨l1,l2⟩:=hcell i (by omega)
 have e0:=l2 0 (by omega)
 have e1:=l2 1 (by omega)
 have e2:=l2 2 (by omega)
 have e3:=l2 3 (by omega)
 have hr:=g3 i h1
 match hrow:rows.getD i [],l1 with
 |[c0,c1,c2,c3],_=>
  rw[hrow] at e0 e1 e2 e3 hr
  refine ⟨b,off+i*4,c0,c1,c2,c3,fun w'=> ?_,by simpa using e0,by simpa using e1,by simpa using e2,by simpa using e3,hr⟩
  rw[run_indexAt_slice (h:=ht),if_pos ⟨by omega,by omega⟩,hs]
  simp only[Result.andThen,Int.toNat_natCast]
  congr 3
  unfold Addr.add
  split
  ·rename_i hz;rw[hz];rfl
  ·rfl
theorem tq_at {w:World} {v:Value} {xs:List Tq} (h:SlR 4 tqR w v xs) (i:Nat) (h1:i < xs.length):
  ∃(b o:Nat) (C N O:Int) (T:ByteArray),(∀w',(Instr.indexAt 23 v (.int .i64 (i:Int))).run Tryz.prog w'= .ok (.pointer (some ⟨b,o,none⟩)) w')∧w.cell? ⟨b,o,none⟩=some (.int .i64 C)∧w.cell? ⟨b,o+1,none⟩=some (.int .u32 N)∧w.cell? ⟨b,o+2,none⟩=some (.string T)∧w.cell? ⟨b,o+3,none⟩=some (.int .i64 O)∧xs[i].c=C∧xs[i].n=N∧strOfNums xs[i].t=T∧xs[i].o=O:=by
 obtain ⟨b,o,c0,c1,c2,c3,r,e0,e1,e2,e3,hR⟩:=slr_idx4 h uQ zQ i h1
 simp only[tqR,tqC,List.cons.injEq] at hR
 obtain ⟨rfl,rfl,rfl,rfl,_⟩:=hR
 exact ⟨b,o,_,_,_,_,r,e0,e1,e2,e3,rfl,rfl,rfl,rfl⟩
theorem tq_str:Tryz.prog.underlying 40=some (.struct (Tryz.prog.fieldsOf 40)):=by kernel_rfl
theorem tq_held:Tryz.prog.stoodInHeld 40=false:=by kernel_rfl
theorem tq_guard:Tryz.prog.eqGuardType Tryz.prog.depth 40=false:=by kernel_rfl
theorem tq_neq (w:World) (c1 n1 o1 c2 n2 o2:Int) (T1 T2:ByteArray):(binOp .neq 40 (.agg #[.int .i64 c1, .int .u32 n1, .string T1, .int .i64 o1]) (.agg #[.int .i64 c2, .int .u32 n2, .string T2, .int .i64 o2])).run Tryz.prog w= .ok (.bool (!(c1==c2&&(n1==n2&&(T1.toList==T2.toList&&o1==o2))))) w:=by
 rw[run_neq_struct,run_equalIn_agg w _ _ _ _ tq_str tq_held]
 cases h1:(c1==c2) <;> cases h2:(n1==n2) <;> cases h3:(T1.toList==T2.toList) <;> cases h4:(o1==o2)
 all_goals simp[go_sem,h1,h2,h3,h4]
theorem tq_eql (w:World) (c1 n1 o1 c2 n2 o2:Int) (T1 T2:ByteArray):(binOp .eql 40 (.agg #[.int .i64 c1, .int .u32 n1, .string T1, .int .i64 o1]) (.agg #[.int .i64 c2, .int .u32 n2, .string T2, .int .i64 o2])).run Tryz.prog w= .ok (.bool (c1==c2&&(n1==n2&&(T1.toList==T2.toList&&o1==o2)))) w:=by
 rw[run_eql_struct,run_equalIn_agg w _ _ _ _ tq_str tq_held]
 cases h1:(c1==c2) <;> cases h2:(n1==n2) <;> cases h3:(T1.toList==T2.toList) <;> cases h4:(o1==o2)
 all_goals simp[go_sem,h1,h2,h3,h4]
theorem LB_eq (A B:ByteArray):(A=B)=(LB A=LB B):=by
 apply propext
 constructor
 ·intro h;rw[h]
 ·intro h;rw[←nums_LB A,←nums_LB B,h]
theorem nil_beq (S:ByteArray):(S.toList==(⟨#[]⟩:ByteArray).toList)=decide (LB S=[]):=by
 rw[str_beq]
 simp only[LB_eq]
 rfl
theorem nil_emp (S:ByteArray):S.toList.isEmpty=decide (LB S=[]):=by
 rw[←nil_beq,Bool.eq_iff_iff]
 have:(⟨#[]⟩:ByteArray).toList=[]:=by decide+kernel
 rw[this]
 simp
theorem w_isCode (c:Int) (w:World):Calls Tryz.prog 76 #[.int .i64 c] w fun e w'=>e= .returned (.bool (cdd c))∧w'=w:=by
 by_cases h0:c=0
 ·subst h0
  go_enter Tryz.func76,Tryz.ntmps76
  go_wp2_with fail
  go_ret
  exact ⟨rfl,rfl⟩
 ·have hq:(c==0)=false:=by simpa using h0
  by_cases h1:16≤c
  ·have e:cdd c=decide (c≤4095):=by simp[cdd,h0,h1]
   rw[e]
   clear h0 e
   go_enter Tryz.func76,Tryz.ntmps76
   go_wp2_with fail
   go_ret
   exact ⟨rfl,rfl⟩
  ·have e:cdd c=false:=by simp[cdd,h0,h1]
   rw[e]
   clear h0 e
   go_enter Tryz.func76,Tryz.ntmps76
   go_wp2_with fail
   go_ret
   exact ⟨rfl,rfl⟩
theorem w_coded (c:Int) (w:World):Calls Tryz.prog 50 #[.int .i64 c] w fun e w'=>e= .returned (.bool (cdd c))∧w'=w:=by
 by_cases h0:c=0
 ·subst h0
  go_enter Tryz.func50,Tryz.ntmps50
  go_wp2_with fail
  go_ret
  exact ⟨rfl,rfl⟩
 ·have hq:(c==0)=false:=by simpa using h0
  by_cases h1:16≤c
  ·have e:cdd c=decide (c≤4095):=by simp[cdd,h0,h1]
   rw[e]
   clear h0 e
   go_enter Tryz.func50,Tryz.ntmps50
   go_wp2_with fail
   go_ret
   exact ⟨rfl,rfl⟩
  ·have e:cdd c=false:=by simp[cdd,h0,h1]
   rw[e]
   clear h0 e
   go_enter Tryz.func50,Tryz.ntmps50
   go_wp2_with fail
   go_ret
   exact ⟨rfl,rfl⟩
set_option maxHeartbeats 4000000 in
theorem w_behind (c:Int) (w:World):Calls Tryz.prog 77 #[.int .i64 c] w fun e w'=>e= .returned (.int .i64 (bhF c:Nat))∧w'=w:=by
 have hc:c=16∨c=17∨c=195∨c=18∨c=19∨c=20∨c=21∨c=22∨c=23∨c=24∨c=28∨c=198∨c=181∨c=182∨c=202∨(¬c=16∧¬c=17∧¬c=195∧¬c=18∧¬c=19∧¬c=20∧¬c=21∧¬c=22∧¬c=23∧¬c=24∧¬c=28∧¬c=198∧¬c=181∧¬c=182∧¬c=202):=by omega
 rcases hc with rfl|rfl|rfl|rfl|rfl|rfl|rfl|rfl|rfl|rfl|rfl|rfl|rfl|rfl|rfl|⟨h0,h1,h2,h3,h4,h5,h6,h7,h8,h9,h10,h11,h12,h13,h14⟩
 ·go_enter Tryz.func77,Tryz.ntmps77
  go_wp2_with fail
  go_ret
  exact ⟨rfl,rfl⟩
 ·go_enter Tryz.func77,Tryz.ntmps77
  go_wp2_with fail
  go_ret
  exact ⟨rfl,rfl⟩
 ·go_enter Tryz.func77,Tryz.ntmps77
  go_wp2_with fail
  go_ret
  exact ⟨rfl,rfl⟩
 ·go_enter Tryz.func77,Tryz.ntmps77
  go_wp2_with fail
  go_ret
  exact ⟨rfl,rfl⟩
 ·go_enter Tryz.func77,Tryz.ntmps77
  go_wp2_with fail
  go_ret
  exact ⟨rfl,rfl⟩
 ·go_enter Tryz.func77,Tryz.ntmps77
  go_wp2_with fail
  go_ret
  exact ⟨rfl,rfl⟩
 ·go_enter Tryz.func77,Tryz.ntmps77
  go_wp2_with fail
  go_ret
  exact ⟨rfl,rfl⟩
 ·go_enter Tryz.func77,Tryz.ntmps77
  go_wp2_with fail
  go_ret
  exact ⟨rfl,rfl⟩
 ·go_enter Tryz.func77,Tryz.ntmps77
  go_wp2_with fail
  go_ret
  exact ⟨rfl,rfl⟩
 ·go_enter Tryz.func77,Tryz.ntmps77
  go_wp2_with fail
  go_ret
  exact ⟨rfl,rfl⟩
 ·go_enter Tryz.func77,Tryz.ntmps77
  go_wp2_with fail
  go_ret
  exact ⟨rfl,rfl⟩
 ·go_enter Tryz.func77,Tryz.ntmps77
  go_wp2_with fail
  go_ret
  exact ⟨rfl,rfl⟩
 ·go_enter Tryz.func77,Tryz.ntmps77
  go_wp2_with fail
  go_ret
  exact ⟨rfl,rfl⟩
 ·go_enter Tryz.func77,Tryz.ntmps77
  go_wp2_with fail
  go_ret
  exact ⟨rfl,rfl⟩
 ·go_enter Tryz.func77,Tryz.ntmps77
  go_wp2_with fail
  go_ret
  exact ⟨rfl,rfl⟩
 ·have e:bhF c=0:=by simp[bhF,h0,h1,h2,h3,h4,h5,h6,h7,h8,h9,h10,h11,h12,h13,h14]
  rw[e]
  have q0:(c==16)=false:=by simpa using h0
  have q1:(c==17)=false:=by simpa using h1
  have q2:(c==195)=false:=by simpa using h2
  have q3:(c==18)=false:=by simpa using h3
  have q4:(c==19)=false:=by simpa using h4
  have q5:(c==20)=false:=by simpa using h5
  have q6:(c==21)=false:=by simpa using h6
  have q7:(c==22)=false:=by simpa using h7
  have q8:(c==23)=false:=by simpa using h8
  have q9:(c==24)=false:=by simpa using h9
  have q10:(c==28)=false:=by simpa using h10
  have q11:(c==198)=false:=by simpa using h11
  have q12:(c==181)=false:=by simpa using h12
  have q13:(c==182)=false:=by simpa using h13
  have q14:(c==202)=false:=by simpa using h14
  clear e h0 h1 h2 h3 h4 h5 h6 h7 h8 h9 h10 h11 h12 h13 h14
  go_enter Tryz.func77,Tryz.ntmps77
  go_wp2_with fail
  go_ret
  exact ⟨rfl,rfl⟩
set_option maxHeartbeats 4000000 in
theorem w_rbehind (c:Int) (w:World):Calls Tryz.prog 17 #[.int .i64 c] w fun e w'=>e= .returned (.int .i64 (bhF c:Nat))∧w'=w:=by
 have hc:c=16∨c=17∨c=195∨c=18∨c=19∨c=20∨c=21∨c=22∨c=23∨c=24∨c=28∨c=198∨c=181∨c=182∨c=202∨(¬c=16∧¬c=17∧¬c=195∧¬c=18∧¬c=19∧¬c=20∧¬c=21∧¬c=22∧¬c=23∧¬c=24∧¬c=28∧¬c=198∧¬c=181∧¬c=182∧¬c=202):=by omega
 rcases hc with rfl|rfl|rfl|rfl|rfl|rfl|rfl|rfl|rfl|rfl|rfl|rfl|rfl|rfl|rfl|⟨h0,h1,h2,h3,h4,h5,h6,h7,h8,h9,h10,h11,h12,h13,h14⟩
 ·go_enter Tryz.func17,Tryz.ntmps17
  go_wp2_with fail
  go_ret
  exact ⟨rfl,rfl⟩
 ·go_enter Tryz.func17,Tryz.ntmps17
  go_wp2_with fail
  go_ret
  exact ⟨rfl,rfl⟩
 ·go_enter Tryz.func17,Tryz.ntmps17
  go_wp2_with fail
  go_ret
  exact ⟨rfl,rfl⟩
 ·go_enter Tryz.func17,Tryz.ntmps17
  go_wp2_with fail
  go_ret
  exact ⟨rfl,rfl⟩
 ·go_enter Tryz.func17,Tryz.ntmps17
  go_wp2_with fail
  go_ret
  exact ⟨rfl,rfl⟩
 ·go_enter Tryz.func17,Tryz.ntmps17
  go_wp2_with fail
  go_ret
  exact ⟨rfl,rfl⟩
 ·go_enter Tryz.func17,Tryz.ntmps17
  go_wp2_with fail
  go_ret
  exact ⟨rfl,rfl⟩
 ·go_enter Tryz.func17,Tryz.ntmps17
  go_wp2_with fail
  go_ret
  exact ⟨rfl,rfl⟩
 ·go_enter Tryz.func17,Tryz.ntmps17
  go_wp2_with fail
  go_ret
  exact ⟨rfl,rfl⟩
 ·go_enter Tryz.func17,Tryz.ntmps17
  go_wp2_with fail
  go_ret
  exact ⟨rfl,rfl⟩
 ·go_enter Tryz.func17,Tryz.ntmps17
  go_wp2_with fail
  go_ret
  exact ⟨rfl,rfl⟩
 ·go_enter Tryz.func17,Tryz.ntmps17
  go_wp2_with fail
  go_ret
  exact ⟨rfl,rfl⟩
 ·go_enter Tryz.func17,Tryz.ntmps17
  go_wp2_with fail
  go_ret
  exact ⟨rfl,rfl⟩
 ·go_enter Tryz.func17,Tryz.ntmps17
  go_wp2_with fail
  go_ret
  exact ⟨rfl,rfl⟩
 ·go_enter Tryz.func17,Tryz.ntmps17
  go_wp2_with fail
  go_ret
  exact ⟨rfl,rfl⟩
 ·have e:bhF c=0:=by simp[bhF,h0,h1,h2,h3,h4,h5,h6,h7,h8,h9,h10,h11,h12,h13,h14]
  rw[e]
  have q0:(c==16)=false:=by simpa using h0
  have q1:(c==17)=false:=by simpa using h1
  have q2:(c==195)=false:=by simpa using h2
  have q3:(c==18)=false:=by simpa using h3
  have q4:(c==19)=false:=by simpa using h4
  have q5:(c==20)=false:=by simpa using h5
  have q6:(c==21)=false:=by simpa using h6
  have q7:(c==22)=false:=by simpa using h7
  have q8:(c==23)=false:=by simpa using h8
  have q9:(c==24)=false:=by simpa using h9
  have q10:(c==28)=false:=by simpa using h10
  have q11:(c==198)=false:=by simpa using h11
  have q12:(c==181)=false:=by simpa using h12
  have q13:(c==182)=false:=by simpa using h13
  have q14:(c==202)=false:=by simpa using h14
  clear e h0 h1 h2 h3 h4 h5 h6 h7 h8 h9 h10 h11 h12 h13 h14
  go_enter Tryz.func17,Tryz.ntmps17
  go_wp2_with fail
  go_ret
  exact ⟨rfl,rfl⟩
theorem wrp16 (n:Int):IntKind.i16.wrap n=if 32768≤n%65536 then n%65536 - 65536 else n%65536:=by simp[IntKind.wrap,IntKind.bits,IntKind.signed]
theorem wrp8 (n:Int):IntKind.i8.wrap n=if 128≤n%256 then n%256 - 256 else n%256:=by simp[IntKind.wrap,IntKind.bits,IntKind.signed]
theorem off_wide (n:Int):(n==IntKind.i16.wrap n)=(decide (-32768≤n)&&decide (n≤32767)):=by
 rw[wrp16,Bool.eq_iff_iff]
 simp only[beq_iff_eq,Bool.and_eq_true,decide_eq_true_eq]
 split <;> omega
theorem off_narrow (n:Int):(n==IntKind.i8.wrap n)=(decide (-128≤n)&&decide (n≤127)):=by
 rw[wrp8,Bool.eq_iff_iff]
 simp only[beq_iff_eq,Bool.and_eq_true,decide_eq_true_eq]
 split <;> omega
theorem w_isOffset (n:Int) (wide:Bool) (w:World):Calls Tryz.prog 78 #[.int .i64 n, .bool wide] w fun e w'=>e= .returned (.bool (offF n wide))∧w'=w:=by
 cases wide with
 |true=>
  have e:offF n true=(n==IntKind.i16.wrap n):=by rw[off_wide];rfl
  rw[e]
  have e2:IntKind.i64.wrap (IntKind.i16.wrap n)=IntKind.i16.wrap n:=by rw[IntKind.wrap_i64,wrp16];split <;> omega
  go_enter Tryz.func78,Tryz.ntmps78
  go_wp2_with fail
  go_ret
  exact ⟨rfl,rfl⟩
 |false=>
  have e:offF n false=(n==IntKind.i8.wrap n):=by rw[off_narrow];rfl
  rw[e]
  have e2:IntKind.i64.wrap (IntKind.i8.wrap n)=IntKind.i8.wrap n:=by rw[IntKind.wrap_i64,wrp8];split <;> omega
  go_enter Tryz.func78,Tryz.ntmps78
  go_wp2_with fail
  go_ret
  exact ⟨rfl,rfl⟩
set_option maxHeartbeats 4000000 in
set_option maxRecDepth 100000 in
theorem w_formed0 (c n o:Int) (S:ByteArray) (wide:Bool) (w:World) (n0:0≤n) (n1:n < 4294967296) (hs:S.size≤maxLen) (hc:cdd c=true) (hk:bhF c=0):
  Calls Tryz.prog 46 #[.agg #[.int .i64 c, .int .u32 n, .string S, .int .i64 o], .bool wide] w fun e w'=>e= .returned (.bool (okB 0 ⟨c,n,LB S,o⟩ wide))∧Below w.heap.size w w':=by
 have hs2:=hs
 unfold maxLen at hs2
 have cI:=fun w=>w_isCode c w
 rw[hc] at cI
 have cB:=fun w=>w_behind c w
 rw[hk] at cB
 clear hc hk
 have bw:=box_below w (.cells #[.int .i64 c, .int .u32 n, .string S, .int .i64 o] 40)
 have bm:=fun a b d=>below_trans bw (box_below (w.alloc (.cells #[.int .i64 c, .int .u32 n, .string S, .int .i64 o] 40)) (.cells #[.int .i64 c, .int .u32 a, .string b, .int .i64 d] 40))
 have heq:=fun w=>tq_eql w c n o c 0 0 S ⟨#[]⟩
 have hgd:=fun w x y=>run_eqGuard_agg (P:=Tryz.prog) w .eql 40 x y #[.int .i64 c, .int .u32 n, .string S, .int .i64 o] #[.int .i64 c, .int .u32 0, .string ⟨#[]⟩, .int .i64 0] tq_guard
 go_enter Tryz.func46,Tryz.ntmps46
 go_wp2_with (first
  |(go_at_call_of 76 (Value.int .i64 c);refine (cI _).mono ?_;rintro e w1 ⟨rfl,hw⟩;obtain rfl:=hw.symm)
  |(go_at_call 77;refine (cB _).mono ?_;rintro e w1 ⟨rfl,hw⟩;obtain rfl:=hw.symm))
 go_ret
 refine ⟨ret_b ?_,bm 0 ⟨#[]⟩ 0⟩
 rw[nil_emp,Bool.eq_iff_iff];simp[okB,and_assoc,and_comm,and_left_comm]
set_option maxHeartbeats 4000000 in
set_option maxRecDepth 100000 in
theorem w_formed1 (c n o:Int) (S:ByteArray) (wide:Bool) (w:World) (n0:0≤n) (n1:n < 4294967296) (hs:S.size≤maxLen) (hc:cdd c=true) (hk:bhF c=1):
  Calls Tryz.prog 46 #[.agg #[.int .i64 c, .int .u32 n, .string S, .int .i64 o], .bool wide] w fun e w'=>e= .returned (.bool (okB 1 ⟨c,n,LB S,o⟩ wide))∧Below w.heap.size w w':=by
 have hs2:=hs
 unfold maxLen at hs2
 have cI:=fun w=>w_isCode c w
 rw[hc] at cI
 have cB:=fun w=>w_behind c w
 rw[hk] at cB
 clear hc hk
 have bw:=box_below w (.cells #[.int .i64 c, .int .u32 n, .string S, .int .i64 o] 40)
 have bm:=fun a b d=>below_trans bw (box_below (w.alloc (.cells #[.int .i64 c, .int .u32 n, .string S, .int .i64 o] 40)) (.cells #[.int .i64 c, .int .u32 a, .string b, .int .i64 d] 40))
 have heq:=fun w=>tq_eql w c n o c n 0 S ⟨#[]⟩
 have hgd:=fun w x y=>run_eqGuard_agg (P:=Tryz.prog) w .eql 40 x y #[.int .i64 c, .int .u32 n, .string S, .int .i64 o] #[.int .i64 c, .int .u32 n, .string ⟨#[]⟩, .int .i64 0] tq_guard
 go_enter Tryz.func46,Tryz.ntmps46
 go_wp2_with (first
  |(go_at_call_of 76 (Value.int .i64 c);refine (cI _).mono ?_;rintro e w1 ⟨rfl,hw⟩;obtain rfl:=hw.symm)
  |(go_at_call 77;refine (cB _).mono ?_;rintro e w1 ⟨rfl,hw⟩;obtain rfl:=hw.symm))
 go_ret
 refine ⟨ret_b ?_,bm n ⟨#[]⟩ 0⟩
 rw[nil_emp,Bool.eq_iff_iff];simp[okB,and_assoc,and_comm,and_left_comm]
set_option maxHeartbeats 4000000 in
set_option maxRecDepth 100000 in
theorem w_formed2 (c n o:Int) (S:ByteArray) (wide:Bool) (w:World) (n0:0≤n) (n1:n < 4294967296) (hs:S.size≤maxLen) (hc:cdd c=true) (hk:bhF c=2):
  Calls Tryz.prog 46 #[.agg #[.int .i64 c, .int .u32 n, .string S, .int .i64 o], .bool wide] w fun e w'=>e= .returned (.bool (okB 2 ⟨c,n,LB S,o⟩ wide))∧Below w.heap.size w w':=by
 have hs2:=hs
 unfold maxLen at hs2
 have cI:=fun w=>w_isCode c w
 rw[hc] at cI
 have cB:=fun w=>w_behind c w
 rw[hk] at cB
 clear hc hk
 have bw:=box_below w (.cells #[.int .i64 c, .int .u32 n, .string S, .int .i64 o] 40)
 have bm:=fun a b d=>below_trans bw (box_below (w.alloc (.cells #[.int .i64 c, .int .u32 n, .string S, .int .i64 o] 40)) (.cells #[.int .i64 c, .int .u32 a, .string b, .int .i64 d] 40))
 have cN:=fun w=>w_isCode n w
 cases hN:cdd n with
 |true=>
  rw[hN] at cN
  have heq:=fun w=>tq_eql w c n o c n 0 S ⟨#[]⟩
  have hgd:=fun w x y=>run_eqGuard_agg (P:=Tryz.prog) w .eql 40 x y #[.int .i64 c, .int .u32 n, .string S, .int .i64 o] #[.int .i64 c, .int .u32 n, .string ⟨#[]⟩, .int .i64 0] tq_guard
  go_enter Tryz.func46,Tryz.ntmps46
  go_wp2_with (first
   |(go_at_call_of 76 (Value.int .i64 c);refine (cI _).mono ?_;rintro e w1 ⟨rfl,hw⟩;obtain rfl:=hw.symm)
   |(go_at_call 77;refine (cB _).mono ?_;rintro e w1 ⟨rfl,hw⟩;obtain rfl:=hw.symm)
   |(go_at_call_of 76 (Value.int .i64 n);refine (cN _).mono ?_;rintro e w1 ⟨rfl,hw⟩;obtain rfl:=hw.symm))
  go_ret
  refine ⟨ret_b ?_,bm n ⟨#[]⟩ 0⟩
  rw[nil_emp,Bool.eq_iff_iff];simp[okB,and_assoc,and_comm,and_left_comm,hN]
 |false=>
  rw[hN] at cN
  go_enter Tryz.func46,Tryz.ntmps46
  go_wp2_with (first
   |(go_at_call_of 76 (Value.int .i64 c);refine (cI _).mono ?_;rintro e w1 ⟨rfl,hw⟩;obtain rfl:=hw.symm)
   |(go_at_call 77;refine (cB _).mono ?_;rintro e w1 ⟨rfl,hw⟩;obtain rfl:=hw.symm)
   |(go_at_call_of 76 (Value.int .i64 n);refine (cN _).mono ?_;rintro e w1 ⟨rfl,hw⟩;obtain rfl:=hw.symm))
  go_ret
  refine ⟨ret_b ?_,bm n ⟨#[]⟩ 0⟩
  simp[okB,hN]
set_option maxHeartbeats 4000000 in
set_option maxRecDepth 100000 in
theorem w_formed3 (c n o:Int) (S:ByteArray) (wide:Bool) (w:World) (n0:0≤n) (n1:n < 4294967296) (hs:S.size≤maxLen) (hc:cdd c=true) (hk:bhF c=3):
  Calls Tryz.prog 46 #[.agg #[.int .i64 c, .int .u32 n, .string S, .int .i64 o], .bool wide] w fun e w'=>e= .returned (.bool (okB 3 ⟨c,n,LB S,o⟩ wide))∧Below w.heap.size w w':=by
 have hs2:=hs
 unfold maxLen at hs2
 have cI:=fun w=>w_isCode c w
 rw[hc] at cI
 have cB:=fun w=>w_behind c w
 rw[hk] at cB
 clear hc hk
 have bw:=box_below w (.cells #[.int .i64 c, .int .u32 n, .string S, .int .i64 o] 40)
 have bm:=fun a b d=>below_trans bw (box_below (w.alloc (.cells #[.int .i64 c, .int .u32 n, .string S, .int .i64 o] 40)) (.cells #[.int .i64 c, .int .u32 a, .string b, .int .i64 d] 40))
 by_cases hl:(S.size:Int)≤255
 ·have hd:S.size≤255:=by omega
  have heq:=fun w=>tq_eql w c n o c 0 0 S S
  have hgd:=fun w x y=>run_eqGuard_agg (P:=Tryz.prog) w .eql 40 x y #[.int .i64 c, .int .u32 n, .string S, .int .i64 o] #[.int .i64 c, .int .u32 0, .string S, .int .i64 0] tq_guard
  go_enter Tryz.func46,Tryz.ntmps46
  go_wp2_with (first
   |(go_at_call_of 76 (Value.int .i64 c);refine (cI _).mono ?_;rintro e w1 ⟨rfl,hw⟩;obtain rfl:=hw.symm)
   |(go_at_call 77;refine (cB _).mono ?_;rintro e w1 ⟨rfl,hw⟩;obtain rfl:=hw.symm))
  go_ret
  refine ⟨ret_b ?_,bm 0 S 0⟩
  rw[Bool.eq_iff_iff];simp[okB,LB_len,hd,and_assoc,and_comm,and_left_comm]
 ·have hd:¬S.size≤255:=by omega
  go_enter Tryz.func46,Tryz.ntmps46
  go_wp2_with (first
   |(go_at_call_of 76 (Value.int .i64 c);refine (cI _).mono ?_;rintro e w1 ⟨rfl,hw⟩;obtain rfl:=hw.symm)
   |(go_at_call 77;refine (cB _).mono ?_;rintro e w1 ⟨rfl,hw⟩;obtain rfl:=hw.symm))
  go_ret
  refine ⟨ret_b ?_,bm 0 S 0⟩
  simp[okB,LB_len,hd]
set_option maxHeartbeats 4000000 in
set_option maxRecDepth 100000 in
theorem w_formed4 (c n o:Int) (S:ByteArray) (wide:Bool) (w:World) (n0:0≤n) (n1:n < 4294967296) (hs:S.size≤maxLen) (hc:cdd c=true) (hk:bhF c=4):
  Calls Tryz.prog 46 #[.agg #[.int .i64 c, .int .u32 n, .string S, .int .i64 o], .bool wide] w fun e w'=>e= .returned (.bool (okB 4 ⟨c,n,LB S,o⟩ wide))∧Below w.heap.size w w':=by
 have hs2:=hs
 unfold maxLen at hs2
 have cI:=fun w=>w_isCode c w
 rw[hc] at cI
 have cB:=fun w=>w_behind c w
 rw[hk] at cB
 clear hc hk
 have bw:=box_below w (.cells #[.int .i64 c, .int .u32 n, .string S, .int .i64 o] 40)
 have bm:=fun a b d=>below_trans bw (box_below (w.alloc (.cells #[.int .i64 c, .int .u32 n, .string S, .int .i64 o] 40)) (.cells #[.int .i64 c, .int .u32 a, .string b, .int .i64 d] 40))
 have cO:=fun w=>w_isOffset o wide w
 cases hO:offF o wide with
 |true=>
  rw[hO] at cO
  have heq:=fun w=>tq_eql w c n o c 0 o S ⟨#[]⟩
  have hgd:=fun w x y=>run_eqGuard_agg (P:=Tryz.prog) w .eql 40 x y #[.int .i64 c, .int .u32 n, .string S, .int .i64 o] #[.int .i64 c, .int .u32 0, .string ⟨#[]⟩, .int .i64 o] tq_guard
  go_enter Tryz.func46,Tryz.ntmps46
  go_wp2_with (first
   |(go_at_call_of 76 (Value.int .i64 c);refine (cI _).mono ?_;rintro e w1 ⟨rfl,hw⟩;obtain rfl:=hw.symm)
   |(go_at_call 77;refine (cB _).mono ?_;rintro e w1 ⟨rfl,hw⟩;obtain rfl:=hw.symm)
   |(go_at_call 78;refine (cO _).mono ?_;rintro e w1 ⟨rfl,hw⟩;obtain rfl:=hw.symm))
  go_ret
  refine ⟨ret_b ?_,bm 0 ⟨#[]⟩ o⟩
  rw[nil_emp,Bool.eq_iff_iff];simp[okB,and_assoc,and_comm,and_left_comm,hO]
 |false=>
  rw[hO] at cO
  go_enter Tryz.func46,Tryz.ntmps46
  go_wp2_with (first
   |(go_at_call_of 76 (Value.int .i64 c);refine (cI _).mono ?_;rintro e w1 ⟨rfl,hw⟩;obtain rfl:=hw.symm)
   |(go_at_call 77;refine (cB _).mono ?_;rintro e w1 ⟨rfl,hw⟩;obtain rfl:=hw.symm)
   |(go_at_call 78;refine (cO _).mono ?_;rintro e w1 ⟨rfl,hw⟩;obtain rfl:=hw.symm))
  go_ret
  refine ⟨ret_b ?_,bm 0 ⟨#[]⟩ o⟩
  simp[okB,hO]
set_option maxHeartbeats 4000000 in
set_option maxRecDepth 100000 in
theorem w_formed5 (c n o:Int) (S:ByteArray) (wide:Bool) (w:World) (n0:0≤n) (n1:n < 4294967296) (hs:S.size≤maxLen) (hc:cdd c=true) (hk:bhF c=5):
  Calls Tryz.prog 46 #[.agg #[.int .i64 c, .int .u32 n, .string S, .int .i64 o], .bool wide] w fun e w'=>e= .returned (.bool (okB 5 ⟨c,n,LB S,o⟩ wide))∧Below w.heap.size w w':=by
 have hs2:=hs
 unfold maxLen at hs2
 have cI:=fun w=>w_isCode c w
 rw[hc] at cI
 have cB:=fun w=>w_behind c w
 rw[hk] at cB
 clear hc hk
 have bw:=box_below w (.cells #[.int .i64 c, .int .u32 n, .string S, .int .i64 o] 40)
 have bm:=fun a b d=>below_trans bw (box_below (w.alloc (.cells #[.int .i64 c, .int .u32 n, .string S, .int .i64 o] 40)) (.cells #[.int .i64 c, .int .u32 a, .string b, .int .i64 d] 40))
 by_cases h1:2048≤n
 ·by_cases h2:n≤4095
  ·have hN:nwF n=true:=by simp[nwF,h1,h2]
   have heq:=fun w=>tq_eql w c n o c n 0 S ⟨#[]⟩
   have hgd:=fun w x y=>run_eqGuard_agg (P:=Tryz.prog) w .eql 40 x y #[.int .i64 c, .int .u32 n, .string S, .int .i64 o] #[.int .i64 c, .int .u32 n, .string ⟨#[]⟩, .int .i64 0] tq_guard
   go_enter Tryz.func46,Tryz.ntmps46
   go_wp2_with (first
    |(go_at_call_of 76 (Value.int .i64 c);refine (cI _).mono ?_;rintro e w1 ⟨rfl,hw⟩;obtain rfl:=hw.symm)
    |(go_at_call 77;refine (cB _).mono ?_;rintro e w1 ⟨rfl,hw⟩;obtain rfl:=hw.symm))
   go_ret
   refine ⟨ret_b ?_,bm n ⟨#[]⟩ 0⟩
   rw[nil_emp,Bool.eq_iff_iff];simp[okB,and_assoc,and_comm,and_left_comm,hN]
  ·have hN:nwF n=false:=by simp[nwF,h1,h2]
   go_enter Tryz.func46,Tryz.ntmps46
   go_wp2_with (first
    |(go_at_call_of 76 (Value.int .i64 c);refine (cI _).mono ?_;rintro e w1 ⟨rfl,hw⟩;obtain rfl:=hw.symm)
    |(go_at_call 77;refine (cB _).mono ?_;rintro e w1 ⟨rfl,hw⟩;obtain rfl:=hw.symm))
   go_ret
   refine ⟨ret_b ?_,bm n ⟨#[]⟩ 0⟩
   simp[okB,hN]
 ·have hN:nwF n=false:=by simp[nwF,h1]
  go_enter Tryz.func46,Tryz.ntmps46
  go_wp2_with (first
   |(go_at_call_of 76 (Value.int .i64 c);refine (cI _).mono ?_;rintro e w1 ⟨rfl,hw⟩;obtain rfl:=hw.symm)
   |(go_at_call 77;refine (cB _).mono ?_;rintro e w1 ⟨rfl,hw⟩;obtain rfl:=hw.symm))
  go_ret
  refine ⟨ret_b ?_,bm n ⟨#[]⟩ 0⟩
  simp[okB,hN]
set_option maxHeartbeats 4000000 in
set_option maxRecDepth 100000 in
theorem w_formed6 (c n o:Int) (S:ByteArray) (wide:Bool) (w:World) (n0:0≤n) (n1:n < 4294967296) (hs:S.size≤maxLen) (hc:cdd c=true) (hk:bhF c=6):
  Calls Tryz.prog 46 #[.agg #[.int .i64 c, .int .u32 n, .string S, .int .i64 o], .bool wide] w fun e w'=>e= .returned (.bool (okB 6 ⟨c,n,LB S,o⟩ wide))∧Below w.heap.size w w':=by
 have hs2:=hs
 unfold maxLen at hs2
 have cI:=fun w=>w_isCode c w
 rw[hc] at cI
 have cB:=fun w=>w_behind c w
 rw[hk] at cB
 clear hc hk
 have bw:=box_below w (.cells #[.int .i64 c, .int .u32 n, .string S, .int .i64 o] 40)
 have bm:=fun a b d=>below_trans bw (box_below (w.alloc (.cells #[.int .i64 c, .int .u32 n, .string S, .int .i64 o] 40)) (.cells #[.int .i64 c, .int .u32 a, .string b, .int .i64 d] 40))
 by_cases hl:(S.size:Int)≤31
 ·have hd:S.size≤31:=by omega
  by_cases h1:2048≤n
  ·by_cases h2:n≤4095
   ·have hN:nwF n=true:=by simp[nwF,h1,h2]
    have heq:=fun w=>tq_eql w c n o c n 0 S S
    have hgd:=fun w x y=>run_eqGuard_agg (P:=Tryz.prog) w .eql 40 x y #[.int .i64 c, .int .u32 n, .string S, .int .i64 o] #[.int .i64 c, .int .u32 n, .string S, .int .i64 0] tq_guard
    go_enter Tryz.func46,Tryz.ntmps46
    go_wp2_with (first
     |(go_at_call_of 76 (Value.int .i64 c);refine (cI _).mono ?_;rintro e w1 ⟨rfl,hw⟩;obtain rfl:=hw.symm)
     |(go_at_call 77;refine (cB _).mono ?_;rintro e w1 ⟨rfl,hw⟩;obtain rfl:=hw.symm))
    go_ret
    refine ⟨ret_b ?_,bm n S 0⟩
    rw[Bool.eq_iff_iff];simp[okB,hN,hd,LB_len,and_assoc,and_comm,and_left_comm]
   ·have hN:nwF n=false:=by simp[nwF,h1,h2]
    go_enter Tryz.func46,Tryz.ntmps46
    go_wp2_with (first
     |(go_at_call_of 76 (Value.int .i64 c);refine (cI _).mono ?_;rintro e w1 ⟨rfl,hw⟩;obtain rfl:=hw.symm)
     |(go_at_call 77;refine (cB _).mono ?_;rintro e w1 ⟨rfl,hw⟩;obtain rfl:=hw.symm))
    go_ret
    refine ⟨ret_b ?_,bm n S 0⟩
    simp[okB,hN]
  ·have hN:nwF n=false:=by simp[nwF,h1]
   go_enter Tryz.func46,Tryz.ntmps46
   go_wp2_with (first
    |(go_at_call_of 76 (Value.int .i64 c);refine (cI _).mono ?_;rintro e w1 ⟨rfl,hw⟩;obtain rfl:=hw.symm)
    |(go_at_call 77;refine (cB _).mono ?_;rintro e w1 ⟨rfl,hw⟩;obtain rfl:=hw.symm))
   go_ret
   refine ⟨ret_b ?_,bm n S 0⟩
   simp[okB,hN]
 ·have hd:¬S.size≤31:=by omega
  go_enter Tryz.func46,Tryz.ntmps46
  go_wp2_with (first
   |(go_at_call_of 76 (Value.int .i64 c);refine (cI _).mono ?_;rintro e w1 ⟨rfl,hw⟩;obtain rfl:=hw.symm)
   |(go_at_call 77;refine (cB _).mono ?_;rintro e w1 ⟨rfl,hw⟩;obtain rfl:=hw.symm))
  go_ret
  refine ⟨ret_b ?_,bm n S 0⟩
  simp[okB,hd,LB_len]
theorem w_formed (c n o:Int) (S:ByteArray) (wide:Bool) (w:World) (n0:0≤n) (n1:n < 4294967296) (hs:S.size≤maxLen):
  Calls Tryz.prog 46 #[.agg #[.int .i64 c, .int .u32 n, .string S, .int .i64 o], .bool wide] w fun e w'=>e= .returned (.bool (okQ ⟨c,n,LB S,o⟩ wide))∧Below w.heap.size w w':=by
 cases hc:cdd c with
 |true=>
  have e:okQ ⟨c,n,LB S,o⟩ wide=okB (bhF c) ⟨c,n,LB S,o⟩ wide:=by simp[okQ,hc]
  rw[e]
  have hk:=bh_le c
  obtain ⟨k,hkk⟩:∃k,bhF c=k:=⟨_,rfl⟩
  rw[hkk] at hk ⊢
  match k,hk with
  |0,_=>exact w_formed0 c n o S wide w n0 n1 hs hc hkk
  |1,_=>exact w_formed1 c n o S wide w n0 n1 hs hc hkk
  |2,_=>exact w_formed2 c n o S wide w n0 n1 hs hc hkk
  |3,_=>exact w_formed3 c n o S wide w n0 n1 hs hc hkk
  |4,_=>exact w_formed4 c n o S wide w n0 n1 hs hc hkk
  |5,_=>exact w_formed5 c n o S wide w n0 n1 hs hc hkk
  |6,_=>exact w_formed6 c n o S wide w n0 n1 hs hc hkk
 |false=>
  have e:okQ ⟨c,n,LB S,o⟩ wide=false:=by simp[okQ,hc]
  rw[e]
  have cI:=fun w=>w_isCode c w
  rw[hc] at cI
  have bw:=box_below w (.cells #[.int .i64 c, .int .u32 n, .string S, .int .i64 o] 40)
  clear hc e
  go_enter Tryz.func46,Tryz.ntmps46
  go_wp2_with (go_at_call 76;refine (cI _).mono ?_;rintro e w1 ⟨rfl,hw⟩;obtain rfl:=hw.symm)
  go_ret
  exact ⟨rfl,bw⟩
def OwB (base:Nat) (w:World) (v:Value) (B:List Int):Prop:=w.ownsRow base 5 1 v B.length (B.map (Value.int .u8))
def kB (T:TypeId):Bool:=T==5
def noD (_:Nat):Prop:=False
theorem OwB.below {base:Nat} {w w':World} {v:Value} {B:List Int} (h:OwB base w v B) (g:Below w.heap.size w w'):OwB base w' v B:=own_below h g
structure Lay (base:Nat) (w w':World):Prop where
 below:Below base w w'
 agr:Agr kB noD w w'
theorem Lay.trans {base:Nat} {a b c:World} (h:Lay base a b) (g:Lay base b c):Lay base a c:=⟨h.below.trans g.below,h.agr.trans g.agr⟩
theorem Lay.new {base:Nat} {w w':World} (hb:base≤w.heap.size) (g:Below w.heap.size w w'):Lay base w w':=⟨g.mono hb,Agr.below g⟩
theorem Lay.app {base:Nat} {w w':World} {v:Value} {B:List Int} (h:OwB base w v B) (hb:base≤w.heap.size) (g:w.grownBy w' v.ownBlock):Lay base w w':=
 ⟨(Below.refl base w).grown g hb (fun k hk=>(h.lt k hk).1),Agr.kept (Kept.own h g) rfl⟩
set_option maxHeartbeats 1000000 in
theorem w_layCode (base:Nat) (v:Value) (B:List Int) (c:Int) (w:World) (hB:OwB base w v B) (hb:base≤w.heap.size) (hl:B.length≤100000) (hc:cdd c=true):
  Calls Tryz.prog 79 #[v, .int .i64 c] w fun e w'=>∃v',e= .returned v'∧OwB base w' v' (B++cbF c)∧Lay base w w':=by
 obtain ⟨i0,hi,hz0,hz1,hz2⟩:=info_parts infoU8
 simp only[cdd,Bool.or_eq_true,Bool.and_eq_true,decide_eq_true_eq] at hc
 by_cases h1:c≤255
 ·have e:cbF c=[c]:=by simp[cbF,h1]
  rw[e]
  have hw:IntKind.u8.wrap c=c:=by rw[IntKind.wrap_u8];omega
  have hg:¬255 < c:=by omega
  go_enter Tryz.func79,Tryz.ntmps79
  go_wp2_with (at_builtin;refine wpList_append_rd (k:= .u8) rfl _ _ 29 rfl base 5 i0 1 Tryz.underlying29 hi hz0 hz1 hz2 v B rfl (hB.below (box_below w _)) _ [c] rfl (rd_one w _ _) (by unfold maxLen;simp;omega) (by simp;omega) (by rw[size_al];omega) ?_;intro v1 w1 o1 g1)
  go_ret
  exact ⟨v1,rfl,o1,(Lay.new hb (box_below w _)).trans (Lay.app (hB.below (box_below w _)) (by rw[size_al];omega) g1)⟩
 ·have e:cbF c=[c / 256,c%256]:=by simp[cbF,h1]
  rw[e]
  have hg:255 < c:=by omega
  have hw:IntKind.u8.wrap (c / 256)=c / 256:=by rw[IntKind.wrap_u8];omega
  have hw2:IntKind.u8.wrap c=c%256:=by rw[IntKind.wrap_u8]
  go_enter Tryz.func79,Tryz.ntmps79
  go_wp2_with (first
   |(at_builtin;refine wpList_append_rd (k:= .u8) rfl _ _ 29 rfl base 5 i0 1 Tryz.underlying29 hi hz0 hz1 hz2 v1 (B++[c / 256]) rfl (o2.below (box_below w1 _)) _ [c%256] rfl (rd_one w1 _ _) (by unfold maxLen;simp;omega) (by simp;omega) (by rw[size_al];have:=g2.below.size;omega) ?_;intro v3 w3 o3 g3)
   |(at_builtin;refine wpList_append_rd (k:= .u8) rfl _ _ 29 rfl base 5 i0 1 Tryz.underlying29 hi hz0 hz1 hz2 v B rfl (hB.below (box_below w _)) _ [c / 256] rfl (rd_one w _ _) (by unfold maxLen;simp;omega) (by simp;omega) (by rw[size_al];omega) ?_;intro v1 w1 o1 g1;have o2:OwB base w1 v1 (B++[c / 256]):=o1;have g2:=(Lay.new hb (box_below w _)).trans (Lay.app (hB.below (box_below w _)) (by rw[size_al];omega) g1)))
  go_ret
  exact ⟨v3,rfl,by have:=o3;rw[List.append_assoc] at this;exact this,g2.trans ((Lay.new (Nat.le_trans hb g2.below.size) (box_below w1 _)).trans (Lay.app (o2.below (box_below w1 _)) (by rw[size_al];have:=g2.below.size;omega) g3))⟩
set_option maxHeartbeats 1000000 in
theorem w_layText (base:Nat) (v:Value) (B:List Int) (S:ByteArray) (w:World) (hB:OwB base w v B) (hb:base≤w.heap.size) (hl:B.length≤100000) (hs:S.size≤255):
  Calls Tryz.prog 80 #[v, .string S] w fun e w'=>∃v',e= .returned v'∧OwB base w' v' (B++((LB S).length:Int)::LB S)∧Lay base w w':=by
 obtain ⟨i0,hi,hz0,hz1,hz2⟩:=info_parts infoU8
 rw[LB_len]
 have hw:IntKind.u8.wrap (S.size:Int)=S.size:=by rw[IntKind.wrap_u8];omega
 have hs2:(S.size:Int)≤255:=by omega
 go_enter Tryz.func80,Tryz.ntmps80
 go_wp2_with (first
  |(at_builtin;refine wpList_append_rds rfl _ _ 29 9 rfl base 5 i0 Tryz.underlying29 Tryz.underlying9 hi hz0 hz1 hz2 v1 (B++[(S.size:Int)]) rfl o2 S rfl (by unfold maxLen;simp;omega) (by simp;omega) (by have:=g2.below.size;omega) ?_;intro v3 w3 o3 g3)
  |(at_builtin;refine wpList_append_rd (k:= .u8) rfl _ _ 29 rfl base 5 i0 1 Tryz.underlying29 hi hz0 hz1 hz2 v B rfl (hB.below (box_below w _)) _ [(S.size:Int)] rfl (rd_one w _ _) (by unfold maxLen;simp;omega) (by simp;omega) (by rw[size_al];omega) ?_;intro v1 w1 o1 g1;have o2:OwB base w1 v1 (B++[(S.size:Int)]):=o1;have g2:=(Lay.new hb (box_below w _)).trans (Lay.app (hB.below (box_below w _)) (by rw[size_al];omega) g1)))
 go_ret
 exact ⟨v3,rfl,by have:=o3;rw[List.append_assoc] at this;exact this,g2.trans (Lay.app o2 (by have:=g2.below.size;omega) g3)⟩
end Go.Proofs.YtkkehbdahniiaaaGreatDoor
