import Derived.Laws.IdiomCopy
import Derived.Test.YtkkehbdahniiaaaGreatDoorB3
set_option linter.unusedVariables false
set_option linter.unusedSimpArgs false
set_option maxRecDepth 100000
namespace Go.Proofs.YtkkehbdahniiaaaGreatDoor
open Go.ChangeShapes Go.WideShapes Go.ChangeAt Go.RowKit
structure Frm (D:Nat→Prop) (w w':World):Prop where
 os:w'.os=w.os
 tape:w'.tape=w.tape
 output:w'.output=w.output
 size:w.heap.size≤w'.heap.size
 block:∀k,k < w.heap.size→¬D k→w'.heap[k]? =w.heap[k]?
theorem Frm.refl (D:Nat→Prop) (w:World):Frm D w w:=⟨rfl,rfl,rfl,Nat.le_refl _,fun _ _ _=>rfl⟩
theorem Frm.trans {D D1:Nat→Prop} {a b c:World} (h:Frm D a b) (g:Frm D1 b c) (hd:∀k,k < a.heap.size→D1 k→D k):Frm D a c:=
 ⟨g.os.trans h.os,g.tape.trans h.tape,g.output.trans h.output,Nat.le_trans h.size g.size,fun k hk hn=>by
  rw[g.block k (Nat.lt_of_lt_of_le hk h.size) (fun q=>hn (hd k hk q)),h.block k hk hn]⟩
theorem Frm.grown {D:Nat→Prop} {w w':World} {r:Option Nat} (g:w.grownBy w' r) (hr:∀k,r=some k→D k):Frm D w w':=
 ⟨g.os,g.tape,g.output,g.size,fun k hk hn=>g.block k hk (fun e=>hn (hr k e.symm))⟩
theorem Frm.below {D:Nat→Prop} {w w':World} (g:Below w.heap.size w w'):Frm D w w':=⟨g.os,g.tape,g.output,g.size,fun k hk _=>g.block k hk⟩
theorem Frm.toBelow {D:Nat→Prop} {base:Nat} {w w':World} (g:Frm D w w') (hd:∀k,D k→base≤k) (hb:base≤w.heap.size):Below base w w':=
 ⟨g.os,g.tape,g.output,g.size,fun k hk=>g.block k (Nat.lt_of_lt_of_le hk hb) (fun q=>by have:=hd k q;omega)⟩
theorem Frm.set {D:Nat→Prop} (w:World) (q j:Nat) (u:Value) (hq:D q):Frm D w (w.setCell ⟨q,j,none⟩ u):=
 ⟨rfl,rfl,rfl,by simp[World.setCell],fun k hk hn=>Below.heap_setCell _ _ _ k (fun e=>hn (by have e3:k=q:=e;rw[e3];exact hq))⟩
theorem Frm.mono {D D':Nat→Prop} {w w':World} (h:Frm D w w') (hd:∀k,k < w.heap.size→D k→D' k):Frm D' w w':=
 ⟨h.os,h.tape,h.output,h.size,fun k hk hn=>h.block k hk (fun q=>hn (hd k hk q))⟩
theorem Stands.frm {D:Nat→Prop} {w w':World} {b:Nat} {cs:Array Value} {T:TypeId} (h:Stands w b cs T) (g:Frm D w w') (hn:¬D b):Stands w' b cs T:=by
 unfold Stands at h ⊢
 rw[g.block b (heap_lt' h) hn]
 exact h
theorem own_frm {D:Nat→Prop} {base:Nat} {e:TypeId} {sz:Nat} {w w':World} {v:Value} {n:Nat} {cs:List Value} (o:w.ownsRow base e sz v n cs) (g:Frm D w w') (hn:∀k,v.ownBlock=some k→¬D k):w'.ownsRow base e sz v n cs:=by
 obtain ⟨hl,o⟩:=o
 refine ⟨hl, ?_⟩
 rcases o with h|⟨b,cap,cur,rfl,h1,h2,h3⟩
 ·exact Or.inl h
 ·exact Or.inr ⟨b,cap,cur,rfl,h1,by rw[g.block b (heap_lt' h2) (hn b rfl)];exact h2,h3⟩
abbrev Ch:=Bool×Int×Int×List (Int×Int)
def brC (b:Int×Int):List Value:=[.int .i64 b.1, .int .i64 b.2]
def lpC (l:Int×Int×Int):List Value:=[.int .i64 l.1, .int .i64 l.2.1, .int .i64 l.2.2]
def chC (x:Ch×Value):List Value:=[.bool x.1.1, .int .i64 x.1.2.1, .int .i64 x.1.2.2.1,x.2]
def OwB2 (base:Nat) (w:World) (v:Value) (l:List (Int×Int)):Prop:=w.ownsRow base 158 2 v l.length (l.flatMap brC)
def OwJ (base:Nat) (w:World) (v:Value) (l:List Int):Prop:=w.ownsRow base 3 1 v l.length (l.map (Value.int .i64))
def OwLp (base:Nat) (w:World) (v:Value) (l:List (Int×Int×Int)):Prop:=w.ownsRow base 171 3 v l.length (l.flatMap lpC)
def OwCh (base:Nat) (w:World) (v:Value) (l:List (Ch×Value)):Prop:=w.ownsRow base 162 4 v l.length (l.flatMap chC)
structure Rv where
 t:Value
 a:Value
 b:Value
 l:Value
 k:Value
 K:List (Ch×Value)
def Apart (x y:Value):Prop:=∀k,x.ownBlock=some k→y.ownBlock≠some k
def Rv.has (V:Rv) (k:Nat):Prop:=V.t.ownBlock=some k∨V.a.ownBlock=some k∨V.b.ownBlock=some k∨V.l.ownBlock=some k∨V.k.ownBlock=some k∨∃x∈V.K,x.2.ownBlock=some k
theorem Rv.hasT {V:Rv} {v:Value} {k:Nat} (h:({V with t:=v}:Rv).has k):V.has k∨v.ownBlock=some k:=by unfold Rv.has at*;simp only at h;rcases h with z|z;exact Or.inr z;exact Or.inl (Or.inr z)
theorem Rv.hasA {V:Rv} {v:Value} {k:Nat} (h:({V with a:=v}:Rv).has k):V.has k∨v.ownBlock=some k:=by unfold Rv.has at*;simp only at h;rcases h with z|z|z;exact Or.inl (Or.inl z);exact Or.inr z;exact Or.inl (Or.inr (Or.inr z))
theorem Rv.hasB {V:Rv} {v:Value} {k:Nat} (h:({V with b:=v}:Rv).has k):V.has k∨v.ownBlock=some k:=by unfold Rv.has at*;simp only at h;rcases h with z|z|z|z;exact Or.inl (Or.inl z);exact Or.inl (Or.inr (Or.inl z));exact Or.inr z;exact Or.inl (Or.inr (Or.inr (Or.inr z)))
theorem Rv.hasL {V:Rv} {v:Value} {k:Nat} (h:({V with l:=v}:Rv).has k):V.has k∨v.ownBlock=some k:=by unfold Rv.has at*;simp only at h;rcases h with z|z|z|z|z;exact Or.inl (Or.inl z);exact Or.inl (Or.inr (Or.inl z));exact Or.inl (Or.inr (Or.inr (Or.inl z)));exact Or.inr z;exact Or.inl (Or.inr (Or.inr (Or.inr (Or.inr z))))
theorem Rv.hasK {V:Rv} {v:Value} {K:List (Ch×Value)} {k:Nat} (h:({V with k:=v,K:=K}:Rv).has k):V.has k∨v.ownBlock=some k∨∃x∈K,x.2.ownBlock=some k:=by unfold Rv.has at*;simp only at h;rcases h with z|z|z|z|z;exact Or.inl (Or.inl z);exact Or.inl (Or.inr (Or.inl z));exact Or.inl (Or.inr (Or.inr (Or.inl z)));exact Or.inl (Or.inr (Or.inr (Or.inr (Or.inl z))));exact Or.inr z
def inD (q:Nat) (V:Rv) (k:Nat):Prop:=k=q∨V.has k
structure Cx where
 x6:Value
 x7:Value
 x8:Value
 x9:Value
 x10:Value
 x11:Value
structure RowM (base q:Nat) (X:Cx) (w:World) (V:Rv) (s:Rst):Prop where
 st:Stands w q #[V.t, .int .i64 s.sz,V.a,V.b,V.l,V.k,X.x6,X.x7,X.x8,X.x9,X.x10,X.x11] 61
 tk:OwQs base w V.t s.tk
 ah:OwB2 base w V.a s.ah
 bk:OwJ base w V.b s.bk
 lp:OwLp base w V.l s.lp
 ks:V.K.map (·.1)=s.cs
 row:OwCh base w V.k V.K
 outs:∀x∈V.K,OwB2 base w x.2 x.1.2.2.2
 sep:(V.a::V.K.map (·.2)).Pairwise Apart
 hq:base≤q
 hs:base≤w.heap.size
structure Nxt (q:Nat) (w:World) (V:Rv) (w':World) (V':Rv):Prop where
 fr:Frm (inD q V) w w'
 bl:∀k,V'.has k→V.has k∨w.heap.size≤k
theorem Nxt.refl (q:Nat) (w:World) (V:Rv):Nxt q w V w V:=⟨Frm.refl _ _,fun _ h=>Or.inl h⟩
theorem Nxt.trans {q:Nat} {a b c:World} {V V1 V2:Rv} (h:Nxt q a V b V1) (g:Nxt q b V1 c V2):Nxt q a V c V2:=by
 refine ⟨h.fr.trans g.fr (fun k hk hd=> ?_),fun k hk=> ?_⟩
 ·rcases hd with rfl|hd
  ·exact Or.inl rfl
  ·rcases h.bl k hd with z|z
   ·exact Or.inr z
   ·omega
 ·rcases g.bl k hk with z|z
  ·exact h.bl k z
  ·exact Or.inr (Nat.le_trans h.fr.size z)
theorem Nxt.below {q:Nat} {w w':World} (V:Rv) (g:Below w.heap.size w w'):Nxt q w V w' V:=⟨Frm.below g,fun _ h=>Or.inl h⟩
theorem Nxt.box {q:Nat} {w w1 w2:World} {V V1:Rv} {D:Nat→Prop} (n:Nxt q w V w1 V1) (g:Frm D w1 w2) (hD:∀k,k < w.heap.size→¬D k):Nxt q w V w2 V1:=⟨n.fr.trans g (fun k hk hd=>absurd hd (hD k hk)),n.bl⟩
theorem Nxt.notin {q B:Nat} {w w':World} {V V':Rv} (n:Nxt q w V w' V') (hB:¬inD q V B) (hlt:B < w.heap.size):¬inD q V' B:=by
 rintro (rfl|z)
 ·exact hB (Or.inl rfl)
 ·rcases n.bl B z with y|y
  ·exact hB (Or.inr y)
  ·omega
def RowP (base q:Nat) (X:Cx) (w:World) (V:Rv) (w':World) (s:Rst):Prop:=∃V',RowM base q X w' V' s∧Nxt q w V w' V'
theorem nxtS {q:Nat} {w:World} {V:Rv} (j:Nat) (u:Value) {V':Rv} (hv:∀k,V'.has k→V.has k):Nxt q w V (w.setCell ⟨q,j,none⟩ u) V':=⟨Frm.set w q j u (Or.inl rfl),fun k hk=>Or.inl (hv k hk)⟩
theorem nxtG {q:Nat} {w:World} {V:Rv} {w':World} {v v':Value} {V':Rv} (hv:∀k,v.ownBlock=some k→V.has k) (g:w.grownBy w' v.ownBlock) (hV:∀k,V'.has k→V.has k∨v'.ownBlock=some k) (hl:AtLoc w v v') (j:Nat) (u:Value):Nxt q w V (w'.setCell ⟨q,j,none⟩ u) V':=by
 refine ⟨(Frm.grown g (fun k hk=>Or.inr (hv k hk))).trans (Frm.set (D:=inD q V) w' q j u (Or.inl rfl)) (fun _ _ z=>z),fun k hk=> ?_⟩
 rcases hV k hk with z|z
 ·exact Or.inl z
 ·rcases hl with e|e
  ·exact Or.inl (hv k (by rw[←e];exact z))
  ·rw[z] at e
   injection e with e
   exact Or.inr (by omega)
def RowT (base q:Nat) (X:Cx) (w:World) (V:Rv) (w':World) (s:Rst):Prop:=∃vt,RowM base q X w' {V with t:=vt} s∧Nxt q w V w' {V with t:=vt}
theorem own_block {base:Nat} {e:TypeId} {sz:Nat} {w:World} {v:Value} {n:Nat} {cs:List Value} (o:w.ownsRow base e sz v n cs) {k:Nat} (hk:v.ownBlock=some k):base≤k∧k < w.heap.size∧∃cur fr,w.heap[k]? =some (.cells cur e fr):=by
 obtain ⟨_,o⟩:=o
 rcases o with ⟨rfl,_⟩|⟨g,cap,cur,rfl,hb,h1,_⟩
 ·cases hk
 ·simp[Value.ownBlock] at hk
  subst hk
  exact ⟨hb,heap_lt' h1,cur,_,h1⟩
section
variable {base q:Nat} {X:Cx} {w:World} {V:Rv} {s:Rst} (h:RowM base q X w V s)
include h
theorem RowM.qlt:q < w.heap.size:=heap_lt' h.st
theorem RowM.hasge {k:Nat} (hk:V.has k):base≤k∧k < w.heap.size:=by
 rcases hk with z|z|z|z|z|⟨x,hx,z⟩
 ·exact ⟨(own_block h.tk z).1,(own_block h.tk z).2.1⟩
 ·exact ⟨(own_block h.ah z).1,(own_block h.ah z).2.1⟩
 ·exact ⟨(own_block h.bk z).1,(own_block h.bk z).2.1⟩
 ·exact ⟨(own_block h.lp z).1,(own_block h.lp z).2.1⟩
 ·exact ⟨(own_block h.row z).1,(own_block h.row z).2.1⟩
 ·exact ⟨(own_block (h.outs x hx) z).1,(own_block (h.outs x hx) z).2.1⟩
theorem RowM.inlt {k:Nat} (hk:inD q V k):base≤k∧k < w.heap.size:=by
 rcases hk with rfl|hk
 ·exact ⟨h.hq,h.qlt⟩
 ·exact h.hasge hk
theorem RowM.new {k:Nat} (hk:w.heap.size≤k):¬inD q V k:=fun z=>by have:=(h.inlt z).2;omega
theorem RowM.toB {w':World} {V':Rv} (n:Nxt q w V w' V'):Below base w w':=n.fr.toBelow (fun k hk=>(h.inlt hk).1) h.hs
theorem RowM.below {w':World} (g:Below w.heap.size w w'):RowM base q X w' V s where
 st:=h.st.below g
 tk:=own_belowN h.tk g
 ah:=own_belowN h.ah g
 bk:=own_belowN h.bk g
 lp:=own_belowN h.lp g
 ks:=h.ks
 row:=own_belowN h.row g
 outs:=fun x hx=>own_belowN (h.outs x hx) g
 sep:=h.sep
 hq:=h.hq
 hs:=Nat.le_trans h.hs g.size
theorem RowM.frm {w':World} {D:Nat→Prop} (g:Frm D w w') (hn:∀k,D k→¬inD q V k):RowM base q X w' V s where
 st:=h.st.frm g (fun z=>hn _ z (Or.inl rfl))
 tk:=own_frm h.tk g (fun k hk z=>hn _ z (Or.inr (Or.inl hk)))
 ah:=own_frm h.ah g (fun k hk z=>hn _ z (Or.inr (Or.inr (Or.inl hk))))
 bk:=own_frm h.bk g (fun k hk z=>hn _ z (Or.inr (Or.inr (Or.inr (Or.inl hk)))))
 lp:=own_frm h.lp g (fun k hk z=>hn _ z (Or.inr (Or.inr (Or.inr (Or.inr (Or.inl hk))))))
 ks:=h.ks
 row:=own_frm h.row g (fun k hk z=>hn _ z (Or.inr (Or.inr (Or.inr (Or.inr (Or.inr (Or.inl hk)))))))
 outs:=fun x hx=>own_frm (h.outs x hx) g (fun k hk z=>hn _ z (Or.inr (Or.inr (Or.inr (Or.inr (Or.inr (Or.inr ⟨x,hx,hk⟩)))))))
 sep:=h.sep
 hq:=h.hq
 hs:=Nat.le_trans h.hs g.size
theorem RowM.kS (j:Nat) (u:Value):Kept 61 w (w.setCell ⟨q,j,none⟩ u):=set_kept h.st j u
theorem RowM.put {j:Nat} {u:Value} {V':Rv} {s':Rst} {X':Cx} (hc:#[V'.t, .int .i64 s'.sz,V'.a,V'.b,V'.l,V'.k,X'.x6,X'.x7,X'.x8,X'.x9,X'.x10,X'.x11]=#[V.t, .int .i64 s.sz,V.a,V.b,V.l,V.k,X.x6,X.x7,X.x8,X.x9,X.x10,X.x11].setIfInBounds j u)
  (tk:OwQs base w V'.t s'.tk) (ah:OwB2 base w V'.a s'.ah) (bk:OwJ base w V'.b s'.bk) (lp:OwLp base w V'.l s'.lp) (ks:V'.K.map (·.1)=s'.cs) (row:OwCh base w V'.k V'.K) (outs:∀x∈V'.K,OwB2 base w x.2 x.1.2.2.2) (sep:(V'.a::V'.K.map (·.2)).Pairwise Apart):
  RowM base q X' (w.setCell ⟨q,j,none⟩ u) V' s' where
 st:=by rw[hc];exact h.st.set j u
 tk:=own_kept (h.kS j u) (by decide) tk
 ah:=own_kept (h.kS j u) (by decide) ah
 bk:=own_kept (h.kS j u) (by decide) bk
 lp:=own_kept (h.kS j u) (by decide) lp
 ks:=ks
 row:=own_kept (h.kS j u) (by decide) row
 outs:=fun x hx=>own_kept (h.kS j u) (by decide) (outs x hx)
 sep:=sep
 hq:=h.hq
 hs:=by simpa [World.setCell] using h.hs
theorem RowM.set1 (n:Int):RowM base q X (w.setCell ⟨q,1,none⟩ (.int .i64 n)) V {s with sz:=n}:=
 h.put (by simp) h.tk h.ah h.bk h.lp h.ks h.row h.outs h.sep
theorem RowM.growT {w':World} {vt:Value} {tk:List Tq} (g:w.grownBy w' V.t.ownBlock) (o:OwQs base w' vt tk):RowM base q X (w'.setCell ⟨q,0,none⟩ vt) {V with t:=vt} {s with tk:=tk}:=by
 have k:=Kept.own h.tk g
 have st:=stands_kept k (by decide) h.st
 have kS:=set_kept st 0 vt
 exact ⟨by have:=st.set 0 vt;simpa using this,own_kept kS (by decide) o,own_kept kS (by decide) (own_kept k (by decide) h.ah),own_kept kS (by decide) (own_kept k (by decide) h.bk),own_kept kS (by decide) (own_kept k (by decide) h.lp),h.ks,own_kept kS (by decide) (own_kept k (by decide) h.row),fun x hx=>own_kept kS (by decide) (own_kept k (by decide) (h.outs x hx)),h.sep,h.hq,by have:=g.size;have:=h.hs;simp[World.setCell];omega⟩
theorem RowM.wroteT {w':World} {tk:List Tq} (g:w.grownBy w' V.t.ownBlock) (o:OwQs base w' V.t tk):RowM base q X w' V {s with tk:=tk}:=by
 have k:=Kept.own h.tk g
 exact ⟨stands_kept k (by decide) h.st,o,own_kept k (by decide) h.ah,own_kept k (by decide) h.bk,own_kept k (by decide) h.lp,h.ks,own_kept k (by decide) h.row,fun x hx=>own_kept k (by decide) (h.outs x hx),h.sep,h.hq,Nat.le_trans h.hs g.size⟩
end
theorem siz_ok {t:Tq} (h:okQ t true=true):(sizF t true:Int)=szT t:=by unfold sizF szT;rw[if_pos h]
theorem wrap_i64 {c:Int} (h0: -4611686018427387904≤c) (h1:c≤4611686018427387904):IntKind.i64.wrap c=c:=by
 simp[IntKind.wrap,IntKind.bits,IntKind.signed]
 omega
set_option maxHeartbeats 4000000 in
set_option maxRecDepth 100000 in
theorem fw_lay {base q:Nat} {X:Cx} {w:World} {V:Rv} {s:Rst} (h:RowM base q X w V s) (C N O:Int) (S:ByteArray) (ok:okQ ⟨C,N,LB S,O⟩ true=true) (n0:0≤N) (n1:N < 4294967296) (hS:S.size≤maxLen) (hl:s.tk.length≤1000000) (z0:0≤s.sz) (z1:s.sz≤1000000):
  Calls Tryz.prog 64 #[.pointer (some ⟨q,0,none⟩), .agg #[.int .i64 C, .int .u32 N, .string S, .int .i64 O]] w fun e w'=>e= .returned (.tuple #[])∧RowT base q X w V w' (lay1 s ⟨C,N,LB S,O⟩):=by
 obtain ⟨i9,hi9,hz9,hz8,hz7⟩:=info_parts infoTq
 have bw:=box_below w (.cells #[.int .i64 C, .int .u32 N, .string S, .int .i64 O] 40)
 have sp:=stands_new w #[.int .i64 C, .int .u32 N, .string S, .int .i64 O] 40
 have hbl:=by_len ⟨C,N,LB S,O⟩ true ok
 have hsz:(sizF ⟨C,N,LB S,O⟩ true:Int)=szT ⟨C,N,LB S,O⟩:=siz_ok ok
 have cz:=fun w=>w_psize C N O S true w n0 n1 hS
 simp only[hsz] at cz
 have hsb:0≤szT ⟨C,N,LB S,O⟩∧szT ⟨C,N,LB S,O⟩≤260:=by unfold szT;omega
 obtain ⟨Z,hZ⟩:∃Z,szT ⟨C,N,LB S,O⟩=Z:=⟨_,rfl⟩
 rw[hZ] at hsb cz
 have HZ:=hid hZ
 have HW:Hid (IntKind.i64.wrap (s.sz+Z)=s.sz+Z):=hid (wrap_i64 (by omega) (by omega))
 clear hZ hbl ok hsz
 go_enter Tryz.func64,Tryz.ntmps64
 go_upto_region 1 with fail
 have h0:=h.below bw
 have nx0:=Nxt.below (q:=q) V bw
 generalize w.alloc (.cells #[.int .i64 C, .int .u32 N, .string S, .int .i64 O] 40)=W0 at bw sp h0 nx0 ⊢
 have f0:=h0.st.cell 0 _ rfl
 have y0:=sp.cell 0 _ rfl
 have y1:=sp.cell 1 _ rfl
 have y2:=sp.cell 2 _ rfl
 have y3:=sp.cell 3 _ rfl
 have bX:=box_below W0 (.cells #[.int .i64 C, .int .u32 N, .string S, .int .i64 O] 40)
 have bd:Below (W0.alloc (.cells #[.int .i64 C, .int .u32 N, .string S, .int .i64 O] 40)).heap.size (W0.alloc (.cells #[.int .i64 C, .int .u32 N, .string S, .int .i64 O] 40)) (W0.alloc (.cells #[.int .i64 C, .int .u32 N, .string S, .int .i64 O] 40)).drew:=below_drewN (Below.refl _ _) 1
 have b3:=below_trans bX bd
 have h3:=h0.below b3
 have nx3:=nx0.trans (Nxt.below V b3)
 have sp3:=sp.below b3
 have f1:=(h0.below bX).st.cell 0 _ rfl
 have y4:=(sp.below bX).cell 0 _ rfl
 have y5:=(sp.below bX).cell 1 _ rfl
 have y6:=(sp.below bX).cell 2 _ rfl
 have y7:=(sp.below bX).cell 3 _ rfl
 have hnew:∀j u,[Value.int .i64 C, .int .u32 N, .string S, .int .i64 O][j]? =some u→(W0.alloc (.cells #[.int .i64 C, .int .u32 N, .string S, .int .i64 O] 40)).drew.cell? ⟨W0.heap.size,j,none⟩=some u:=fun j u hu=>below_cell bd (alloc_row W0 [Value.int .i64 C, .int .u32 N, .string S, .int .i64 O] 40 j u hu)
 have one:∀u∈[Value.int .i64 C, .int .u32 N, .string S, .int .i64 O],u.oneCell'=true:=fun u hu=>by simp at hu;rcases hu with rfl|rfl|rfl|rfl <;> rfl
 have p3:=h3.tk
 unfold OwQs at p3
 have hsX:=h3.hs
 have H3:=hid h3
 have N3:=hid nx3
 have S3:=hid sp3
 have hqW:w.heap.size≠q:=fun e=>by have:=h.qlt;omega
 have hs1:=h.st.cell 1 _ rfl
 clear h3 nx3 b3 bX bd h0 nx0 sp sp3
 go_wp2_with fail
 go_region_law (refine step_append_at rfl (.tmp 8) (.tmp 10) 23 rfl base 40 i9 _ 4 40 Tryz.underlying23 hi9 hz9 hz8 hz7 rfl (by decide) V.t s.tk.length _ (by simp[Act.eval,Act.put]) p3 W0.heap.size 1 1 [.int .i64 C, .int .u32 N, .string S, .int .i64 O] (by simp[Act.eval,Act.put]) rfl hnew one (by unfold maxLen;omega) (by omega) hsX ?_;intro v9 w9 ho9 hg9 hl9;obtain ⟨a9,c9,rfl⟩:=own_form ho9;have so9:=stands_kept (Kept.own p3 hg9) (by decide) H3.out.st;have u0:=so9.cell 0 _ rfl;have uf:=so9.free 0;have HO:=hid ho9;clear ho9)
 all_goals (
  have oC9:OwQs base w9 (.slice a9 (s.tk.length+1) c9) (s.tk++[⟨C,N,LB S,O⟩]):=by
   have:=HO.out
   unfold OwQs
   rw[List.flatMap_append,List.length_append]
   simpa [tqC,nums_LB] using this
  have h9:=H3.out.growT hg9 oC9
  have n9:Nxt q _ V _ {V with t:= .slice a9 (s.tk.length+1) c9}:=N3.out.trans (nxtG (v:=V.t) (v':= .slice a9 (s.tk.length+1) c9) (fun k hk=>Or.inl hk) hg9 (fun k hk=>Rv.hasT hk) hl9 0 (.slice a9 (s.tk.length+1) c9))
  have hne9:some w.heap.size≠V.t.ownBlock:=fun e=>by have:=(h.hasge (Or.inl e.symm)).2;omega
  have sp9:=(S3.out.grown hg9 hne9).other 0 (.slice a9 (s.tk.length+1) c9) hqW
  generalize w9.setCell ⟨q,0,none⟩ (.slice a9 (s.tk.length+1) c9)=W9 at h9 n9 sp9 ⊢
  have H9:=hid h9
  have N9:=hid n9
  have e1:=h9.st.cell 1 _ rfl
  have e2:=sp9.cell 0 _ rfl
  have e3:=sp9.cell 1 _ rfl
  have e4:=sp9.cell 2 _ rfl
  have e5:=sp9.cell 3 _ rfl
  clear h9 n9 sp9 hg9 hl9 so9 u0 uf oC9 HO p3 H3 N3 S3 hnew one f0 f1 y0 y1 y2 y3 y4 y5 y6 y7 hsX
  go_wp2_with fail
  go_region_with (go_at_call 94;refine (cz _).mono ?_;rintro e w5 ⟨rfl,b5⟩;have h5:=H9.out.below (below_trans (below_drewN (Below.refl _ W9) 1) b5);have n5:=N9.out.trans (Nxt.below _ (below_trans (below_drewN (Below.refl _ W9) 1) b5));have g1:=h5.st.cell 1 _ rfl;have gf:=h5.st.free 1;have H5:=hid h5;have N5:=hid n5;clear h5 n5)
  all_goals (
   go_wp2_with fail
   go_end0
   refine ⟨rfl,_,(?_:RowM base q X _ _ _),N5.out.trans (nxtS 1 _ (fun k z=>z))⟩
   have:=H5.out.set1 (s.sz+Z)
   unfold lay1
   rw[HZ.out,HW.out]
   exact this))
theorem rd_st1 {w:World} {B:Nat} {c:Int} {T:TypeId} (h:Stands w B #[.int .i64 c] T):Rd .i64 w (.slice (some ⟨B,0,none⟩) 1 1) [c]:=by
 refine Or.inr ⟨B,0,1,rfl,by simp,by simp,by decide,fun i hi=> ?_⟩
 have:i=0:=by simp at hi;omega
 subst this
 exact h.cell 0 _ rfl
theorem uJf:Tryz.prog.underlying 55=some (.slice (Tryz.prog.elem 55)):=by kernel_rfl
theorem eJf:Tryz.prog.elem 55=3:=by kernel_rfl
theorem zJf (w:World):(sizeOf (Tryz.prog.elem 55)).run Tryz.prog w= .ok 1 w:=by rw[eJf];exact Tryz.sizeOf3 w
theorem emp_LB:LB ⟨#[]⟩=[]:=by decide
set_option maxHeartbeats 4000000 in
set_option maxRecDepth 100000 in
theorem fw_codes {base q:Nat} {X:Cx} {w:World} {V:Rv} {s:Rst} (h:RowM base q X w V s) (C:Int) (B:Nat) (sb:Stands w B #[.int .i64 C] 3) (hB:¬inD q V B) (ok:okQ (cdT C) true=true) (hl:s.tk.length≤1000000) (z0:0≤s.sz) (z1:s.sz≤1000000):
  Calls Tryz.prog 37 #[.pointer (some ⟨q,0,none⟩), .slice (some ⟨B,0,none⟩) 1 1] w fun e w'=>e= .returned (.tuple #[])∧RowT base q X w V w' (lay1 s (cdT C)):=by
 have hla:=rd_len (rd_st1 sb) uJf (P:=Tryz.prog)
 simp only[List.length_singleton] at hla
 obtain ⟨a1,i1,c1⟩:=rd_idx (rd_st1 sb) uJf zJf 0 (by omega) (by simp)
 simp only[List.getD_cons_zero,Int.toNat_zero] at c1
 have cl:=fw_lay h C 0 0 ⟨#[]⟩ (by rw[emp_LB];exact ok) (by decide) (by decide) (by decide) hl z0 z1
 rw[emp_LB] at cl
 clear h sb hB ok
 go_enter Tryz.func37,Tryz.ntmps37
 go_wp2_with fail
 go_loopw [8] (fun I wx=>(I= .int .i64 0∧wx=w)∨(I= .int .i64 1∧RowT base q X w V wx (lay1 s (cdT C)))) (fun I _=>(1 - intOf I).toNat)
 case atStart=>exact Or.inl ⟨rfl,rfl⟩
 case round=>
  rcases hrel with ⟨rfl,rfl⟩|⟨rfl,hr⟩
  ·go_wp2_with (first|(go_at_call 64;refine cl.mono ?_;rintro e w5 ⟨rfl,h5⟩)|fail)
   go_roundw
   case rel=>exact Or.inr ⟨by go_num,h5⟩
   case measure=>simp[intOf]
  ·go_wp2_with fail
   go_end0
   exact ⟨rfl,hr⟩
theorem res_row1 {P:Program} {fn:Func} {p:Tmp} {ty:TypeId} (h:fn.results=#[.cell p ty]) (tmps:Array Value) (w:World) (g:Nat) (t:TypeId) (cs:Array Value) (fr:Nat×Nat) (d:TypeDesc)
  (hp:tmps.getD p undef= .pointer (some ⟨g,0,none⟩)) (hg:w.heap[g]? =some (.cells cs t fr))
  (hu:P.underlying ty=some d) (hd:(match d with| .struct _| .array _ _=>true|_=>false)=true) (hi:(P.info? ty).map (·.size)=some cs.size):
  (results fn tmps).run P w= .ok (.agg cs) w:=by
 have hp':tmps[p]?.getD undef= .pointer (some ⟨g,0,none⟩):=by simpa using hp
 simp[results,h,hp',asAddr,run_loadVar_row w g t ty cs fr d hg hu hd hi]
theorem set2 {w:World} {b:Nat} {z0 z1:Value} {T:TypeId} (h:Stands w b #[z0,z1] T) (a0 a1:Value):Stands ((w.setCell ⟨b,0,none⟩ a0).setCell ⟨b,1,none⟩ a1) b #[a0,a1] T:=by
 have h4:=(h.set 0 a0).set 1 a1
 simpa only[List.setIfInBounds_toArray,List.set_cons_zero,List.set_cons_succ] using h4
def brV (b:Int×Int):Value:= .agg #[.int .i64 b.1, .int .i64 b.2]
set_option maxHeartbeats 4000000 in
set_option maxRecDepth 100000 in
theorem fw_branch {base q:Nat} {X:Cx} {w:World} {V:Rv} {s:Rst} (h:RowM base q X w V s) (C:Int) (ok:okQ (cdT C) true=true) (hl:s.tk.length≤1000000) (z0:0≤s.sz) (z1:s.sz≤1000000):
  Calls Tryz.prog 111 #[.pointer (some ⟨q,0,none⟩), .int .i64 C] w fun e w'=>e= .returned (brV (brn s C))∧RowT base q X w V w' (lay1 s (cdT C)):=by
 have hla:=slr_len (OwQs.read h.tk) uQ (P:=Tryz.prog)
 have hsb:=by_len (cdT C) true ok
 obtain ⟨Z,hZ⟩:∃Z,szT (cdT C)=Z:=⟨_,rfl⟩
 have hz:0≤Z∧Z≤260:=by rw[←hZ];unfold szT;omega
 have bw:=box_below w (.cells #[.int .i64 0, .int .i64 0] 158)
 have sp:=stands_new w #[.int .i64 0, .int .i64 0] 158
 have h0:=h.below bw
 have nx0:=Nxt.below (q:=q) V bw
 have hR:=h.new (Nat.le_refl w.heap.size)
 have f0:=h0.st.cell 0 _ rfl
 clear hsb
 go_enter Tryz.func111,Tryz.ntmps111
 go_upto_region 2 with fail
 generalize w.alloc (.cells #[.int .i64 0, .int .i64 0] 158)=W0 at bw sp h0 nx0 f0 ⊢
 have b1:=box_below W0 (.cells #[.int .i64 C] 3)
 have h1:=h0.below b1
 have cl:=fw_codes h1 C W0.heap.size (stands_new W0 _ _) (h0.new (Nat.le_refl _)) ok hl z0 z1
 have n1:=nx0.trans (Nxt.below V b1)
 have sp1:=sp.below b1
 have N1:=hid n1
 have S1:=hid sp1
 have HR:=hid hR
 have ZZ:=hid hZ
 have HS:Hid (s.sz+Z=(lay1 s (cdT C)).sz):=hid (by unfold lay1;rw[hZ])
 have hlt1:=Nat.lt_of_lt_of_le (heap_lt' sp) b1.size
 clear h h0 h1 nx0 n1 sp sp1 b1 hR hZ
 go_upto_region 3 with (go_at_call 37;refine cl.mono ?_;rintro e w5 ⟨rfl,V5,h5,n5⟩)
 have sp5:=S1.out.frm n5.fr HR.out
 have f1:=h5.st.cell 1 _ rfl
 rw[←HS.out] at f1
 have g0:=sp5.cell 0 _ rfl
 have g1:=sp5.cell 1 _ rfl
 have gf:=sp5.free
 have G1:Hid (Stands _ w.heap.size #[.int .i64 s.tk.length, .int .i64 (s.sz+Z - 2)] 158):=set2 sp5 (.int .i64 s.tk.length) (.int .i64 (s.sz+Z - 2))
 have bF:Hid (Frm (fun k=>k=w.heap.size) w5 _):=((Frm.set (D:=fun k=>k=w.heap.size) w5 w.heap.size 0 (.int .i64 s.tk.length) rfl).trans (Frm.set (D:=fun k=>k=w.heap.size) _ w.heap.size 1 (.int .i64 (s.sz+Z - 2)) rfl) (fun _ _ z=>z))
 have H5:=hid h5
 have N5:=hid (N1.out.trans n5)
 have HN:=hid (n5.notin HR.out hlt1)
 clear h5 n5 sp5
 go_wp2_with fail
 (try simp only[Exit.inBlock,Exit.then])
 refine bodyPost_ret (res_row1 rfl _ _ w.heap.size 158 _ (0,0) _ rfl G1.out Tryz.underlying158 rfl (show _=some 2 by kernel_rfl)) rfl ?_
 refine ⟨by unfold brV brn;rw[ZZ.out],V5,H5.out.frm bF.out (fun k hk=>by rw[hk];exact HN.out),N5.out.box bF.out (fun k hk=>by omega)⟩
def brR (_:World) (cs:List Value) (b:Int×Int):Prop:=cs=brC b
theorem uB2:Tryz.prog.underlying 54=some (.slice (Tryz.prog.elem 54)):=by kernel_rfl
theorem eB2:Tryz.prog.elem 54=158:=by kernel_rfl
theorem zB2 (w:World):(sizeOf (Tryz.prog.elem 54)).run Tryz.prog w= .ok 2 w:=by rw[eB2];exact Tryz.sizeOf158 w
theorem OwB2.read {base:Nat} {w:World} {v:Value} {l:List (Int×Int)} (h:OwB2 base w v l):SlR 2 brR w v l:=slr_rows brC (fun _ _=>rfl) (by decide) h (fun _ _=>rfl)
theorem br_one {w:World} {B:Nat} {b:Int×Int} {T:TypeId} (h:Stands w B #[.int .i64 b.1, .int .i64 b.2] T):SlR 2 brR w (.slice (some ⟨B,0,none⟩) 1 1) [b]:=by
 refine ⟨[brC b],Or.inr ⟨B,0,1,rfl,by simp,by simp,by decide,fun i hi=> ?_⟩,by simp,fun i hi=> ?_⟩
 ·have:i=0:=by simp at hi;omega
  subst this
  refine ⟨rfl,fun j hj=> ?_⟩
  have hj2:j=0∨j=1:=by omega
  rcases hj2 with rfl|rfl
  ·exact h.cell 0 _ rfl
  ·exact h.cell 1 _ rfl
 ·have:i=0:=by simp at hi;omega
  subst this
  rfl
theorem br_at {w:World} {v:Value} {l:List (Int×Int)} (h:SlR 2 brR w v l) (i:Nat) (h1:i < l.length):
  ∃(b o:Nat),(∀w',(Instr.indexAt 54 v (.int .i64 (i:Int))).run Tryz.prog w'= .ok (.pointer (some ⟨b,o,none⟩)) w')∧w.cell? ⟨b,o,none⟩=some (.int .i64 l[i].1)∧w.cell? ⟨b,o+1,none⟩=some (.int .i64 l[i].2):=by
 obtain ⟨b,o,cs,r,hl,hc,h2⟩:=slr_idxN h uB2 zB2 i h1
 have h3:cs=[.int .i64 l[i].1, .int .i64 l[i].2]:=h2
 subst h3
 exact ⟨b,o,r,hc 0 (by omega),hc 1 (by omega)⟩
theorem own_take {w:World} {base:Nat} {e:TypeId} {sz g n cap:Nat} {cs:List Value} (h:w.ownsRow base e sz (.slice (some ⟨g,0,none⟩) n cap) n cs) (m:Nat) (hm:m≤n):w.ownsRow base e sz (.slice (some ⟨g,0,none⟩) m cap) m (cs.take (m*sz)):=by
 obtain ⟨hl,h⟩:=h
 have hle:m*sz≤n*sz:=Nat.mul_le_mul_right _ hm
 refine ⟨by rw[List.length_take];omega, ?_⟩
 rcases h with ⟨h,_⟩|⟨g',cap',cur,he,hb,hg,hc,hx,hs,ht⟩
 ·simp at h
 ·simp at he
  obtain ⟨rfl,rfl⟩:=he
  refine Or.inr ⟨g,cap,cur,rfl,hb,hg,by omega,hx,hs, ?_⟩
  rw[←ht,List.take_take,Nat.min_eq_left hle]
theorem idx_g {t:TypeId} {sz:Nat} (ht:Tryz.prog.underlying t=some (.slice (Tryz.prog.elem t))) (hs:∀w,(sizeOf (Tryz.prog.elem t)).run Tryz.prog w= .ok sz w) (g n cap:Nat) (x:Int) (h0:0≤x) (h1:x < n):
  ∀w',(Instr.indexAt t (.slice (some ⟨g,0,none⟩) n cap) (.int .i64 x)).run Tryz.prog w'= .ok (.pointer (some ⟨g,x.toNat*sz,none⟩)) w':=by
 intro w'
 rw[run_indexAt_slice (h:=ht),if_pos ⟨h0,h1⟩,hs]
 simp only[Result.andThen]
 congr 3
 unfold Addr.add
 split
 ·rename_i hz;rw[hz]
 ·simp
theorem cut_g {t:TypeId} {sz:Nat} (ht:Tryz.prog.underlying t=some (.slice (Tryz.prog.elem t))) (hs:∀w,(sizeOf (Tryz.prog.elem t)).run Tryz.prog w= .ok sz w) (g n cap:Nat) (hn:0 < n) (hc:n≤cap):
  ∀w',(Instr.slice t (.slice (some ⟨g,0,none⟩) n cap) none (some (.int .i64 ((n:Int) - 1))) none).run Tryz.prog w'= .ok (.slice (some ⟨g,0,none⟩) (n - 1) cap) w':=by
 intro w'
 rw[run_slice_h w' t _ n cap ht .i64 ((n:Int) - 1) (by omega) (by omega),hs]
 simp[Result.andThen,sliced,Addr.add]
theorem own_cap {w:World} {base:Nat} {e:TypeId} {sz g n cap:Nat} {cs:List Value} (o:w.ownsRow base e sz (.slice (some ⟨g,0,none⟩) n cap) n cs):n≤cap:=by
 obtain ⟨_,o⟩:=o
 rcases o with ⟨h,_⟩|⟨b,cap',cur,h,h1,h2,h3⟩
 ·simp at h
 ·simp at h
  obtain ⟨rfl,rfl⟩:=h
  omega
theorem flat_same {α:Type} (f:α→List Value) (l:List α):l.flatMap f=(l.map f).flatten:=by rw[List.flatMap_def]
theorem led1_len (to:Int) (tk:List Tq) (b:Int×Int):(led1 to tk b).length=tk.length:=by unfold led1;simp
theorem ledL_len (to:Int):∀(bs:List (Int×Int)) (tk:List Tq),(ledL to tk bs).length=tk.length
 |[],tk=>rfl
 |b::bs,tk=>by unfold ledL;rw[List.foldl_cons];exact (ledL_len to bs _).trans (led1_len to tk b)
theorem tq_put {base g cap:Nat} {w:World} {tk:List Tq} (h:OwQs base w (.slice (some ⟨g,0,none⟩) tk.length cap) tk) (b:Int×Int) (to:Int) (h0:0≤b.1) (h1:b.1 < tk.length):
  OwQs base (w.setCell ⟨g,b.1.toNat*4+3,none⟩ (.int .i64 (to - b.2))) (.slice (some ⟨g,0,none⟩) tk.length cap) (led1 to tk b)∧(∃u,w.cell? ⟨g,b.1.toNat*4+3,none⟩=some u)∧w.frozen? ⟨g,b.1.toNat*4+3,none⟩=false:=by
 unfold OwQs at h ⊢
 have hb:b.1.toNat < tk.length:=by omega
 have h2:∀r∈tk.map tqC,r.length=4:=by
  intro r hr
  obtain ⟨x,_,rfl⟩:=List.mem_map.1 hr
  rfl
 obtain ⟨s1,s2⟩:=h.stored (b.1.toNat*4+3) (.int .i64 (to - b.2))
 have hg:(tk.map tqC).getD b.1.toNat []=tqC (tk.getD b.1.toNat ⟨0,0,[],0⟩):=by
  rw[List.getD_eq_getElem?_getD,List.getElem?_map,List.getElem?_eq_getElem hb,List.getD_eq_getElem?_getD,List.getElem?_eq_getElem hb]
  rfl
 refine ⟨?_,⟨_,own_cell h _ _ (by rw[flat_same,flat_get _ 4 _ _ h2 (by simpa using hb) (by decide),hg];rfl)⟩,h.frozenAt _⟩
 rw[flat_same,flat_set _ 4 _ _ _ h2 (by simpa using hb) (by decide),hg] at s1
 rw[led1_len,flat_same]
 have e:(led1 to tk b).map tqC=(tk.map tqC).set b.1.toNat ((tqC (tk.getD b.1.toNat ⟨0,0,[],0⟩)).set 3 (.int .i64 (to - b.2))):=by
  unfold led1
  rw[List.map_set]
  rfl
 rw[e]
 exact s1
theorem led_take (to:Int) (tk:List Tq) (bs:List (Int×Int)) (k:Nat) (h:k < bs.length):ledL to tk (bs.take (k+1))=led1 to (ledL to tk (bs.take k)) bs[k]:=by
 rw[List.take_succ_eq_append_getElem h]
 unfold ledL
 rw[List.foldl_append]
 rfl
set_option maxHeartbeats 4000000 in
set_option maxRecDepth 100000 in
theorem fw_lead {base q:Nat} {X:Cx} {w:World} {V:Rv} {s:Rst} (h:RowM base q X w V s) (to:Int) (vl:Value) (bs:List (Int×Int)) (hv:∀W,Kept 40 w W→SlR 2 brR W vl bs) (hin:∀b∈bs,(0≤b.1∧b.1 < s.tk.length)∧ -2000000≤b.2∧b.2≤2000000) (hp:0 < s.tk.length) (t0: -2000000≤to) (t1:to≤2000000):
  Calls Tryz.prog 127 #[.pointer (some ⟨q,0,none⟩), .int .i64 to,vl] w fun e w'=>e= .returned (.tuple #[])∧RowM base q X w' V (led s to bs)∧Nxt q w V w' V:=by
 obtain ⟨g,cap,hV⟩:=own_some h.tk hp
 have hv':∀W,w.grownBy W (some g)→SlR 2 brR W vl bs:=fun W hg=>hv W (Kept.own h.tk (by rw[hV];exact hg))
 have hla:=slr_len (hv' w (gb_refl w _)) uB2 (P:=Tryz.prog)
 have hm:=slr_max (hv' w (gb_refl w _))
 unfold maxLen at hm
 have otk:OwQs base w (.slice (some ⟨g,0,none⟩) s.tk.length cap) s.tk:=by rw[←hV];exact h.tk
 have hfin:∀W tk,w.grownBy W (some g)→OwQs base W (.slice (some ⟨g,0,none⟩) s.tk.length cap) tk→RowM base q X W V {s with tk:=tk}∧Nxt q w V W V:=fun W tk hg o=>by
  rw[←hV] at o
  have hg':w.grownBy W V.t.ownBlock:=by rw[hV];exact hg
  exact ⟨h.wroteT hg' o,Frm.grown hg' (fun k hk=>Or.inr (Or.inl hk)),fun k z=>Or.inl z⟩
 have HF:=hid hfin
 have HL:=hid hv'
 have HI:=hid hin
 have HV:=hid hV
 clear hv hv' hin hV h hfin
 go_enter Tryz.func127,Tryz.ntmps127
 go_wp2_with fail
 go_loopw [10] (fun I wx=>∃k:Nat,(k:Int)≤bs.length∧I= .int .i64 k∧OwQs base wx (.slice (some ⟨g,0,none⟩) s.tk.length cap) (ledL to s.tk (bs.take k))∧w.grownBy wx (some g)) (fun I _=>(bs.length - intOf I).toNat)
 case atStart=>exact ⟨0,by omega,rfl,otk,gb_refl _ _⟩
 case round=>
  clear otk
  obtain ⟨k,hk,rfl,oT,hg⟩:=hrel
  by_cases hlt:(k:Int) < bs.length
  ·have hkl:k < bs.length:=by omega
   obtain ⟨hR,hN⟩:=HF.out wr _ hg oT
   obtain ⟨b,o,r1,d0,d1⟩:=br_at (HL.out wr hg) k hkl
   have hx:=HI.out _ (List.getElem_mem hkl)
   have htk:=led_take to s.tk bs k hkl
   obtain ⟨Y,hY⟩:∃Y,bs[k]=Y:=⟨_,rfl⟩
   rw[hY] at d0 d1 hx htk
   obtain ⟨x,y⟩:=Y
   simp only at d0 d1 hx
   obtain ⟨⟨x0,x1⟩,y0,y1⟩:=hx
   obtain ⟨T,hT⟩:∃T,ledL to s.tk (bs.take k)=T:=⟨_,rfl⟩
   have hlT:T.length=s.tk.length:=by rw[←hT];exact ledL_len _ _ _
   rw[hT] at oT htk
   have st:=hR.st
   rw[HV.out] at st
   have bq:q≠g:=fun e=>stands_apart st oT (by decide) (by rw[e];rfl)
   have HT:=hid htk
   have HG:=hid hg
   have HO:=hid oT
   have ST:=hid st
   have SB:=hid (stands_new wr #[.int .i64 x, .int .i64 y] 158)
   have BB:=hid (box_below wr (.cells #[.int .i64 x, .int .i64 y] 158))
   clear hT hY hg oT st hR hN htk
   go_upto_region 3 with fail
   generalize wr.alloc (.cells #[.int .i64 x, .int .i64 y] 158)=Wb at SB BB ⊢
   have f0:=(ST.out.below BB.out).cell 0 _ rfl
   have e0:=SB.out.cell 0 _ rfl
   have e1:=SB.out.cell 1 _ rfl
   have oB:OwQs base Wb (.slice (some ⟨g,0,none⟩) T.length cap) T:=by rw[hlT];exact own_belowN HO.out BB.out
   have oBd:OwQs base Wb.drew (.slice (some ⟨g,0,none⟩) T.length cap) T:=own_belowN oB (below_drewN (Below.refl _ Wb) 1)
   obtain ⟨s1,⟨u,s2⟩,s3⟩:=tq_put oBd (x,y) to x0 (by show x < (T.length:Int);omega)
   obtain ⟨_,⟨u',y1'⟩,y2'⟩:=tq_put oB (x,y) to x0 (by show x < (T.length:Int);omega)
   simp only at s1 s2 s3 y1' y2'
   have ix:=idx_g uQ zQ g s.tk.length cap x x0 x1
   have S1:=hid s1
   have hlT':=hid hlT
   clear s1 oB oBd hlT d0 d1 r1
   go_wp2_with fail
   go_region
   all_goals (
    go_wp2_with fail
    have b9:w.grownBy _ (some g):=gb_set (gb_below (gb_below HG.out BB.out) (below_drewN (Below.refl _ Wb) 1)) (x.toNat*4+3) (.int .i64 (to - y))
    go_roundw
    case rel=>exact ⟨k+1,by omega,by go_num,by rw[HT.out];have:=S1.out;rw[hlT'.out] at this;exact this,b9⟩
    case measure=>simp[intOf];omega)
  ·have hfull:bs.take k=bs:=List.take_of_length_le (by omega)
   rw[hfull] at oT
   obtain ⟨hR,hN⟩:=HF.out wr _ hg oT
   go_wp2_with fail
   go_end0
   exact ⟨rfl,hR,hN⟩
theorem flatC_get {α:Type} (C:α→List Value) (sz:Nat) (hC:∀x,(C x).length=sz) (l:List α) (i j:Nat) (hi:i < l.length) (hj:j < sz):(l.flatMap C)[i*sz+j]? =(C l[i])[j]? :=by
 have h2:∀r∈l.map C,r.length=sz:=by
  intro r hr
  obtain ⟨x,_,rfl⟩:=List.mem_map.1 hr
  exact hC x
 rw[flat_same,flat_get _ sz i j h2 (by simpa using hi) hj,List.getD_eq_getElem?_getD,List.getElem?_map,List.getElem?_eq_getElem hi]
 rfl
theorem flatC_take {α:Type} (C:α→List Value) (sz:Nat) (hC:∀x,(C x).length=sz) (l:List α) (k:Nat):(l.flatMap C).take (k*sz)=(l.take k).flatMap C:=by
 induction l generalizing k with
 |nil=>simp
 |cons x l ih=>
  cases k with
  |zero=>simp
  |succ k=>
   rw[List.flatMap_cons,List.take_succ_cons,List.flatMap_cons,←ih,List.take_append,hC,List.take_of_length_le (by rw[hC,Nat.add_mul];omega)]
   congr 2
   rw[Nat.add_mul]
   omega
theorem last_get {α:Type} {l:List α} {x:α} (h:l.getLast? =some x):∃hl:l.length - 1 < l.length,l[l.length - 1]=x:=by
 rw[List.getLast?_eq_getElem?] at h
 obtain ⟨h1,h2⟩:=List.getElem?_eq_some_iff.1 h
 exact ⟨h1,h2⟩
theorem row_last {α:Type} (C:α→List Value) {sz:Nat} (hC:∀x,(C x).length=sz) {base g cap:Nat} {e:TypeId} {w:World} {l:List α} (o:w.ownsRow base e sz (.slice (some ⟨g,0,none⟩) l.length cap) l.length (l.flatMap C)) {x:α} (h:l.getLast? =some x) (j:Nat) (hj:j < sz) (u:Value) (hu:(C x)[j]? =some u):
  w.cell? ⟨g,(l.length - 1)*sz+j,none⟩=some u:=by
 obtain ⟨h1,h2⟩:=last_get h
 exact own_cell o _ _ (by rw[flatC_get C sz hC l _ j h1 hj,h2];exact hu)
theorem row_below {α:Type} (C:α→List Value) {sz:Nat} (hC:∀x,(C x).length=sz) {base g cap:Nat} {e:TypeId} {w:World} {l:List α} (o:w.ownsRow base e sz (.slice (some ⟨g,0,none⟩) l.length cap) l.length (l.flatMap C)):
  w.ownsRow base e sz (.slice (some ⟨g,0,none⟩) (l.length - 1) cap) l.dropLast.length (l.dropLast.flatMap C):=by
 have:=own_take o (l.length - 1) (by omega)
 rw[flatC_take C sz hC] at this
 rw[List.length_dropLast,List.dropLast_eq_take]
 exact this
theorem set3 {w:World} {b:Nat} {z0 z1 z2:Value} {T:TypeId} (h:Stands w b #[z0,z1,z2] T) (a0 a1 a2:Value):Stands (((w.setCell ⟨b,0,none⟩ a0).setCell ⟨b,1,none⟩ a1).setCell ⟨b,2,none⟩ a2) b #[a0,a1,a2] T:=by
 have h4:=((h.set 0 a0).set 1 a1).set 2 a2
 simpa only[List.setIfInBounds_toArray,List.set_cons_zero,List.set_cons_succ] using h4
def lpV (b:Int×Int×Int):Value:= .agg #[.int .i64 b.1, .int .i64 b.2.1, .int .i64 b.2.2]
def chV (x:Ch×Value):Value:= .agg #[.bool x.1.1, .int .i64 x.1.2.1, .int .i64 x.1.2.2.1,x.2]
theorem uL3:Tryz.prog.underlying 56=some (.slice (Tryz.prog.elem 56)):=by kernel_rfl
theorem eL3:Tryz.prog.elem 56=171:=by kernel_rfl
theorem zL3 (w:World):(sizeOf (Tryz.prog.elem 56)).run Tryz.prog w= .ok 3 w:=by rw[eL3];exact Tryz.sizeOf171 w
theorem uC4:Tryz.prog.underlying 57=some (.slice (Tryz.prog.elem 57)):=by kernel_rfl
theorem eC4:Tryz.prog.elem 57=162:=by kernel_rfl
theorem zC4 (w:World):(sizeOf (Tryz.prog.elem 57)).run Tryz.prog w= .ok 4 w:=by rw[eC4];exact Tryz.sizeOf162 w
theorem own_len {base:Nat} {e:TypeId} {sz:Nat} {w:World} {v:Value} {n:Nat} {cs:List Value} (o:w.ownsRow base e sz v n cs) {t:TypeId} (ht:Tryz.prog.underlying t=some (.slice (Tryz.prog.elem t))):∀ty w',(Builtin.len_ #[t] ty #[v]).run Tryz.prog w'= .ok (.int .i64 n) w':=by
 obtain ⟨ao,cap,rfl⟩:=own_form o
 intro ty w'
 simp[Builtin.len_,run_underlying ht,goInt]
theorem own_max {base:Nat} {e:TypeId} {sz:Nat} {w:World} {v:Value} {n:Nat} {cs:List Value} (o:w.ownsRow base e sz v n cs):n≤maxLen:=by
 rcases o.2 with ⟨_,h0⟩|⟨g,cap,cur,hv,h1,h2,h3,h4,_⟩
 ·rw[h0];exact Nat.zero_le _
 ·omega
set_option maxHeartbeats 1000000 in
theorem fw_newB0 {base:Nat} (v:Value) (w:World) (o:OwB2 base w v []):
  Calls Tryz.prog 126 #[v] w fun e w'=>e= .returned (.tuple #[.agg #[.int .i64 0, .int .i64 0], .slice none 0 0, .int .i64 13])∧Below w.heap.size w w':=by
 have hla:=own_len o uB2
 simp only[List.length_nil] at hla
 clear o
 go_enter Tryz.func126,Tryz.ntmps126
 go_upto_region 1 with fail
 have st:=stands_new w #[.int .i64 0, .int .i64 0] 158
 have bw:=box_below w (.cells #[.int .i64 0, .int .i64 0] 158)
 generalize w.alloc (.cells #[.int .i64 0, .int .i64 0] 158)=W0 at st bw ⊢
 have b2:=box_below W0 (.cells #[.int .i64 0, .int .i64 0] 158)
 have st2:=st.below b2
 have s0:=st2.cell 0 _ rfl
 have s1:=st2.cell 1 _ rfl
 have sf:=st2.free
 have g1:Stands _ w.heap.size #[.int .i64 0, .int .i64 0] 158:=set2 st2 (.int .i64 0) (.int .i64 0)
 have J:=(below_set (below_set (below_trans bw b2) w.heap.size 0 (.int .i64 0) (Nat.le_refl _)) w.heap.size 1 (.int .i64 0) (Nat.le_refl _))
 go_wp2_with fail
 (try simp only[Exit.inBlock,Exit.then])
 refine bodyPost_ret (res_row3 rfl _ _ w.heap.size 158 _ (0,0) _ rfl g1 Tryz.underlying158 rfl (show _=some 2 by kernel_rfl)) rfl ?_
 exact ⟨rfl,J⟩
set_option maxHeartbeats 1000000 in
theorem fw_newB {base g cap:Nat} (l:List (Int×Int)) (x:(Int×Int)) (w:World) (o:OwB2 base w (.slice (some ⟨g,0,none⟩) l.length cap) l) (hl:l.getLast? =some x):
  Calls Tryz.prog 126 #[.slice (some ⟨g,0,none⟩) l.length cap] w fun e w'=>e= .returned (.tuple #[brV x, .slice (some ⟨g,0,none⟩) (l.length - 1) cap, .int .i64 0])∧Below w.heap.size w w':=by
 obtain ⟨x1,x2⟩:=x
 have c0:=row_last brC (fun _=>rfl) o hl 0 (by decide) (.int .i64 x1) rfl
 have c1:=row_last brC (fun _=>rfl) o hl 1 (by decide) (.int .i64 x2) rfl
 simp only[Nat.add_zero] at c0
 have hla:=own_len o uB2
 have hm:l.length≤maxLen:=own_max o
 have hp0:0 < l.length:=by obtain ⟨h1,_⟩:=last_get hl;omega
 have ix:=idx_g uB2 zB2 g l.length cap ((l.length:Int) - 1) (by omega) (by omega)
 rw[show ((l.length:Int) - 1).toNat=l.length - 1 by omega] at ix
 have cu:=cut_g uB2 zB2 g l.length cap hp0 (own_cap o)
 unfold maxLen at hm
 have q0:decide ((l.length:Int) - 1 < 0)=false:=decide_eq_false (by omega)
 have hp:(0:Int) < l.length:=by omega
 clear o hl
 go_enter Tryz.func126,Tryz.ntmps126
 go_upto_region 1 with fail
 have st:=stands_new w #[.int .i64 0, .int .i64 0] 158
 have bw:=box_below w (.cells #[.int .i64 0, .int .i64 0] 158)
 generalize w.alloc (.cells #[.int .i64 0, .int .i64 0] 158)=W0 at st bw ⊢
 have bd:Below W0.heap.size W0 W0.drew:=below_drewN (Below.refl _ _) 1
 have G1:Hid (Stands _ w.heap.size #[.int .i64 x1, .int .i64 x2] 158):=set2 (st.below bd) (.int .i64 x1) (.int .i64 x2)
 have J:Hid (Below w.heap.size w _):=(below_set (below_set (below_trans bw bd) w.heap.size 0 (.int .i64 x1) (Nat.le_refl _)) w.heap.size 1 (.int .i64 x2) (Nat.le_refl _))
 have k0:=below_cell bw c0
 have k1:=below_cell bw c1
 have s0:=st.cell 0 _ rfl
 have s1:=st.cell 1 _ rfl
 have sf:=st.free
 go_wp2_with fail
 go_region
 all_goals (
  go_wp2_with fail
  (try simp only[Exit.inBlock,Exit.then])
  refine bodyPost_ret (res_row3 rfl _ _ w.heap.size 158 _ (0,0) _ rfl G1.out Tryz.underlying158 rfl (show _=some 2 by kernel_rfl)) rfl ?_
  exact ⟨rfl,J.out⟩)
set_option maxHeartbeats 1000000 in
theorem fw_newL0 {base:Nat} (v:Value) (w:World) (o:OwLp base w v []):
  Calls Tryz.prog 129 #[v] w fun e w'=>e= .returned (.tuple #[.agg #[.int .i64 0, .int .i64 0, .int .i64 0], .slice none 0 0, .int .i64 13])∧Below w.heap.size w w':=by
 have hla:=own_len o uL3
 simp only[List.length_nil] at hla
 clear o
 go_enter Tryz.func129,Tryz.ntmps129
 go_upto_region 1 with fail
 have st:=stands_new w #[.int .i64 0, .int .i64 0, .int .i64 0] 171
 have bw:=box_below w (.cells #[.int .i64 0, .int .i64 0, .int .i64 0] 171)
 generalize w.alloc (.cells #[.int .i64 0, .int .i64 0, .int .i64 0] 171)=W0 at st bw ⊢
 have b2:=box_below W0 (.cells #[.int .i64 0, .int .i64 0, .int .i64 0] 171)
 have st2:=st.below b2
 have s0:=st2.cell 0 _ rfl
 have s1:=st2.cell 1 _ rfl
 have s2:=st2.cell 2 _ rfl
 have sf:=st2.free
 have g1:Stands _ w.heap.size #[.int .i64 0, .int .i64 0, .int .i64 0] 171:=set3 st2 (.int .i64 0) (.int .i64 0) (.int .i64 0)
 have J:=(below_set (below_set (below_set (below_trans bw b2) w.heap.size 0 (.int .i64 0) (Nat.le_refl _)) w.heap.size 1 (.int .i64 0) (Nat.le_refl _)) w.heap.size 2 (.int .i64 0) (Nat.le_refl _))
 go_wp2_with fail
 (try simp only[Exit.inBlock,Exit.then])
 refine bodyPost_ret (res_row3 rfl _ _ w.heap.size 171 _ (0,0) _ rfl g1 Tryz.underlying171 rfl (show _=some 3 by kernel_rfl)) rfl ?_
 exact ⟨rfl,J⟩
set_option maxHeartbeats 1000000 in
theorem fw_newL {base g cap:Nat} (l:List (Int×Int×Int)) (x:(Int×Int×Int)) (w:World) (o:OwLp base w (.slice (some ⟨g,0,none⟩) l.length cap) l) (hl:l.getLast? =some x):
  Calls Tryz.prog 129 #[.slice (some ⟨g,0,none⟩) l.length cap] w fun e w'=>e= .returned (.tuple #[lpV x, .slice (some ⟨g,0,none⟩) (l.length - 1) cap, .int .i64 0])∧Below w.heap.size w w':=by
 obtain ⟨x1,x2,x3⟩:=x
 have c0:=row_last lpC (fun _=>rfl) o hl 0 (by decide) (.int .i64 x1) rfl
 have c1:=row_last lpC (fun _=>rfl) o hl 1 (by decide) (.int .i64 x2) rfl
 have c2:=row_last lpC (fun _=>rfl) o hl 2 (by decide) (.int .i64 x3) rfl
 simp only[Nat.add_zero] at c0
 have hla:=own_len o uL3
 have hm:l.length≤maxLen:=own_max o
 have hp0:0 < l.length:=by obtain ⟨h1,_⟩:=last_get hl;omega
 have ix:=idx_g uL3 zL3 g l.length cap ((l.length:Int) - 1) (by omega) (by omega)
 rw[show ((l.length:Int) - 1).toNat=l.length - 1 by omega] at ix
 have cu:=cut_g uL3 zL3 g l.length cap hp0 (own_cap o)
 unfold maxLen at hm
 have q0:decide ((l.length:Int) - 1 < 0)=false:=decide_eq_false (by omega)
 have hp:(0:Int) < l.length:=by omega
 clear o hl
 go_enter Tryz.func129,Tryz.ntmps129
 go_upto_region 1 with fail
 have st:=stands_new w #[.int .i64 0, .int .i64 0, .int .i64 0] 171
 have bw:=box_below w (.cells #[.int .i64 0, .int .i64 0, .int .i64 0] 171)
 generalize w.alloc (.cells #[.int .i64 0, .int .i64 0, .int .i64 0] 171)=W0 at st bw ⊢
 have bd:Below W0.heap.size W0 W0.drew:=below_drewN (Below.refl _ _) 1
 have G1:Hid (Stands _ w.heap.size #[.int .i64 x1, .int .i64 x2, .int .i64 x3] 171):=set3 (st.below bd) (.int .i64 x1) (.int .i64 x2) (.int .i64 x3)
 have J:Hid (Below w.heap.size w _):=(below_set (below_set (below_set (below_trans bw bd) w.heap.size 0 (.int .i64 x1) (Nat.le_refl _)) w.heap.size 1 (.int .i64 x2) (Nat.le_refl _)) w.heap.size 2 (.int .i64 x3) (Nat.le_refl _))
 have k0:=below_cell bw c0
 have k1:=below_cell bw c1
 have k2:=below_cell bw c2
 have s0:=st.cell 0 _ rfl
 have s1:=st.cell 1 _ rfl
 have s2:=st.cell 2 _ rfl
 have sf:=st.free
 go_wp2_with fail
 go_region
 all_goals (
  go_wp2_with fail
  (try simp only[Exit.inBlock,Exit.then])
  refine bodyPost_ret (res_row3 rfl _ _ w.heap.size 171 _ (0,0) _ rfl G1.out Tryz.underlying171 rfl (show _=some 3 by kernel_rfl)) rfl ?_
  exact ⟨rfl,J.out⟩)
set_option maxHeartbeats 1000000 in
theorem fw_newK0 {base:Nat} (v:Value) (w:World) (o:OwCh base w v []):
  Calls Tryz.prog 141 #[v] w fun e w'=>e= .returned (.tuple #[.agg #[.bool false, .int .i64 0, .int .i64 0, .slice none 0 0], .slice none 0 0, .int .i64 13])∧Below w.heap.size w w':=by
 have hla:=own_len o uC4
 simp only[List.length_nil] at hla
 clear o
 go_enter Tryz.func141,Tryz.ntmps141
 go_upto_region 1 with fail
 have st:=stands_new w #[.bool false, .int .i64 0, .int .i64 0, .slice none 0 0] 162
 have bw:=box_below w (.cells #[.bool false, .int .i64 0, .int .i64 0, .slice none 0 0] 162)
 generalize w.alloc (.cells #[.bool false, .int .i64 0, .int .i64 0, .slice none 0 0] 162)=W0 at st bw ⊢
 have b2:=box_below W0 (.cells #[.bool false, .int .i64 0, .int .i64 0, .slice none 0 0] 162)
 have st2:=st.below b2
 have s0:=st2.cell 0 _ rfl
 have s1:=st2.cell 1 _ rfl
 have s2:=st2.cell 2 _ rfl
 have s3:=st2.cell 3 _ rfl
 have sf:=st2.free
 have g1:Stands _ w.heap.size #[.bool false, .int .i64 0, .int .i64 0, .slice none 0 0] 162:=set4 st2 (.bool false) (.int .i64 0) (.int .i64 0) (.slice none 0 0)
 have J:=(below_set (below_set (below_set (below_set (below_trans bw b2) w.heap.size 0 (.bool false) (Nat.le_refl _)) w.heap.size 1 (.int .i64 0) (Nat.le_refl _)) w.heap.size 2 (.int .i64 0) (Nat.le_refl _)) w.heap.size 3 (.slice none 0 0) (Nat.le_refl _))
 go_wp2_with fail
 (try simp only[Exit.inBlock,Exit.then])
 refine bodyPost_ret (res_row3 rfl _ _ w.heap.size 162 _ (0,0) _ rfl g1 Tryz.underlying162 rfl (show _=some 4 by kernel_rfl)) rfl ?_
 exact ⟨rfl,J⟩
set_option maxHeartbeats 1000000 in
theorem fw_newK {base g cap:Nat} (l:List (Ch×Value)) (x:(Ch×Value)) (w:World) (o:OwCh base w (.slice (some ⟨g,0,none⟩) l.length cap) l) (hl:l.getLast? =some x) (hx:∃ao n cp,x.2= .slice ao n cp):
  Calls Tryz.prog 141 #[.slice (some ⟨g,0,none⟩) l.length cap] w fun e w'=>e= .returned (.tuple #[chV x, .slice (some ⟨g,0,none⟩) (l.length - 1) cap, .int .i64 0])∧Below w.heap.size w w':=by
 obtain ⟨xc,xv⟩:=x
 obtain ⟨xa,xn,xp,hx⟩:=hx
 simp only at hx
 subst hx
 obtain ⟨x1,x2,x3,x4⟩:=xc
 have c0:=row_last chC (fun _=>rfl) o hl 0 (by decide) (.bool x1) rfl
 have c1:=row_last chC (fun _=>rfl) o hl 1 (by decide) (.int .i64 x2) rfl
 have c2:=row_last chC (fun _=>rfl) o hl 2 (by decide) (.int .i64 x3) rfl
 have c3:=row_last chC (fun _=>rfl) o hl 3 (by decide) (.slice xa xn xp) rfl
 simp only[Nat.add_zero] at c0
 have hla:=own_len o uC4
 have hm:l.length≤maxLen:=own_max o
 have hp0:0 < l.length:=by obtain ⟨h1,_⟩:=last_get hl;omega
 have ix:=idx_g uC4 zC4 g l.length cap ((l.length:Int) - 1) (by omega) (by omega)
 rw[show ((l.length:Int) - 1).toNat=l.length - 1 by omega] at ix
 have cu:=cut_g uC4 zC4 g l.length cap hp0 (own_cap o)
 unfold maxLen at hm
 have q0:decide ((l.length:Int) - 1 < 0)=false:=decide_eq_false (by omega)
 have hp:(0:Int) < l.length:=by omega
 clear o hl
 go_enter Tryz.func141,Tryz.ntmps141
 go_upto_region 1 with fail
 have st:=stands_new w #[.bool false, .int .i64 0, .int .i64 0, .slice none 0 0] 162
 have bw:=box_below w (.cells #[.bool false, .int .i64 0, .int .i64 0, .slice none 0 0] 162)
 generalize w.alloc (.cells #[.bool false, .int .i64 0, .int .i64 0, .slice none 0 0] 162)=W0 at st bw ⊢
 have bd:Below W0.heap.size W0 W0.drew:=below_drewN (Below.refl _ _) 1
 have G1:Hid (Stands _ w.heap.size #[.bool x1, .int .i64 x2, .int .i64 x3, .slice xa xn xp] 162):=set4 (st.below bd) (.bool x1) (.int .i64 x2) (.int .i64 x3) (.slice xa xn xp)
 have J:Hid (Below w.heap.size w _):=(below_set (below_set (below_set (below_set (below_trans bw bd) w.heap.size 0 (.bool x1) (Nat.le_refl _)) w.heap.size 1 (.int .i64 x2) (Nat.le_refl _)) w.heap.size 2 (.int .i64 x3) (Nat.le_refl _)) w.heap.size 3 (.slice xa xn xp) (Nat.le_refl _))
 have k0:=below_cell bw c0
 have k1:=below_cell bw c1
 have k2:=below_cell bw c2
 have k3:=below_cell bw c3
 have s0:=st.cell 0 _ rfl
 have s1:=st.cell 1 _ rfl
 have s2:=st.cell 2 _ rfl
 have s3:=st.cell 3 _ rfl
 have sf:=st.free
 go_wp2_with fail
 go_region
 all_goals (
  go_wp2_with fail
  (try simp only[Exit.inBlock,Exit.then])
  refine bodyPost_ret (res_row3 rfl _ _ w.heap.size 162 _ (0,0) _ rfl G1.out Tryz.underlying162 rfl (show _=some 4 by kernel_rfl)) rfl ?_
  exact ⟨rfl,J.out⟩)
set_option maxHeartbeats 1000000 in
theorem fw_newJ0 {base:Nat} (v:Value) (w:World) (o:OwJ base w v []):
  Calls Tryz.prog 128 #[v] w fun e w'=>e= .returned (.tuple #[.int .i64 0, .slice none 0 0, .int .i64 13])∧w'=w:=by
 have hla:=own_len o uJf
 simp only[List.length_nil] at hla
 clear o
 go_enter Tryz.func128,Tryz.ntmps128
 go_wp2_with fail
 go_ret3
 exact ⟨rfl,rfl⟩
theorem OwJ.flat {base:Nat} {w:World} {v:Value} {l:List Int} (o:OwJ base w v l):w.ownsRow base 3 1 v l.length (l.flatMap (fun x=>[Value.int .i64 x])):=by
 unfold OwJ at o
 rw[←List.map_eq_flatMap]
 exact o
theorem OwJ.of {base:Nat} {w:World} {v:Value} {l:List Int} (o:w.ownsRow base 3 1 v l.length (l.flatMap (fun x=>[Value.int .i64 x]))):OwJ base w v l:=by
 rw[←List.map_eq_flatMap] at o
 exact o
set_option maxHeartbeats 1000000 in
theorem fw_newJ {base g cap:Nat} (l:List Int) (x:Int) (w:World) (o:OwJ base w (.slice (some ⟨g,0,none⟩) l.length cap) l) (hl:l.getLast? =some x):
  Calls Tryz.prog 128 #[.slice (some ⟨g,0,none⟩) l.length cap] w fun e w'=>e= .returned (.tuple #[.int .i64 x, .slice (some ⟨g,0,none⟩) (l.length - 1) cap, .int .i64 0])∧Below w.heap.size w w':=by
 have hc:=row_last (fun x=>[Value.int .i64 x]) (fun _=>rfl) o.flat hl 0 (by decide) (.int .i64 x) rfl
 simp only[Nat.add_zero,Nat.mul_one] at hc
 have hla:=own_len o uJf
 have hm:l.length≤maxLen:=own_max o
 have hp0:0 < l.length:=by obtain ⟨h1,_⟩:=last_get hl;omega
 have ix:=idx_g uJf zJf g l.length cap ((l.length:Int) - 1) (by omega) (by omega)
 rw[show ((l.length:Int) - 1).toNat=l.length - 1 by omega,Nat.mul_one] at ix
 have cu:=cut_g uJf zJf g l.length cap hp0 (own_cap o)
 unfold maxLen at hm
 have q0:decide ((l.length:Int) - 1 < 0)=false:=decide_eq_false (by omega)
 have hp:(0:Int) < l.length:=by omega
 have bd:Hid (Below w.heap.size w w.drew):=below_drewN (Below.refl _ _) 1
 clear o hl
 go_enter Tryz.func128,Tryz.ntmps128
 go_wp2_with fail
 go_quiet (fail)
 go_wp2_with fail
 go_ret3
 exact ⟨rfl,below_drewN (Below.refl _ _) _⟩
end Go.Proofs.YtkkehbdahniiaaaGreatDoor
