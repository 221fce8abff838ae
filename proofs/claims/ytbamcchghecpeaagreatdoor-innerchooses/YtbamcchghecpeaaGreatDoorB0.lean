import Derived.WalkKit
import Derived.ProofKit
import Derived.OpenShut
import Derived.WalkLawsBesides
import Derived.Handy
import Derived.Deep.Light
import Derived.Deep.QuietTactic
import Derived.BigQuiet
import Derived.Deep.RegionWith
import Derived.Below
import Derived.Laws.AppendOwnNone
import Derived.ChangeSlices
import Derived.SizedLaws
import Derived.Lib.LaidTab
import Derived.Test.YtbamcchghecpeaaGreatDoorProg
import Derived.Laws.BytesArg
import Derived.Laws.OwnMore
import Derived.Lib.AppendStr
import Derived.ChangeArms
import Derived.Deep.RegionLaw
import Derived.Laws.ResultCell
import Derived.Lib.AppendZerosOnto
import Derived.Lib.AppendZeros
import Derived.Lib.SliceRun
import Derived.Laws.MakeOwn
import Derived.Deep.MidRow
import Derived.Test.YtbamcchghecpeaaGreatDoorRows
import Derived.Lib.Strings
set_option linter.unusedVariables false
set_option linter.unusedSimpArgs false
set_option maxRecDepth 100000
namespace Go.Proofs.YtbamcchghecpeaaGreatDoor
open Go.ChangeShapes Go.WideShapes Go.ChangeAt Go.RowKit
theorem hid {p:Prop} (h:p):Hid p:=h
theorem ret_b {a b:Bool} (h:a=b):Ending.returned (.bool a)= .returned (.bool b):=by rw[h]
theorem below_cell {w w':World} (h:Below w.heap.size w w') {a:Addr} {v:Value} (hc:w.cell? a=some v):w'.cell? a=some v:=
 (h.cell (p:=a) (World.block_lt_of_cell? w a hc)).trans hc
theorem below_trans {a b c:World} (h:Below a.heap.size a b) (g:Below b.heap.size b c):Below a.heap.size a c:=
 h.trans (g.mono h.size)
theorem below_drewN {a b:World} (h:Below a.heap.size a b) (n:Nat):Below a.heap.size a (b.drewN n):=h.trans ⟨rfl,rfl,rfl,Nat.le_refl _,fun _ _=>rfl⟩
theorem below_grown {a b c:World} {row:Option Nat} (h:Below a.heap.size a b) (g:b.grownBy c row) (hr:∀k,row=some k→a.heap.size≤k):Below a.heap.size a c:=
 h.grown g h.size hr
def Rd (k:IntKind) (w:World) (v:Value) (xs:List Int):Prop:=
 (∃ao cap,v= .slice ao 0 cap∧(ao=none→cap=0)∧xs=[])∨
 ∃b off cap,v= .slice (some ⟨b,off,none⟩) xs.length cap∧0 < xs.length∧xs.length≤cap∧cap≤maxLen∧∀i,i < xs.length→w.cell? ⟨b,off+i,none⟩=some (.int k (xs.getD i 0))
theorem Rd.below {k:IntKind} {w w':World} {v:Value} {xs:List Int} (h:Rd k w v xs) (g:Below w.heap.size w w'):Rd k w' v xs:=by
 rcases h with h|⟨b,off,cap,rfl,h0,h1,h2,hc⟩
 ·exact Or.inl h
 ·exact Or.inr ⟨b,off,cap,rfl,h0,h1,h2,fun i hi=>below_cell g (hc i hi)⟩
theorem Rd_nil {k:IntKind} {w:World}:Rd k w (.slice none 0 0) []:=Or.inl ⟨none,0,rfl,fun _=>rfl,rfl⟩
theorem Rd_own {k:IntKind} {w:World} {base:Nat} {e:TypeId} {v:Value} {n:Nat} {xs:List Int} (h:w.ownsRow base e 1 v n (xs.map (Value.int k))):Rd k w v xs∧n=xs.length:=by
 obtain ⟨hl,h⟩:=h
 have hn:n=xs.length:=by simp at hl;omega
 refine ⟨?_,hn⟩
 rcases h with ⟨rfl,h0⟩|⟨g,cap,cur,rfl,hb,hg,hc,hm,hs,ht⟩
 ·have:xs=[]:=List.eq_nil_of_length_eq_zero (by omega)
  subst this
  exact Rd_nil
 ·rcases Nat.eq_zero_or_pos xs.length with h0|h0
  ·have:xs=[]:=List.eq_nil_of_length_eq_zero h0
   subst this
   exact Or.inl ⟨_,_,by rw[hn];rfl,(fun h=>by cases h),rfl⟩
  ·refine Or.inr ⟨g,0,cap,by rw[hn],h0,by omega,hm,fun i hi=> ?_⟩
   have e1:cur[i]? =some (.int k (xs.getD i 0)):=by
    have e2:(cur.toList.take (n*1))[i]? =some (.int k (xs.getD i 0)):=by
     rw[ht,List.getElem?_map,List.getElem?_eq_getElem hi]
     simp[List.getD_eq_getElem?_getD,List.getElem?_eq_getElem hi]
    rw[List.getElem?_take] at e2
    split at e2
    ·simpa using e2
    ·cases e2
   simp[World.cell?,hg,e1]
theorem wp_append_rd {P:Program} {w:World} {k:IntKind} {o:Oper} {a:Act} {K:Act→World→Prop} {Q:Exit→Act→World→Prop} (s x:Operand) (t:TypeId)
  (ho:o.op= .call {callee:= .builtin .append,args:=#[s,x],argTypes:=#[t,t]})
  (base:Nat) (e:TypeId) (i:TypeInfo) (bytes:Nat) (ht:P.underlying t=some (.slice e)) (hi:P.info? e=some i) (hz:i.zero=some (.int k 0)) (hsize:i.size=1) (hby:i.bytes=bytes)
  (v:Value) (ys:List Int) (hs:a.eval s=v) (hown:w.ownsRow base e 1 v ys.length (ys.map (Value.int k)))
  (vx:Value) (xs:List Int) (hx:a.eval x=vx) (hr:Rd k w vx xs)
  (h63:ys.length+xs.length≤maxLen) (hbytes:(ys.length+xs.length)*bytes≤140737488355328) (hbase:base≤w.heap.size)
  (h:∀v' w',w'.ownsRow base e 1 v' (ys++xs).length ((ys++xs).map (Value.int k))→w.grownBy w' v.ownBlock→K (a.put o.dst v') w'):o.wp P a w K Q:=by
 have h1:∀u∈xs.map (Value.int k),u.oneCell'=true:=by
  intro u hu
  simp only[List.mem_map] at hu
  obtain ⟨n,_,rfl⟩:=hu
  rfl
 rcases hr with ⟨ao,cap,rfl,hn,rfl⟩|⟨b,off,cap,rfl,h0,hc1,hc2,hc⟩
 ·cases ao with
  |none=>
   obtain rfl:=hn rfl
   have hrun:=run_append_owned_none (P:=P) (w:=w) base t o.type e i 1 ht hi v ys.length (ys.map (Value.int k)) hown
   unfold Oper.wp
   simp[execOp,ho,resolve,invoke,builtin,hs,hx,hrun,Result.andThen]
   exact h v w (by simpa using hown) ⟨rfl,rfl,rfl,Nat.le_refl _,fun _ _ _=>rfl⟩
  |some ad=>
   refine wp_append_own w s x t ho base e i (.int k 0) 1 bytes ht hi hz hsize hby rfl (by decide) v ys.length _ hs hown ad 0 cap [] hx rfl (by simp) (by simp) (by simpa using h63) (by simpa using hbytes) hbase ?_
   intro v' w' h2 h3 _
   exact h v' w' (by simpa using h2) h3
 ·refine wp_append_own w s x t ho base e i (.int k 0) 1 bytes ht hi hz hsize hby rfl (by decide) v ys.length _ hs hown ⟨b,off,none⟩ xs.length cap (xs.map (Value.int k)) hx (by simp) ?_ h1 h63 hbytes hbase ?_
  ·intro j u hj
   rw[List.getElem?_map] at hj
   cases hg:xs[j]? with
   |none=>rw[hg] at hj;cases hj
   |some n=>
    rw[hg] at hj
    simp at hj
    subst hj
    have hj2:j < xs.length:=by
     rcases Nat.lt_or_ge j xs.length with h|h
     ·exact h
     ·rw[List.getElem?_eq_none h] at hg;cases hg
    have:=hc j hj2
    rw[List.getD_eq_getElem?_getD,hg] at this
    simp at this
    by_cases hz:j=0
    ·subst hz;simpa [Addr.add] using this
    ·simpa [Addr.add,hz] using this
  ·intro v' w' h2 h3 _
   exact h v' w' (by simpa using h2) h3
theorem wpList_append_rd {P:Program} {w:World} {k:IntKind} {ops:Array Oper} {rest:List Oper} {o:Oper} {a:Act} {Q:Exit→Act→World→Prop} (hgd:o.guard=none) (s x:Operand) (t:TypeId)
  (ho:o.op= .call {callee:= .builtin .append,args:=#[s,x],argTypes:=#[t,t]})
  (base:Nat) (e:TypeId) (i:TypeInfo) (bytes:Nat) (ht:P.underlying t=some (.slice e)) (hi:P.info? e=some i) (hz:i.zero=some (.int k 0)) (hsize:i.size=1) (hby:i.bytes=bytes)
  (v:Value) (ys:List Int) (hs:a.eval s=v) (hown:w.ownsRow base e 1 v ys.length (ys.map (Value.int k)))
  (vx:Value) (xs:List Int) (hx:a.eval x=vx) (hr:Rd k w vx xs)
  (h63:ys.length+xs.length≤maxLen) (hbytes:(ys.length+xs.length)*bytes≤140737488355328) (hbase:base≤w.heap.size)
  (h:∀v' w',w'.ownsRow base e 1 v' (ys++xs).length ((ys++xs).map (Value.int k))→w.grownBy w' v.ownBlock→wpList P ops Q rest (a.put o.dst v') w'):wpList P ops Q (o::rest) a w:=
 wpList_plain hgd fun _ hK=>wp_append_rd s x t ho base e i bytes ht hi hz hsize hby v ys hs hown vx xs hx hr h63 hbytes hbase fun v' w' h2 h3=>hK _ _ (h v' w' h2 h3)
theorem rd_form {k:IntKind} {w:World} {v:Value} {xs:List Int} (h:Rd k w v xs):∃ao cap,v= .slice ao xs.length cap∧xs.length≤cap∧(ao=none→cap=0)∧
  (0 < xs.length→cap≤maxLen∧∃b off,ao=some ⟨b,off,none⟩∧∀i,i < xs.length→w.cell? ⟨b,off+i,none⟩=some (.int k (xs.getD i 0))):=by
 rcases h with ⟨ao,cap,rfl,h1,rfl⟩|⟨b,off,cap,rfl,h0,h1,h2,hc⟩
 ·exact ⟨ao,cap,rfl,Nat.zero_le _,h1,fun h=>by simp at h⟩
 ·exact ⟨_,cap,rfl,h1,(fun h=>by cases h),fun _=>⟨h2,b,off,rfl,hc⟩⟩
theorem rd_len {P:Program} {k:IntKind} {w:World} {v:Value} {xs:List Int} (h:Rd k w v xs) {t e:TypeId} (ht:P.underlying t=some (.slice e)) (ty:TypeId) (w':World):
  (Builtin.len_ #[t] ty #[v]).run P w'= .ok (.int .i64 xs.length) w':=by
 obtain ⟨ao,cap,rfl,_⟩:=rd_form h
 simp[Builtin.len_,run_underlying ht,goInt]
theorem rd_cut {P:Program} {k:IntKind} {w:World} {v:Value} {xs:List Int} (h:Rd k w v xs) {t:TypeId} (ht:P.underlying t=some (.slice (P.elem t))) (hs:∀w,(sizeOf (P.elem t)).run P w= .ok 1 w) (lo hi:Nat) (h1:lo≤hi) (h2:hi≤xs.length):
  ∃v',Rd k w v' ((xs.drop lo).take (hi - lo))∧(∀w',(Instr.slice t v (some (.int .i64 (lo:Int))) (some (.int .i64 (hi:Int))) none).run P w'= .ok v' w')∧
   (lo=0→∀w',(Instr.slice t v none (some (.int .i64 (hi:Int))) none).run P w'= .ok v' w')∧(hi=xs.length→∀w',(Instr.slice t v (some (.int .i64 (lo:Int))) none none).run P w'= .ok v' w'):=by
 obtain ⟨ao,cap,rfl,hc,hn,hx⟩:=rd_form h
 refine ⟨sliced ao lo hi cap 1, ?_,fun w'=> ?_,fun h0 w'=> ?_,fun h0 w'=> ?_⟩
 ·have hl:((xs.drop lo).take (hi - lo)).length=hi - lo:=by simp;omega
  rcases Nat.eq_zero_or_pos (hi - lo) with hz|hz
  ·refine Or.inl ⟨if cap=lo then ao else ao.map (·.add (lo*1)),cap - lo,by rw[sliced,hz], ?_,by rw[hz];simp⟩
   intro he
   by_cases hcl:cap=lo
   ·omega
   ·rw[if_neg hcl] at he
    cases ao with
    |none=>have:=hn rfl;omega
    |some a=>cases he
  ·obtain ⟨hm,b,off,rfl,hcell⟩:=hx (by omega)
   refine Or.inr ⟨b,off+lo,cap - lo, ?_,by omega,by omega,by omega,fun i hi2=> ?_⟩
   ·rw[sliced,hl,if_neg (by omega)]
    congr 1
    simp[Addr.add]
   ·rw[hl] at hi2
    have:=hcell (lo+i) (by omega)
    rw[show off+lo+i=off+(lo+i) by omega,this]
    simp only[List.getD_eq_getElem?_getD,List.getElem?_take,List.getElem?_drop]
    rw[if_pos hi2]
 ·rw[run_slice_lh w' t ao xs.length cap ht .i64 .i64 (lo:Int) (hi:Int) (by omega) (by omega) (by omega),hs]
  simp[Result.andThen]
 ·subst h0
  rw[run_slice_h w' t ao xs.length cap ht .i64 (hi:Int) (by omega) (by omega),hs]
  simp[Result.andThen]
 ·subst h0
  rw[run_slice_l w' t ao xs.length cap ht .i64 (lo:Int) (by omega) (by omega),hs]
  simp[Result.andThen]
theorem rd_cutI {P:Program} {k:IntKind} {w:World} {v:Value} {xs:List Int} (h:Rd k w v xs) {t:TypeId} (ht:P.underlying t=some (.slice (P.elem t))) (hs:∀w,(sizeOf (P.elem t)).run P w= .ok 1 w) (lo hi:Int) (h0:0≤lo) (h1:lo≤hi) (h2:hi≤xs.length):
  ∃v',Rd k w v' ((xs.drop lo.toNat).take (hi - lo).toNat)∧(∀w',(Instr.slice t v (some (.int .i64 lo)) (some (.int .i64 hi)) none).run P w'= .ok v' w')∧
   (lo=0→∀w',(Instr.slice t v none (some (.int .i64 hi)) none).run P w'= .ok v' w')∧(hi=xs.length→∀w',(Instr.slice t v (some (.int .i64 lo)) none none).run P w'= .ok v' w'):=by
 obtain ⟨l,rfl⟩:=Int.eq_ofNat_of_zero_le h0
 obtain ⟨m,rfl⟩:=Int.eq_ofNat_of_zero_le (show 0≤hi by omega)
 obtain ⟨v',r,a,b,c⟩:=rd_cut h ht hs l m (by omega) (by omega)
 refine ⟨v', ?_,a,fun h=>b (by omega),fun h=>c (by omega)⟩
 rw[show ((l:Int)).toNat=l by omega,show ((m:Int) - (l:Int)).toNat=m - l by omega]
 exact r
theorem rd_idx {P:Program} {k:IntKind} {w:World} {v:Value} {xs:List Int} (h:Rd k w v xs) {t:TypeId} (ht:P.underlying t=some (.slice (P.elem t))) (hs:∀w,(sizeOf (P.elem t)).run P w= .ok 1 w) (i:Int) (h0:0≤i) (h1:i < xs.length):
  ∃a:Addr,(∀w',(Instr.indexAt t v (.int .i64 i)).run P w'= .ok (.pointer (some a)) w')∧w.cell? a=some (.int k (xs.getD i.toNat 0)):=by
 obtain ⟨ao,cap,rfl,hc,hn,hx⟩:=rd_form h
 obtain ⟨hm,b,off,rfl,hcell⟩:=hx (by omega)
 refine ⟨⟨b,off+i.toNat,none⟩,fun w'=> ?_,hcell i.toNat (by omega)⟩
 rw[run_indexAt_slice (h:=ht),if_pos ⟨h0,h1⟩,hs]
 simp only[Result.andThen,Nat.mul_one]
 congr 3
 unfold Addr.add
 split
 ·rename_i hz;rw[hz];rfl
 ·rfl
theorem rd_one {k:IntKind} (w:World) (x:Int) (T:TypeId):Rd k (w.alloc (.cells #[.int k x] T)) (.slice (some ⟨w.heap.size,0,none⟩) 1 1) [x]:=
 Or.inr ⟨w.heap.size,0,1,rfl,by simp,by simp,by decide,fun i hi=>by
  have:i=0:=by simp at hi;omega
  subst this
  rw[World.cell?_alloc_new]
  rfl⟩
theorem rd_lit {k:IntKind} (w:World) (xs:List Int) (T:TypeId) (h0:0 < xs.length) (h1:xs.length≤maxLen):Rd k (w.alloc (.cells (xs.map (Value.int k)).toArray T)) (.slice (some ⟨w.heap.size,0,none⟩) xs.length xs.length) xs:=
 Or.inr ⟨w.heap.size,0,xs.length,rfl,h0,Nat.le_refl _,h1,fun i hi=>by
  rw[World.cell?_alloc_new]
  simp[List.getD_eq_getElem?_getD,List.getElem?_eq_getElem hi]⟩
theorem size_al (w:World) (o:Obj):(w.alloc o).heap.size=w.heap.size+1:=by unfold World.alloc;simp
theorem own_below {w w':World} {base:Nat} {e:TypeId} {v:Value} {n:Nat} {xs:List Value} (h:w.ownsRow base e 1 v n xs) (g:Below w.heap.size w w'):w'.ownsRow base e 1 v n xs:=by
 obtain ⟨hl,h⟩:=h
 refine ⟨hl, ?_⟩
 rcases h with h|⟨b,cap,cur,rfl,hb,hg,hc,hm,hs,ht⟩
 ·exact Or.inl h
 ·refine Or.inr ⟨b,cap,cur,rfl,hb, ?_,hc,hm,hs,ht⟩
  rw[g.block b (Array.getElem?_eq_some_iff.1 hg).1]
  exact hg
theorem box_below (w:World) (o:Obj):Below w.heap.size w (w.alloc o):=(Below.refl _ _).alloc (Nat.le_refl _) _
theorem rd_open {H:Type} {enc:TypeId×Value→H} {P:Program} {W:World} {t e:TypeId} {k:IntKind} {a:Option Addr} {len cap:Nat} {d:DataW H} {ps:List MemPlace}
  (ht:P.underlying t=some (.slice e)) (he:P.underlying e=some (.int k)) (hc:P.cellsOf e=1) (h:DataW.Trod enc P W 0 (fun _=>true) true t (.slice a len cap) d ps):
  ∃xs:List Int,Rd k W (.slice a len cap) xs∧(∀n∈xs,(Lit.int k n).wf=true)∧(xs=[]∨∃ys zs,d= .slice ys zs∧xs.length≤ys.length+zs.length):=by
 obtain ⟨fuel,hf⟩:=h
 rcases open_ints ht he hc hf with ⟨hcs,_⟩|⟨x,l,c,zs,hcs,_,hl,hm,hz,hd,hcell,hwz⟩
 ·simp[Value.cells] at hcs
  obtain ⟨rfl,rfl,rfl⟩:=hcs
  exact ⟨[],Rd_nil,fun n hn=>by simp at hn,Or.inl rfl⟩
 ·simp[Value.cells] at hcs
  obtain ⟨rfl,rfl,rfl⟩:=hcs
  have hz2:zs.length=cap:=by simpa using hz
  have hxl:(zs.take len).length=len:=by simp;omega
  refine ⟨zs.take len, ?_,fun n hn=>hwz n (List.mem_of_mem_take hn),Or.inr ⟨_,_,congrArg Prod.fst hd,by simp[lits]⟩⟩
  rcases Nat.eq_zero_or_pos len with h0|h0
  ·subst h0
   exact Or.inl ⟨some x,cap,rfl,(fun h=>by cases h),by simp⟩
  ·obtain ⟨b,off,spot⟩:=x
   have hc0:=hcell 0 (by omega)
   have hspot:spot=none:=by simpa [Addr.add] using World.cell?_spot hc0
   subst hspot
   refine Or.inr ⟨b,off,cap,by rw[hxl],by omega,by omega,hm,fun i hi=> ?_⟩
   have:=hcell i (by omega)
   have e1:(zs.take len).getD i 0=zs.getD i 0:=by
    rw[List.getD_eq_getElem?_getD,List.getD_eq_getElem?_getD,List.getElem?_take,if_pos (by omega)]
   rw[e1,←this]
   by_cases hi0:i=0
   ·subst hi0;simp[Addr.add]
   ·simp[Addr.add,hi0]
section
variable {H:Type} {enc:TypeId×Value→H} {P:Program} {W:World} {base:Nat} {b2:Nat} {spare:Nat→Bool} {held:Bool}
theorem open_arr {n:Nat} {t e:TypeId} {v:Value} {d:DataW H} {p:List MemPlace} {k:IntKind} (ht:P.underlying t=some (.array n e)) (he:P.underlying e=some (.int k)) (hce:P.cellsOf e=1) (hct:P.cellsOf t=n)
  (hok:Value.okWide P W .any base t v) (h:DataW.Trod enc P W b2 spare held t v d p):
  ∃xs:List Int,xs.length=n∧v= .agg (xs.map (Value.int k)).toArray∧d= .agg (xs.map fun x=>DataW.lit (.int k x))∧p=[]∧∀x∈xs,(Lit.int k x).wf=true:=by
 obtain ⟨cs,rfl,hsz,_⟩:∃cs,v= .agg cs∧cs.size=P.cellsOf t∧Row.okWide P W .any base t cs:=by
  simpa [Value.okWide,ht] using hok
 obtain ⟨fuel,hf⟩:=h
 have hf2:DataW.trod enc P W b2 spare held fuel t cs.toList=some (d,p):=hf
 obtain ⟨ys,m,_,hx,hl,hlen,hel⟩:=DataW.trod_array ht hf2
 rw[hct] at hl
 rw[hce] at hel
 simp only[Nat.mul_one] at hel
 have key:∀i (hi:i < n),∃x:Int,cs.toList[i]? =some (Value.int k x)∧ys[i]? =some (.lit (.int k x),[])∧(Lit.int k x).wf=true:=by
  intro i hi
  have h1:=hel i hi
  have hi2:i < cs.toList.length:=by omega
  have hi3:i < ys.length:=by omega
  rw[List.getElem?_eq_getElem hi3] at h1
  have e1:(cs.toList.drop i).take 1=[cs.toList[i]]:=by
   rw[List.drop_eq_getElem_cons hi2];simp
  rw[e1] at h1
  obtain ⟨x,ex,ey,wx⟩:=DataW.trod_int he h1
  simp at ex
  refine ⟨x, ?_, ?_,wx⟩
  ·rw[List.getElem?_eq_getElem hi2];simp[ex]
  ·rw[List.getElem?_eq_getElem hi3,ey]
 let f:Nat→Int:=fun i=>match cs.toList[i]? with|some (Value.int _ x)=>x|_=>0
 have kf:∀i (hi:i < n),cs.toList[i]? =some (Value.int k (f i))∧ys[i]? =some (.lit (.int k (f i)),[])∧(Lit.int k (f i)).wf=true:=by
  intro i hi
  obtain ⟨x,h1,h2,h3⟩:=key i hi
  have:f i=x:=by simp only[f,h1]
  rw[this];exact ⟨h1,h2,h3⟩
 have ecs:cs.toList=((List.range n).map f).map (Value.int k):=by
  apply List.ext_getElem?
  intro i
  by_cases hi:i < n
  ·rw[(kf i hi).1];simp[hi]
  ·rw[List.getElem?_eq_none (by omega),List.getElem?_eq_none (by simp;omega)]
 have eys:ys=((List.range n).map f).map fun x=>(DataW.lit (.int k x),([]:List MemPlace)):=by
  apply List.ext_getElem?
  intro i
  by_cases hi:i < n
  ·rw[(kf i hi).2.1];simp[hi]
  ·rw[List.getElem?_eq_none (by omega),List.getElem?_eq_none (by simp;omega)]
 simp only[Prod.mk.injEq] at hx
 refine ⟨(List.range n).map f,by simp, ?_, ?_, ?_, ?_⟩
 ·rw[←ecs]
 ·rw[hx.1,eys];simp
 ·rw[hx.2,eys];simp
 ·intro x hx
  simp only[List.mem_map,List.mem_range] at hx
  obtain ⟨i,hi,rfl⟩:=hx
  exact (kf i hi).2.2
theorem shut_arr2 {t e:TypeId} {k:IntKind} {x0 x1:Int} (ht:P.underlying t=some (.array 2 e)) (he:P.underlying e=some (.int k)) (hce:P.cellsOf e=1) (hct:P.cellsOf t=2)
  (w0:(Lit.int k x0).wf=true) (w1:(Lit.int k x1).wf=true):
  DataW.Trod enc P W b2 spare held t (.agg #[.int k x0, .int k x1]) (.agg [.lit (.int k x0), .lit (.int k x1)]) []:=
 ⟨2,by simp[DataW.trod,Value.cells,ht,he,hce,hct,w0,w1,show List.range 2=[0,1] from rfl]⟩
theorem open_arr2 {t e:TypeId} {v:Value} {d:DataW H} {p:List MemPlace} {k:IntKind} (ht:P.underlying t=some (.array 2 e)) (he:P.underlying e=some (.int k)) (hce:P.cellsOf e=1) (hct:P.cellsOf t=2)
  (hok:Value.okWide P W .any base t v) (h:DataW.Trod enc P W b2 spare held t v d p):
  ∃x0 x1:Int,v= .agg #[.int k x0, .int k x1]∧d= .agg [.lit (.int k x0), .lit (.int k x1)]∧p=[]∧(Lit.int k x0).wf=true∧(Lit.int k x1).wf=true:=by
 obtain ⟨xs,hl,hv,hd,hp,hw⟩:=open_arr ht he hce hct hok h
 match xs,hl with
 |[x0,x1],_=>exact ⟨x0,x1,by simpa using hv,by simpa using hd,hp,hw x0 (by simp),hw x1 (by simp)⟩
end
open Go
def flatCells:DataW Unit→List Value
 | .lit (.int k n)=>[.int k n]
 | .lit (.bool b)=>[.bool b]
 | .lit (.string l)=>[.string ⟨l.toArray⟩]
 | .agg ds=>ds.attach.flatMap fun ⟨d,_⟩=>flatCells d
 |_=>[]
theorem flat_agg (ds:List (DataW Unit)):flatCells (.agg ds)=ds.flatMap flatCells:=by
 rw[flatCells]
 conv=>rhs;rw[←List.attach_map_subtype_val ds]
 rw[List.flatMap_map]
def contB (P:Program):List Field→Nat→Nat→Bool
 |[],o,e=>o==e
 |f::fs,o,e=>f.offset==o&&contB P fs (o+P.cellsOf f.type) e
theorem contB_le (P:Program):∀(fs:List Field) (o e:Nat),contB P fs o e=true→o≤e
 |[],o,e,h=>by simp[contB] at h;omega
 |f::fs,o,e,h=>by
  simp[contB] at h
  have:=contB_le P fs _ e h.2
  omega
def flatB (P:Program):Nat→TypeId→Bool
 |0,_=>false
 |m+1,t=>match P.underlying t with
  |some .bool=>true
  |some (.int _)=>true
  |some .string=>true
  |some (.struct fs)=>contB P fs.toList 0 (P.cellsOf t)&&fs.toList.all fun f=>flatB P m f.type
  |some (.array n e)=>P.cellsOf t==n*P.cellsOf e&&flatB P m e
  |_=>false
theorem flat_fields {P:Program} (cs:List Value) (g:TypeId→List Value→Option (DataW Unit×List MemPlace)):
  ∀(fs:List Field) (o e:Nat) (xs:List (DataW Unit×List MemPlace)),contB P fs o e=true→e≤cs.length→
   (∀f∈fs,∀l d p,g f.type l=some (d,p)→l=flatCells d)→
   fs.mapM (fun f=>g f.type ((cs.drop f.offset).take (P.cellsOf f.type)))=some xs→(cs.drop o).take (e - o)=(xs.map (·.1)).flatMap flatCells
 |[],o,e,xs,hc,he,hf,hm=>by
  simp[contB] at hc
  subst hc
  simp at hm
  subst hm
  simp
 |f::fs,o,e,xs,hc,he,hf,hm=>by
  simp only[List.mapM_cons,Option.bind_eq_bind,Option.bind_eq_some_iff,Option.pure_def,Option.some.injEq] at hm
  obtain ⟨⟨d,p⟩,hd,r,hr,rfl⟩:=hm
  simp[contB] at hc
  obtain ⟨ho,hc⟩:=hc
  have hle:=contB_le P fs _ e hc
  have ih:=flat_fields cs g fs _ e r hc he (fun f' h'=>hf f' (List.mem_cons_of_mem _ h')) hr
  have h1:=hf f (List.mem_cons_self ..) _ _ _ hd
  rw[ho] at h1
  simp only[List.map_cons,List.flatMap_cons]
  rw[←h1,←ih,show e - o=P.cellsOf f.type+(e - (o+P.cellsOf f.type)) by omega,List.take_add,List.drop_drop]
theorem flat_rows {P:Program} (cs:List Value) (c:Nat) (g:List Value→Option (DataW Unit×List MemPlace)) (hg:∀l d p,g l=some (d,p)→l=flatCells d):
  ∀(m s:Nat) (xs:List (DataW Unit×List MemPlace)),(List.range' s m).mapM (fun i=>g ((cs.drop (i*c)).take c))=some xs→(cs.drop (s*c)).take (m*c)=(xs.map (·.1)).flatMap flatCells
 |0,s,xs,hm=>by
  simp at hm
  subst hm
  simp
 |m+1,s,xs,hm=>by
  rw[List.range'_succ] at hm
  simp only[List.mapM_cons,Option.bind_eq_bind,Option.bind_eq_some_iff,Option.pure_def,Option.some.injEq] at hm
  obtain ⟨⟨d,p⟩,hd,r,hr,rfl⟩:=hm
  have ih:=flat_rows (P:=P) cs c g hg m (s+1) r hr
  have h1:=hg _ _ _ hd
  simp only[List.map_cons,List.flatMap_cons]
  rw[←h1,←ih,Nat.succ_mul,Nat.add_comm (m*c) c,List.take_add,List.drop_drop,Nat.succ_mul]
theorem flat_of_trod {enc:TypeId×Value→Unit} {P:Program} {w:World} {base:Nat} {sp:Nat→Bool} {held:Bool}:∀(m fuel:Nat) (t:TypeId) (cs:List Value) (d:DataW Unit) (p:List MemPlace),flatB P m t=true→
  DataW.trod enc P w base sp held fuel t cs=some (d,p)→cs=flatCells d
 |0,_,_,_,_,_,hf,_=>by simp[flatB] at hf
 |m+1,0,_,_,_,_,_,h=>by simp[DataW.trod] at h
 |m+1,fuel+1,t,cs,d,p,hf,h=>by
  unfold flatB at hf
  cases hu:P.underlying t with
  |none=>rw[hu] at hf;simp at hf
  |some u=>
   rw[hu] at hf
   cases u <;> simp only[] at hf
   case bool=>
    obtain ⟨z,hc,hx⟩:=DataW.trod_bool hu h
    obtain ⟨rfl,_⟩:=Prod.mk.inj hx
    simp[hc,flatCells]
   case int k=>
    obtain ⟨z,hc,hx,_⟩:=DataW.trod_int hu h
    obtain ⟨rfl,_⟩:=Prod.mk.inj hx
    simp[hc,flatCells]
   case string=>
    obtain ⟨z,hc,hx,_⟩:=DataW.trod_string hu h
    obtain ⟨rfl,_⟩:=Prod.mk.inj hx
    simp[hc,flatCells]
   case struct fs=>
    simp only[DataW.trod,hu] at h
    split at h
    ·rename_i hl
     obtain ⟨xs,hm,hx⟩:=Option.map_eq_some_iff.1 h
     rw[Bool.and_eq_true] at hf
     obtain ⟨rfl,_⟩: .agg (xs.map (·.1))=d∧_:=by simpa using hx
     rw[flat_agg]
     have:=flat_fields (P:=P) cs (fun t l=>DataW.trod enc P w base sp held fuel t l) fs.toList 0 (P.cellsOf t) xs hf.1 (by omega) (fun f hf' l d p hd=>flat_of_trod m fuel f.type l d p (List.all_eq_true.1 hf.2 f hf') hd) hm
     rw[←this,List.drop_zero,Nat.sub_zero,List.take_of_length_le (by omega)]
    ·cases h
   case array n e=>
    simp only[DataW.trod,hu] at h
    split at h
    ·rename_i hl
     obtain ⟨xs,hm,hx⟩:=Option.map_eq_some_iff.1 h
     rw[Bool.and_eq_true,beq_iff_eq] at hf
     obtain ⟨rfl,_⟩: .agg (xs.map (·.1))=d∧_:=by simpa using hx
     rw[flat_agg]
     rw[List.range_eq_range'] at hm
     have:=flat_rows (P:=P) cs (P.cellsOf e) (fun l=>DataW.trod enc P w base sp held fuel e l) (fun l d p hd=>flat_of_trod m fuel e l d p hf.2 hd) n 0 xs hm
     rw[←this,Nat.zero_mul,List.drop_zero,List.take_of_length_le (by omega)]
    ·cases h
   all_goals exact absurd hf (by decide)
theorem flat_laid {P:Program} {W:World} {name:String} {d:DataW Unit} {rest:List (String×DataW Unit)} {g:Nat} {t:TypeId} (m:Nat) (hg:P.globalNamed name=some g) (hty:(P.globals[g]?).map (·.type)=some t) (hf:flatB P m t=true)
  (h:laidMet P ((name,d)::rest) W):∀j v,(flatCells d)[j]? =some v→W.cell? ⟨g,j,none⟩=some v:=by
 obtain ⟨ps,⟨g',t',cs,fuel,p,q,hg',ht',hvar,hd,_,_⟩,_⟩:=h
 obtain rfl:=Option.some.inj (hg.symm.trans hg')
 obtain rfl:=Option.some.inj (hty.symm.trans ht')
 have e:=flat_of_trod m fuel t cs.toList d p hf hd
 intro j v hv
 rw[World.var?_cell hg hvar j,←Array.getElem?_toList,e,hv]
end Go.Proofs.YtbamcchghecpeaaGreatDoor
namespace Go.Proofs.YtbamcchghecpeaaGreatDoor.Stk
open Go.ChangeShapes Go.WideShapes Go.ChangeAt Go.RowKit
theorem same_take (xs ys:List Int) (k:Nat) (h1:k < xs.length) (h2:k < ys.length) (h:xs.take k=ys.take k) (e:xs.getD k 0=ys.getD k 0):xs.take (k+1)=ys.take (k+1):=by
 rw[List.take_succ_eq_append_getElem h1,List.take_succ_eq_append_getElem h2,h]
 simp[List.getD_eq_getElem?_getD,List.getElem?_eq_getElem h1,List.getElem?_eq_getElem h2] at e
 rw[e]
theorem ne_at (xs ys:List Int) (k:Nat) (e:¬xs.getD k 0=ys.getD k 0):¬xs=ys:=fun h=>e (by rw[h])
theorem infoU32:(Tryz.prog.info? 26).map (fun i=>(i.zero,i.size,i.bytes))=some (some (.int .u32 0),1,4):=by kernel_rfl
theorem w_rcopy (v:Value) (xs:List Int) (w:World) (h:Rd .u32 w v xs) (h1:xs.length≤maxLen) (hb:xs.length*4≤140737488355328):
  Calls Tryz.prog 21 #[v] w fun e w'=>∃v',e= .returned v'∧w'.ownsRow w.heap.size 26 1 v' xs.length (xs.map (Value.int .u32))∧Below w.heap.size w w':=by
 obtain ⟨i0,hi,hz0,hz1,hz2⟩:=info_parts infoU32
 go_enter Tryz.func21,Tryz.ntmps21
 go_wp2_with (at_builtin;refine wpList_append_rd (k:= .u32) rfl _ _ 22 rfl w.heap.size 26 i0 4 Tryz.underlying22 hi hz0 hz1 hz2 (.slice none 0 0) [] rfl (World.ownsRow_nil _ _ _ _) v xs rfl h (by simpa using h1) (by simpa using hb) (Nat.le_refl _) ?_;intro v' w1 hown hgr)
 go_ret
 exact ⟨v',rfl,by simpa using hown,below_grown (Below.refl _ _) hgr (fun k hk=>by cases hk)⟩
theorem uS:Tryz.prog.underlying 22=some (.slice (Tryz.prog.elem 22)):=by kernel_rfl
theorem eS:Tryz.prog.elem 22=26:=by kernel_rfl
theorem zS (w:World):(sizeOf (Tryz.prog.elem 22)).run Tryz.prog w= .ok 1 w:=by rw[eS];exact Tryz.sizeOf26 w
def popF (l:List Int) (n:Int):List Int×List Int×Int:=
 if n < 0 then ([],[],1) else if (l.length:Int) < n then ([],[],5) else (l.take (l.length - n.toNat),l.drop (l.length - n.toNat),0)
def pushF (l m:List Int):List Int×Int:=if 64 < l.length+m.length then ([],6) else (l++m,0)
end Go.Proofs.YtbamcchghecpeaaGreatDoor.Stk
namespace Go.Proofs.YtbamcchghecpeaaGreatDoor
open Go.ChangeShapes Go.WideShapes Go.ChangeAt Go.RowKit
def LB (s:ByteArray):List Int:=s.data.toList.map fun c=>(c.toNat:Int)
def bytesL (xs:List Int):Prop:=∀x∈xs,0≤x∧x < 256
theorem LB_len (s:ByteArray):(LB s).length=s.size:=by simp[LB]
theorem LB_bytes (s:ByteArray):bytesL (LB s):=by
 intro x hx
 simp only[LB,List.mem_map] at hx
 obtain ⟨c,_,rfl⟩:=hx
 have:=c.toNat_lt
 omega
theorem LB_nums (xs:List Int) (h:bytesL xs):LB (strOfNums xs)=xs:=by
 simp only[LB,strOfNums_data,List.map_map]
 conv=>rhs;rw[←List.map_id xs]
 apply List.map_congr_left
 intro x hx
 have:=h x hx
 simp only[Function.comp,id]
 rw[UInt8.toNat_ofNat']
 omega
theorem nums_LB (s:ByteArray):strOfNums (LB s)=s:=by
 cases s with
 |mk d=>
  simp only[strOfNums,LB,List.map_map]
  congr 1
  rw[show ((fun n:Int=>UInt8.ofNat n.toNat) ∘ fun c:UInt8=>(c.toNat:Int))=id by funext c;simp]
  simp
theorem nums_eq (xs ys:List Int) (hx:bytesL xs) (hy:bytesL ys):(strOfNums xs=strOfNums ys)=(xs=ys):=by
 apply propext
 constructor
 ·intro h
  rw[←LB_nums xs hx,←LB_nums ys hy,h]
 ·intro h
  rw[h]
theorem str_beq (A B:ByteArray):(A.toList==B.toList)=decide (A=B):=by
 rw[Bool.eq_iff_iff]
 simp only[beq_iff_eq,decide_eq_true_eq,ByteArray.toList_eq]
 constructor
 ·intro h
  cases A;cases B
  congr 1
  exact Array.ext' h
 ·intro h;rw[h]
def SlC (sz:Nat) (w:World) (v:Value) (rows:List (List Value)):Prop:=
 (∃ao cap,v= .slice ao 0 cap∧(ao=none→cap=0)∧rows=[])∨
 ∃b off cap,v= .slice (some ⟨b,off,none⟩) rows.length cap∧0 < rows.length∧rows.length≤cap∧cap≤maxLen∧
  ∀i,i < rows.length→(rows.getD i []).length=sz∧∀j,j < sz→w.cell? ⟨b,off+i*sz+j,none⟩=(rows.getD i [])[j]?
theorem SlC.below {sz:Nat} {w w':World} {v:Value} {rows:List (List Value)} (h:SlC sz w v rows) (g:Below w.heap.size w w'):SlC sz w' v rows:=by
 rcases h with h|⟨b,off,cap,rfl,h0,h1,h2,hc⟩
 ·exact Or.inl h
 ·refine Or.inr ⟨b,off,cap,rfl,h0,h1,h2,fun i hi=>⟨(hc i hi).1,fun j hj=> ?_⟩⟩
  have hl:=(hc i hi).1
  have e:=(hc i hi).2 j hj
  rw[List.getElem?_eq_getElem (by omega)] at e ⊢
  exact below_cell g e
theorem SlC.form {sz:Nat} {w:World} {v:Value} {rows:List (List Value)} (h:SlC sz w v rows):∃ao cap,v= .slice ao rows.length cap∧rows.length≤cap∧(ao=none→cap=0)∧
  (0 < rows.length→cap≤maxLen∧∃b off,ao=some ⟨b,off,none⟩∧∀i,i < rows.length→(rows.getD i []).length=sz∧∀j,j < sz→w.cell? ⟨b,off+i*sz+j,none⟩=(rows.getD i [])[j]?):=by
 rcases h with ⟨ao,cap,rfl,h1,rfl⟩|⟨b,off,cap,rfl,h0,h1,h2,hc⟩
 ·exact ⟨ao,cap,rfl,Nat.zero_le _,h1,fun h=>by simp at h⟩
 ·exact ⟨_,cap,rfl,h1,(fun h=>by cases h),fun _=>⟨h2,b,off,rfl,hc⟩⟩
def SlR {α:Type} (sz:Nat) (R:World→List Value→α→Prop) (w:World) (v:Value) (xs:List α):Prop:=
 ∃rows,SlC sz w v rows∧rows.length=xs.length∧∀i (h:i < xs.length),R w (rows.getD i []) xs[i]
theorem SlR.below {α:Type} {sz:Nat} {R:World→List Value→α→Prop} {w w':World} {v:Value} {xs:List α} (h:SlR sz R w v xs) (g:Below w.heap.size w w') (hR:∀cs x,R w cs x→R w' cs x):SlR sz R w' v xs:=by
 obtain ⟨rows,h1,h2,h3⟩:=h
 exact ⟨rows,h1.below g,h2,fun i hi=>hR _ _ (h3 i hi)⟩
theorem SlR.nil {α:Type} {sz:Nat} {R:World→List Value→α→Prop} {w:World}:SlR sz R w (.slice none 0 0) ([]:List α):=
 ⟨[],Or.inl ⟨none,0,rfl,fun _=>rfl,rfl⟩,rfl,fun i h=>by simp at h⟩
theorem slr_len {α:Type} {P:Program} {sz:Nat} {R:World→List Value→α→Prop} {w:World} {v:Value} {xs:List α} (h:SlR sz R w v xs) {t e:TypeId} (ht:P.underlying t=some (.slice e)) (ty:TypeId) (w':World):
  (Builtin.len_ #[t] ty #[v]).run P w'= .ok (.int .i64 xs.length) w':=by
 obtain ⟨rows,h1,h2,h3⟩:=h
 obtain ⟨ao,cap,rfl,_⟩:=h1.form
 simp[Builtin.len_,run_underlying ht,goInt,h2]
theorem slr_max {α:Type} {sz:Nat} {R:World→List Value→α→Prop} {w:World} {v:Value} {xs:List α} (h:SlR sz R w v xs):xs.length≤maxLen:=by
 obtain ⟨rows,h1,h2,h3⟩:=h
 rcases h1 with ⟨ao,cap,rfl,_,rfl⟩|⟨b,off,cap,rfl,h0,h1,h2',hc⟩
 ·simp at h2;omega
 ·omega
theorem alloc_row (w:World) (row:List Value) (T:TypeId):∀j u,row[j]? =some u→(w.alloc (.cells row.toArray T)).cell? ⟨w.heap.size,j,none⟩=some u:=by
 intro j u h
 rw[World.cell?_alloc_new]
 simpa using h
theorem slr_rows {α:Type} {R:World→List Value→α→Prop} {w:World} {base:Nat} {e:TypeId} {v:Value} {n sz:Nat} {xs:List α} (f:α→List Value) (hf:∀x∈xs,(f x).length=sz) (hsz:0 < sz) (h:w.ownsRow base e sz v n (xs.flatMap f)) (hR:∀x∈xs,R w (f x) x):SlR sz R w v xs:=by
 obtain ⟨hl,h⟩:=h
 have hlen:∀ys:List α,(∀x∈ys,(f x).length=sz)→(ys.flatMap f).length=ys.length*sz:=by
  intro ys
  induction ys with
  |nil=>intro _;simp
  |cons y ys ih=>
   intro hy
   rw[List.flatMap_cons,List.length_append,ih (fun x hx=>hy x (by simp[hx])),hy y (by simp),List.length_cons,Nat.add_mul,Nat.one_mul]
   omega
 have hn:n=xs.length:=by
  rw[hlen xs hf] at hl
  exact (Nat.eq_of_mul_eq_mul_right hsz hl).symm
 have hat:∀(ys:List α) (i:Nat) (hi:i < ys.length),(∀x∈ys,(f x).length=sz)→∀j,j < sz→(ys.flatMap f)[i*sz+j]? =(f ys[i])[j]? :=by
  intro ys
  induction ys with
  |nil=>intro i hi;simp at hi
  |cons y ys ih=>
   intro i hi hy j hj
   have hy0:=hy y (by simp)
   rw[List.flatMap_cons]
   cases i with
   |zero=>
    rw[List.getElem?_append_left (by omega)]
    simp
   |succ i=>
    rw[Nat.add_mul,Nat.one_mul,List.getElem?_append_right (by omega),show i*sz+sz+j - (f y).length=i*sz+j by omega]
    exact ih i (by simpa using hi) (fun x hx=>hy x (by simp[hx])) j hj
 refine ⟨xs.map f, ?_,by simp,fun i hi=> ?_⟩
 ·rcases h with ⟨rfl,h0⟩|⟨g,cap,cur,rfl,hb,hg,hc,hm,hs,ht⟩
  ·have:xs=[]:=List.eq_nil_of_length_eq_zero (by omega)
   subst this
   exact Or.inl ⟨none,0,rfl,fun _=>rfl,rfl⟩
  ·rcases Nat.eq_zero_or_pos xs.length with h0|h0
   ·have:xs=[]:=List.eq_nil_of_length_eq_zero h0
    subst this
    exact Or.inl ⟨_,_,by rw[hn];rfl,(fun h=>by cases h),rfl⟩
   ·refine Or.inr ⟨g,0,cap,by rw[hn,List.length_map],by rw[List.length_map];exact h0,by rw[List.length_map];omega,hm,fun i hi=> ?_⟩
    have hi2:i < xs.length:=by simpa using hi
    have e1:(xs.map f).getD i []=f xs[i]:=by simp[List.getD_eq_getElem?_getD,List.getElem?_eq_getElem hi2]
    rw[e1]
    refine ⟨hf _ (List.getElem_mem hi2),fun j hj=> ?_⟩
    have e2:=hat xs i hi2 hf j hj
    have hlt:i*sz+j < n*sz:=by
     have:(i+1)*sz≤n*sz:=Nat.mul_le_mul_right _ (by omega)
     rw[Nat.add_mul,Nat.one_mul] at this
     omega
    rw[←ht,List.getElem?_take,if_pos hlt] at e2
    rw[←e2]
    simp[World.cell?,hg]
 ·have e1:(xs.map f).getD i []=f xs[i]:=by simp[List.getD_eq_getElem?_getD,List.getElem?_eq_getElem hi]
  rw[e1]
  exact hR _ (List.getElem_mem hi)
theorem own_le {w:World} {b b':Nat} {e:TypeId} {sz:Nat} {v:Value} {n:Nat} {cs:List Value} (h:b≤b') (o:w.ownsRow b' e sz v n cs):w.ownsRow b e sz v n cs:=by
 obtain ⟨hl,o⟩:=o
 refine ⟨hl, ?_⟩
 rcases o with o|⟨g,cap,cur,rfl,hb,o⟩
 ·exact Or.inl o
 ·exact Or.inr ⟨g,cap,cur,rfl,by omega,o⟩
theorem own_form {w:World} {b:Nat} {e:TypeId} {sz:Nat} {v:Value} {n:Nat} {cs:List Value} (o:w.ownsRow b e sz v n cs):∃ao cap,v= .slice ao n cap:=by
 obtain ⟨hl,o⟩:=o
 rcases o with ⟨rfl,h0⟩|⟨g,cap,cur,rfl,o⟩
 ·exact ⟨none,0,by rw[h0]⟩
 ·exact ⟨_,_,rfl⟩
def Stands (w:World) (b:Nat) (cs:Array Value) (T:TypeId):Prop:=w.heap[b]? =some (.cells cs T (0,0))
theorem stands_new (w:World) (cs:Array Value) (T:TypeId):Stands (w.alloc (.cells cs T)) w.heap.size cs T:=heap_alloc_new w _
theorem Stands.below {w w':World} {b:Nat} {cs:Array Value} {T:TypeId} (h:Stands w b cs T) (g:Below w.heap.size w w'):Stands w' b cs T:=by
 unfold Stands at h ⊢
 rw[g.block b (Array.getElem?_eq_some_iff.1 h).1]
 exact h
theorem Stands.cell {w:World} {b:Nat} {cs:Array Value} {T:TypeId} (h:Stands w b cs T) (j:Nat) (u:Value) (hj:cs[j]? =some u):w.cell? ⟨b,j,none⟩=some u:=by
 unfold Stands at h
 simp[World.cell?,h,hj]
theorem Stands.free {w:World} {b:Nat} {cs:Array Value} {T:TypeId} (h:Stands w b cs T) (j:Nat):w.frozen? ⟨b,j,none⟩=false:=by
 unfold Stands at h
 simp[World.frozen?,h]
theorem Stands.set {w:World} {b:Nat} {cs:Array Value} {T:TypeId} (h:Stands w b cs T) (j:Nat) (u:Value):Stands (w.setCell ⟨b,j,none⟩ u) b (cs.setIfInBounds j u) T:=by
 unfold Stands at h ⊢
 have hb:=(Array.getElem?_eq_some_iff.1 h).1
 have e:w.heap[b]= .cells cs T (0,0):=(Array.getElem?_eq_some_iff.1 h).2
 simp only[World.setCell]
 rw[Array.getElem?_modify,if_pos rfl,Array.getElem?_eq_getElem hb,e]
 rfl
theorem Stands.other {w:World} {b b':Nat} {cs:Array Value} {T:TypeId} (h:Stands w b cs T) (j:Nat) (u:Value) (hb:b≠b'):Stands (w.setCell ⟨b',j,none⟩ u) b cs T:=by
 unfold Stands at h ⊢
 simp only[World.setCell]
 rw[Array.getElem?_modify,if_neg (by omega)]
 exact h
theorem below_set {w w':World} (h:Below w.heap.size w w') (g j:Nat) (u:Value) (hg:w.heap.size≤g):Below w.heap.size w (w'.setCell ⟨g,j,none⟩ u):=by
 refine ⟨h.os,h.tape,h.output,by simpa [World.setCell] using h.size,fun k hk=> ?_⟩
 rw[←h.block k hk]
 simp only[World.setCell]
 rw[Array.getElem?_modify,if_neg (by omega)]
theorem stands_apart {w:World} {b:Nat} {cs:Array Value} {T:TypeId} {base:Nat} {e:TypeId} {v:Value} {n sz:Nat} {xs:List Value} (h:Stands w b cs T) (o:w.ownsRow base e sz v n xs) (ht:¬e=T):some b≠v.ownBlock:=by
 obtain ⟨hl,o⟩:=o
 rcases o with ⟨rfl,h0⟩|⟨g,cap,cur,rfl,hb,hg,o⟩
 ·simp[Value.ownBlock]
 ·intro hh
  simp[Value.ownBlock] at hh
  subst hh
  unfold Stands at h
  rw[h] at hg
  simp at hg
  exact ht hg.2.symm
theorem Stands.grown {w w':World} {b:Nat} {cs:Array Value} {T:TypeId} {row:Option Nat} (h:Stands w b cs T) (g:w.grownBy w' row) (hr:some b≠row):Stands w' b cs T:=by
 unfold Stands at h ⊢
 rw[g.block b (Array.getElem?_eq_some_iff.1 h).1 hr]
 exact h
def Kept (T:TypeId) (w w':World):Prop:=∃row,w.grownBy w' row∧∀g,row=some g→∃cur fr,w.heap[g]? =some (.cells cur T fr)
theorem grown_none {w w':World} (h:Below w.heap.size w w'):w.grownBy w' none:=⟨h.os,h.tape,h.output,h.size,fun k hk _=>h.block k hk⟩
theorem Kept.below {T:TypeId} {w w':World} (h:Below w.heap.size w w'):Kept T w w':=⟨none,grown_none h,fun g hg=>by cases hg⟩
theorem Kept.own {base:Nat} {e:TypeId} {sz:Nat} {w w':World} {v:Value} {n:Nat} {cs:List Value} (o:w.ownsRow base e sz v n cs) (g:w.grownBy w' v.ownBlock):Kept e w w':=by
 refine ⟨_,g,fun k hk=> ?_⟩
 obtain ⟨_,o⟩:=o
 rcases o with ⟨rfl,_⟩|⟨k',cap,cur,rfl,_,h1,_⟩
 ·simp[Value.ownBlock] at hk
 ·simp[Value.ownBlock] at hk
  subst hk
  exact ⟨cur,_,h1⟩
theorem Kept.stands {b:Nat} {cs:Array Value} {T:TypeId} {w w':World} (h:Stands w b cs T) (g:w.grownBy w' (some b)):Kept T w w':=
 ⟨_,g,fun k hk=>by cases hk;exact ⟨cs,_,h⟩⟩
def Apt {α:Type} (T:TypeId) (O:World→List Value→α→Prop):Prop:=∀w w' cs x,Kept T w w'→O w cs x→O w' cs x
theorem own_kept {T:TypeId} {w w':World} (k:Kept T w w') {base:Nat} {e:TypeId} {sz:Nat} {v:Value} {n:Nat} {cs:List Value} (hne:¬e=T) (o:w.ownsRow base e sz v n cs):w'.ownsRow base e sz v n cs:=by
 obtain ⟨row,g,hr⟩:=k
 obtain ⟨hl,o⟩:=o
 refine ⟨hl, ?_⟩
 rcases o with o|⟨b,cap,cur,rfl,hb,h1,o⟩
 ·exact Or.inl o
 ·refine Or.inr ⟨b,cap,cur,rfl,hb, ?_,o⟩
  rw[g.block b (Array.getElem?_eq_some_iff.1 h1).1 (fun e0=> ?_)]
  ·exact h1
  ·obtain ⟨cur',fr,h2⟩:=hr b e0.symm
   rw[h1] at h2
   simp at h2
   exact hne h2.2.1
theorem stands_kept {T:TypeId} {w w':World} (k:Kept T w w') {b:Nat} {cs:Array Value} {e:TypeId} (hne:¬e=T) (h:Stands w b cs e):Stands w' b cs e:=by
 obtain ⟨row,g,hr⟩:=k
 unfold Stands at h ⊢
 rw[g.block b (Array.getElem?_eq_some_iff.1 h).1 (fun e0=> ?_)]
 ·exact h
 ·obtain ⟨cur',fr,h2⟩:=hr b e0.symm
  rw[h] at h2
  simp at h2
  exact hne h2.2.1
def OwnR {α:Type} (e:TypeId) (sz:Nat) (O:World→List Value→α→Prop) (base:Nat) (w:World) (v:Value) (xs:List α):Prop:=
 ∃rows:List (List Value),rows.length=xs.length∧(∀r∈rows,r.length=sz)∧w.ownsRow base e sz v xs.length rows.flatten∧∀i (h:i < xs.length),O w (rows.getD i []) xs[i]
theorem OwnR.nil {α:Type} (e:TypeId) (sz:Nat) (O:World→List Value→α→Prop) (base:Nat) (w:World):OwnR e sz O base w (.slice none 0 0) ([]:List α):=⟨[],rfl,by simp,World.ownsRow_nil _ _ _ _,fun i hi=>by simp at hi⟩
theorem OwnR.row {α:Type} {e:TypeId} {sz:Nat} {O:World→List Value→α→Prop} {base:Nat} {w:World} {v:Value} {xs:List α} (h:OwnR e sz O base w v xs):∃cs,w.ownsRow base e sz v xs.length cs:=by
 obtain ⟨rows,_,_,h3,_⟩:=h
 exact ⟨_,h3⟩
theorem OwnR.read {α:Type} {e:TypeId} {sz:Nat} {O R:World→List Value→α→Prop} {base:Nat} {w:World} {v:Value} {xs:List α} (hsz:0 < sz) (h:OwnR e sz O base w v xs) (hR:∀cs x,O w cs x→R w cs x):SlR sz R w v xs:=by
 obtain ⟨rows,h1,h2,h3,h4⟩:=h
 have h5:SlR sz (fun _ cs (r:List Value)=>cs=r) w v rows:=slr_rows (n:=xs.length) (e:=e) (base:=base) id h2 hsz (by simpa [List.flatMap_id] using h3) (fun _ _=>rfl)
 obtain ⟨rows',k1,k2,k3⟩:=h5
 have e0:rows'=rows:=by
  apply List.ext_getElem k2
  intro i hi hj
  have:=k3 i hj
  rw[List.getD_eq_getElem?_getD,List.getElem?_eq_getElem hi] at this
  simpa using this
 subst e0
 exact ⟨rows',k1,h1,fun i hi=>hR _ _ (h4 i hi)⟩
theorem OwnR.kept {α:Type} {T e:TypeId} {sz:Nat} {O:World→List Value→α→Prop} {base:Nat} {w w':World} {v:Value} {xs:List α} (h:OwnR e sz O base w v xs) (k:Kept T w w') (hne:¬e=T) (ha:Apt T O):OwnR e sz O base w' v xs:=by
 obtain ⟨rows,h1,h2,h3,h4⟩:=h
 exact ⟨rows,h1,h2,own_kept k hne h3,fun i hi=>ha _ _ _ _ k (h4 i hi)⟩
theorem OwnR.below {α:Type} {e:TypeId} {sz:Nat} {O:World→List Value→α→Prop} {base:Nat} {w w':World} {v:Value} {xs:List α} (h:OwnR e sz O base w v xs) (g:Below w.heap.size w w') (hO:∀cs x,O w cs x→O w' cs x):OwnR e sz O base w' v xs:=by
 obtain ⟨rows,h1,h2,⟨hl,h3⟩,h4⟩:=h
 refine ⟨rows,h1,h2,⟨hl, ?_⟩,fun i hi=>hO _ _ (h4 i hi)⟩
 rcases h3 with h|⟨b,cap,cur,rfl,hb,hg,hc⟩
 ·exact Or.inl h
 ·refine Or.inr ⟨b,cap,cur,rfl,hb, ?_,hc⟩
  rw[g.block b (Array.getElem?_eq_some_iff.1 hg).1]
  exact hg
theorem OwnR.le {α:Type} {e:TypeId} {sz:Nat} {O O':World→List Value→α→Prop} {base base':Nat} {w:World} {v:Value} {xs:List α} (hb:base'≤base) (h:OwnR e sz O base w v xs) (hO:∀cs x,O w cs x→O' w cs x):OwnR e sz O' base' w v xs:=by
 obtain ⟨rows,h1,h2,h3,h4⟩:=h
 exact ⟨rows,h1,h2,own_le hb h3,fun i hi=>hO _ _ (h4 i hi)⟩
theorem OwnR.snoc {α:Type} {e:TypeId} {sz:Nat} {O:World→List Value→α→Prop} {base:Nat} {w w':World} {U v':Value} {xs:List α} {x:α} {row:List Value} {rows:List (List Value)} (ha:Apt e O) (h1:rows.length=xs.length) (h2:∀r∈rows,r.length=sz) (h3:w.ownsRow base e sz U xs.length rows.flatten) (h4:∀i (h:i < xs.length),O w (rows.getD i []) xs[i])
  (hr:row.length=sz) (hx:O w row x) (o:w'.ownsRow base e sz v' (xs.length+1) (rows.flatten++row)) (g:w.grownBy w' U.ownBlock):OwnR e sz O base w' v' (xs++[x]):=by
 have k:=Kept.own h3 g
 refine ⟨rows++[row],by simp[h1],fun r hm=> ?_,by simpa using o,fun i hi=> ?_⟩
 ·rcases List.mem_append.1 hm with hm|hm
  ·exact h2 r hm
  ·simp at hm;subst hm;exact hr
 ·by_cases hlt:i < xs.length
  ·rw[List.getD_eq_getElem?_getD,List.getElem?_append_left (by omega),List.getElem_append_left hlt,←List.getD_eq_getElem?_getD]
   exact ha _ _ _ _ k (h4 i hlt)
  ·have hi2:i=xs.length:=by simp at hi;omega
   subst hi2
   rw[List.getD_eq_getElem?_getD,List.getElem?_append_right (by omega),h1]
   simp
   exact ha _ _ _ _ k hx
theorem flat_set {α:Type}:∀(rows:List (List α)) (sz i j:Nat) (u:α),(∀r∈rows,r.length=sz)→i < rows.length→j < sz→rows.flatten.set (i*sz+j) u=(rows.set i ((rows.getD i []).set j u)).flatten
 |[],sz,i,j,u,_,hi,_=>by simp at hi
 |r::rows,sz,0,j,u,h,hi,hj=>by
  have hr:=h r (by simp)
  simp only[List.flatten_cons,Nat.zero_mul,Nat.zero_add,List.set_cons_zero,List.getD_cons_zero]
  rw[List.set_append_left _ _ (by omega)]
 |r::rows,sz,i+1,j,u,h,hi,hj=>by
  have hr:=h r (by simp)
  have ih:=flat_set rows sz i j u (fun x hx=>h x (by simp[hx])) (by simpa using hi) hj
  simp only[List.flatten_cons,List.set_cons_succ,List.getD_cons_succ]
  rw[List.set_append_right _ _ (by rw[hr,Nat.add_mul];omega),hr,show (i+1)*sz+j - sz=i*sz+j by rw[Nat.add_mul];omega,ih]
theorem OwnR.set {α:Type} {e:TypeId} {sz:Nat} {O:World→List Value→α→Prop} {base:Nat} {w:World} {g n cap:Nat} {xs:List α} {rows:List (List Value)} (ha:Apt e O) (h1:rows.length=xs.length) (h2:∀r∈rows,r.length=sz) (h3:w.ownsRow base e sz (.slice (some ⟨g,0,none⟩) n cap) xs.length rows.flatten) (h4:∀i (h:i < xs.length),O w (rows.getD i []) xs[i])
  (i j:Nat) (hi:i < xs.length) (hj:j < sz) (u:Value) (x:α) (hx:O (w.setCell ⟨g,i*sz+j,none⟩ u) ((rows.getD i []).set j u) x):OwnR e sz O base (w.setCell ⟨g,i*sz+j,none⟩ u) (.slice (some ⟨g,0,none⟩) n cap) (xs.set i x)∧Kept e w (w.setCell ⟨g,i*sz+j,none⟩ u):=by
 have hn:n=xs.length:=by
  obtain ⟨_,h3⟩:=h3
  rcases h3 with ⟨h,_⟩|⟨g',cap',cur,h,_⟩
  ·simp at h
  ·simp at h;exact h.2.1
 subst hn
 obtain ⟨s1,s2⟩:=h3.stored (i*sz+j) u
 have k:Kept e w (w.setCell ⟨g,i*sz+j,none⟩ u):=Kept.own (v:= .slice (some ⟨g,0,none⟩) xs.length cap) h3 (by simpa [Value.ownBlock] using s2)
 rw[flat_set rows sz i j u h2 (by omega) hj] at s1
 refine ⟨⟨rows.set i ((rows.getD i []).set j u),by simp[h1],fun r hm=> ?_,by simpa using s1,fun m hm=> ?_⟩,k⟩
 ·rcases List.mem_or_eq_of_mem_set hm with hm|rfl
  ·exact h2 r hm
  ·rw[List.length_set,List.getD_eq_getElem?_getD,List.getElem?_eq_getElem (by omega)]
   exact h2 _ (List.getElem_mem _)
 ·rw[List.length_set] at hm
  rw[List.getElem_set]
  by_cases him:i=m
  ·subst him
   rw[if_pos rfl,List.getD_eq_getElem?_getD,List.getElem?_set_self (by omega)]
   exact hx
  ·rw[if_neg him,List.getD_eq_getElem?_getD,List.getElem?_set_ne him,←List.getD_eq_getElem?_getD]
   exact ha _ _ _ _ k (h4 m hm)
theorem flat_get {α:Type}:∀(rows:List (List α)) (sz i j:Nat),(∀r∈rows,r.length=sz)→i < rows.length→j < sz→rows.flatten[i*sz+j]? =(rows.getD i [])[j]?
 |[],sz,i,j,_,hi,_=>by simp at hi
 |r::rows,sz,0,j,h,hi,hj=>by
  have hr:=h r (by simp)
  simp only[List.flatten_cons,Nat.zero_mul,Nat.zero_add,List.getD_cons_zero]
  rw[List.getElem?_append_left (by omega)]
 |r::rows,sz,i+1,j,h,hi,hj=>by
  have hr:=h r (by simp)
  have ih:=flat_get rows sz i j (fun x hx=>h x (by simp[hx])) (by simpa using hi) hj
  simp only[List.flatten_cons,List.getD_cons_succ]
  rw[List.getElem?_append_right (by rw[hr,Nat.add_mul];omega),hr,show (i+1)*sz+j - sz=i*sz+j by rw[Nat.add_mul];omega,ih]
theorem flat_len {α:Type} (rows:List (List α)) (sz:Nat) (h:∀r∈rows,r.length=sz):rows.flatten.length=rows.length*sz:=by
 induction rows with
 |nil=>simp
 |cons r rows ih=>
  rw[List.flatten_cons,List.length_append,ih (fun x hx=>h x (by simp[hx])),h r (by simp),List.length_cons,Nat.add_mul]
  omega
theorem wp_append_rows {P:Program} {w:World} {o:Oper} {a:Act} {K:Act→World→Prop} {Q:Exit→Act→World→Prop} (s x:Operand) (t:TypeId)
  (ho:o.op= .call {callee:= .builtin .append,args:=#[s,x],argTypes:=#[t,t]})
  (base:Nat) (e:TypeId) (i:TypeInfo) (z:Value) (sz bytes:Nat) (ht:P.underlying t=some (.slice e)) (hi:P.info? e=some i) (hz:i.zero=some z) (hsize:i.size=sz) (hby:i.bytes=bytes) (hzs:z.cells.size=sz) (hsz:0 < sz)
  (v:Value) (n:Nat) (cs:List Value) (hs:a.eval s=v) (hown:w.ownsRow base e sz v n cs)
  (vx:Value) (rows:List (List Value)) (hx:a.eval x=vx) (hr:SlC sz w vx rows) (h1:∀r∈rows,∀u∈r,u.oneCell'=true)
  (h63:n+rows.length≤maxLen) (hbytes:(n+rows.length)*bytes≤140737488355328) (hbase:base≤w.heap.size)
  (h:∀v' w',w'.ownsRow base e sz v' (n+rows.length) (cs++rows.flatten)→w.grownBy w' v.ownBlock→K (a.put o.dst v') w'):o.wp P a w K Q:=by
 rcases hr with ⟨ao,cap,rfl,hn,rfl⟩|⟨b,off,cap,rfl,h0,hc1,hc2,hc⟩
 ·cases ao with
  |none=>
   obtain rfl:=hn rfl
   have hrun:=run_append_owned_none (P:=P) (w:=w) base t o.type e i sz ht hi v n cs hown
   unfold Oper.wp
   simp[execOp,ho,resolve,invoke,builtin,hs,hx,hrun,Result.andThen]
   exact h v w (by simpa using hown) ⟨rfl,rfl,rfl,Nat.le_refl _,fun _ _ _=>rfl⟩
  |some ad=>
   refine wp_append_own w s x t ho base e i z sz bytes ht hi hz hsize hby hzs hsz v n _ hs hown ad 0 cap [] hx (by simp) (by simp) (by simp) (by simpa using h63) (by simpa using hbytes) hbase ?_
   intro v' w' h2 h3 _
   exact h v' w' (by simpa using h2) h3
 ·have hlen:∀r∈rows,r.length=sz:=by
   intro r hr
   obtain ⟨k,hk,rfl⟩:=List.getElem_of_mem hr
   have:=(hc k hk).1
   rwa [List.getD_eq_getElem?_getD,List.getElem?_eq_getElem hk] at this
  refine wp_append_own w s x t ho base e i z sz bytes ht hi hz hsize hby hzs hsz v n _ hs hown ⟨b,off,none⟩ rows.length cap rows.flatten hx (flat_len rows sz hlen) ?_ (fun u hu=> ?_) h63 hbytes hbase ?_
  ·intro j u hj
   have hjl:j < rows.length*sz:=by
    rw[←flat_len rows sz hlen]
    rcases Nat.lt_or_ge j rows.flatten.length with g|g
    ·exact g
    ·rw[List.getElem?_eq_none g] at hj;cases hj
   have hdm:=Nat.div_add_mod j sz
   have hq:j / sz < rows.length:=(Nat.div_lt_iff_lt_mul hsz).2 hjl
   have hm:=Nat.mod_lt j hsz
   have e1:=flat_get rows sz (j / sz) (j%sz) hlen hq hm
   have e2:j / sz*sz+j%sz=j:=by rw[Nat.mul_comm];exact hdm
   rw[e2,hj] at e1
   have e3:=(hc (j / sz) hq).2 (j%sz) hm
   rw[←e1,Nat.add_assoc,e2] at e3
   by_cases hz:j=0
   ·subst hz;simpa [Addr.add] using e3
   ·simpa [Addr.add,hz] using e3
  ·rw[List.mem_flatten] at hu
   obtain ⟨r,hr,hu⟩:=hu
   exact h1 r hr u hu
  ·intro v' w' h2 h3 _
   exact h v' w' h2 h3
theorem wpList_append_rows {P:Program} {w:World} {ops:Array Oper} {rest:List Oper} {o:Oper} {a:Act} {Q:Exit→Act→World→Prop} (hgd:o.guard=none) (s x:Operand) (t:TypeId)
  (ho:o.op= .call {callee:= .builtin .append,args:=#[s,x],argTypes:=#[t,t]})
  (base:Nat) (e:TypeId) (i:TypeInfo) (z:Value) (sz bytes:Nat) (ht:P.underlying t=some (.slice e)) (hi:P.info? e=some i) (hz:i.zero=some z) (hsize:i.size=sz) (hby:i.bytes=bytes) (hzs:z.cells.size=sz) (hsz:0 < sz)
  (v:Value) (n:Nat) (cs:List Value) (hs:a.eval s=v) (hown:w.ownsRow base e sz v n cs)
  (vx:Value) (rows:List (List Value)) (hx:a.eval x=vx) (hr:SlC sz w vx rows) (h1:∀r∈rows,∀u∈r,u.oneCell'=true)
  (h63:n+rows.length≤maxLen) (hbytes:(n+rows.length)*bytes≤140737488355328) (hbase:base≤w.heap.size)
  (h:∀v' w',w'.ownsRow base e sz v' (n+rows.length) (cs++rows.flatten)→w.grownBy w' v.ownBlock→wpList P ops Q rest (a.put o.dst v') w'):wpList P ops Q (o::rest) a w:=
 wpList_plain hgd fun _ hK=>wp_append_rows s x t ho base e i z sz bytes ht hi hz hsize hby hzs hsz v n cs hs hown vx rows hx hr h1 h63 hbytes hbase fun v' w' h2 h3=>hK _ _ (h v' w' h2 h3)
theorem step_append_rows {P:Program} {ops:Array Oper} {w:World} {o:Oper} {a:Act} {K:Act→World→Prop} {Q:Exit→Act→World→Prop} {E:Prop} (hgd:o.guard=none) (s x:Operand) (t:TypeId)
  (ho:o.op= .call {callee:= .builtin .append,args:=#[s,x],argTypes:=#[t,t]})
  (base:Nat) (e:TypeId) (i:TypeInfo) (z:Value) (sz bytes:Nat) (ht:P.underlying t=some (.slice e)) (hi:P.info? e=some i) (hz:i.zero=some z) (hsize:i.size=sz) (hby:i.bytes=bytes) (hzs:z.cells.size=sz) (hsz:0 < sz)
  (v:Value) (n:Nat) (cs:List Value) (hs:a.eval s=v) (hown:w.ownsRow base e sz v n cs)
  (vx:Value) (rows:List (List Value)) (hx:a.eval x=vx) (hr:SlC sz w vx rows) (h1:∀r∈rows,∀u∈r,u.oneCell'=true)
  (h63:n+rows.length≤maxLen) (hbytes:(n+rows.length)*bytes≤140737488355328) (hbase:base≤w.heap.size)
  (h:∀v' w',w'.ownsRow base e sz v' (n+rows.length) (cs++rows.flatten)→w.grownBy w' v.ownBlock→K (a.put o.dst v') w'):
  if Region.wanted o (yielded ops a.tmps)=true then Oper.wp P o a w K Q else E:=by
 rw[if_pos (by simp[Region.wanted,hgd])]
 exact wp_append_rows s x t ho base e i z sz bytes ht hi hz hsize hby hzs hsz v n cs hs hown vx rows hx hr h1 h63 hbytes hbase h
theorem slc_one (w:World) (row:List Value) (T:TypeId) (sz:Nat) (h:row.length=sz):SlC sz (w.alloc (.cells row.toArray T)) (.slice (some ⟨w.heap.size,0,none⟩) 1 1) [row]:=by
 refine Or.inr ⟨w.heap.size,0,1,rfl,by simp,by simp,by decide,fun i hi=> ?_⟩
 have:i=0:=by simp at hi;omega
 subst this
 refine ⟨by simpa using h,fun j hj=> ?_⟩
 rw[World.cell?_alloc_new]
 simp
theorem slr_idxN {α:Type} {P:Program} {R:World→List Value→α→Prop} {w:World} {v:Value} {xs:List α} {sz:Nat} (h:SlR sz R w v xs) {t:TypeId} (ht:P.underlying t=some (.slice (P.elem t))) (hs:∀w,(sizeOf (P.elem t)).run P w= .ok sz w) (i:Nat) (h1:i < xs.length):
  ∃(b o:Nat) (cs:List Value),(∀w',(Instr.indexAt t v (.int .i64 (i:Int))).run P w'= .ok (.pointer (some ⟨b,o,none⟩)) w')∧cs.length=sz∧(∀j,j < sz→w.cell? ⟨b,o+j,none⟩=cs[j]?)∧R w cs xs[i]:=by
 obtain ⟨rows,g1,g2,g3⟩:=h
 obtain ⟨ao,cap,rfl,hc,hn,hx⟩:=g1.form
 obtain ⟨hm,b,off,rfl,hcell⟩:=hx (by omega)
 obtain ⟨l1,l2⟩:=hcell i (by omega)
 refine ⟨b,off+i*sz,rows.getD i [],fun w'=> ?_,l1,fun j hj=>l2 j hj,g3 i h1⟩
 rw[run_indexAt_slice (h:=ht),if_pos ⟨by omega,by omega⟩,hs]
 simp only[Result.andThen,Int.toNat_natCast]
 congr 3
 unfold Addr.add
 split
 ·rename_i hz;rw[hz];rfl
 ·rfl
theorem rd_slice {k:IntKind} {w:World} {v:Value} {xs:List Int} (h:Rd k w v xs):∃ao cap,v= .slice ao xs.length cap:=by
 obtain ⟨ao,cap,rfl,_⟩:=rd_form h
 exact ⟨ao,cap,rfl⟩
theorem slr_slice {α:Type} {R:World→List Value→α→Prop} {sz:Nat} {w:World} {v:Value} {xs:List α} (h:SlR sz R w v xs):∃ao cap,v= .slice ao xs.length cap:=by
 obtain ⟨rows,h1,h2,_⟩:=h
 obtain ⟨ao,cap,rfl,_⟩:=h1.form
 exact ⟨ao,cap,by rw[h2]⟩
theorem set_kept {w:World} {b:Nat} {cs:Array Value} {T:TypeId} (h:Stands w b cs T) (j:Nat) (u:Value):Kept T w (w.setCell ⟨b,j,none⟩ u):=by
 refine Kept.stands h ⟨rfl,rfl,rfl,by simp,fun k hk hne=> ?_⟩
 exact Below.heap_setCell _ _ _ k (fun e=>hne (by rw[e]))
theorem set5 {w:World} {b:Nat} {z0 z1 z2 z3 z4:Value} {T:TypeId} (h:Stands w b #[z0,z1,z2,z3,z4] T) (a0 a1 a2 a3 a4:Value):
  Stands (((((w.setCell ⟨b,0,none⟩ a0).setCell ⟨b,1,none⟩ a1).setCell ⟨b,2,none⟩ a2).setCell ⟨b,3,none⟩ a3).setCell ⟨b,4,none⟩ a4) b #[a0,a1,a2,a3,a4] T∧
  (∀{base:Nat} {e:TypeId} {sz:Nat} {v:Value} {n:Nat} {xs:List Value},¬e=T→w.ownsRow base e sz v n xs→(((((w.setCell ⟨b,0,none⟩ a0).setCell ⟨b,1,none⟩ a1).setCell ⟨b,2,none⟩ a2).setCell ⟨b,3,none⟩ a3).setCell ⟨b,4,none⟩ a4).ownsRow base e sz v n xs):=by
 have h0:=h.set 0 a0
 have h1:=h0.set 1 a1
 have h2:=h1.set 2 a2
 have h3:=h2.set 3 a3
 have h4:=h3.set 4 a4
 exact ⟨h4,fun hne o=>own_kept (set_kept h3 4 a4) hne (own_kept (set_kept h2 3 a3) hne (own_kept (set_kept h1 2 a2) hne (own_kept (set_kept h0 1 a1) hne (own_kept (set_kept h 0 a0) hne o))))⟩
theorem own_some {w:World} {base:Nat} {e:TypeId} {sz:Nat} {v:Value} {n:Nat} {cs:List Value} (o:w.ownsRow base e sz v n cs) (h:0 < n):∃g cap,v= .slice (some ⟨g,0,none⟩) n cap:=by
 rcases o.2 with ⟨_,h0⟩|⟨g,cap,cur,hv,_⟩
 ·omega
 ·exact ⟨g,cap,hv⟩
theorem own_cell {w:World} {base:Nat} {e:TypeId} {sz g n cap:Nat} {cs:List Value} (o:w.ownsRow base e sz (.slice (some ⟨g,0,none⟩) n cap) n cs) (j:Nat) (u:Value) (h:cs[j]? =some u):w.cell? ⟨g,j,none⟩=some u:=by
 have h1:=o.cells (g:=g) rfl j u h
 have e1:(⟨g,0,none⟩:Addr).add j=⟨g,j,none⟩:=by
  unfold Addr.add
  split
  ·rename_i hz;rw[hz]
  ·simp
 rwa [e1] at h1
theorem two_boxes (w:World) (a b:Array Value) (T:TypeId):Stands ((w.alloc (.cells a T)).alloc (.cells b T)) w.heap.size a T∧Stands ((w.alloc (.cells a T)).alloc (.cells b T)) (w.heap.size+1) b T∧Below w.heap.size w ((w.alloc (.cells a T)).alloc (.cells b T)):=by
 refine ⟨(stands_new w a T).below (box_below _ _), ?_,below_trans (box_below w _) (box_below _ _)⟩
 have:=stands_new (w.alloc (.cells a T)) b T
 rwa [size_al] at this
theorem gb_refl (w:World) (r:Option Nat):w.grownBy w r:=⟨rfl,rfl,rfl,Nat.le_refl _,fun _ _ _=>rfl⟩
theorem gb_below {a b c:World} {r:Option Nat} (h:a.grownBy b r) (g:Below b.heap.size b c):a.grownBy c r:=
 ⟨g.os.trans h.os,g.tape.trans h.tape,g.output.trans h.output,Nat.le_trans h.size g.size,fun k hk hne=>(g.block k (Nat.lt_of_lt_of_le hk h.size)).trans (h.block k hk hne)⟩
theorem gb_set {a b:World} {g:Nat} (h:a.grownBy b (some g)) (j:Nat) (u:Value):a.grownBy (b.setCell ⟨g,j,none⟩ u) (some g):=
 ⟨h.os,h.tape,h.output,by simpa [World.setCell] using h.size,fun k hk hne=>(Below.heap_setCell _ _ _ k (fun e=>hne (by rw[e]))).trans (h.block k hk hne)⟩
theorem gb_new {a b:World} {r:Option Nat} {g:Nat} (h:a.grownBy b r) (hg:a.heap.size≤g) (j:Nat) (u:Value):a.grownBy (b.setCell ⟨g,j,none⟩ u) r:=
 ⟨h.os,h.tape,h.output,by simpa [World.setCell] using h.size,fun k hk hne=>(Below.heap_setCell _ _ _ k (fun e=>by have e2:k=g:=e;omega)).trans (h.block k hk hne)⟩
theorem slr_tail {α:Type} {P:Program} {R:World→List Value→α→Prop} {w:World} {v:Value} {xs:List α} {sz:Nat} (h:SlR sz R w v xs) {t:TypeId} (ht:P.underlying t=some (.slice (P.elem t))) (hs:∀w,(sizeOf (P.elem t)).run P w= .ok sz w) (n:Nat) (hn:n≤xs.length):
  ∃v',(∀w',(Instr.slice t v (some (.int .i64 (n:Int))) none none).run P w'= .ok v' w')∧SlR sz R w v' (xs.drop n):=by
 obtain ⟨rows,h1,h2,h3⟩:=h
 obtain ⟨ao,cap,rfl,hc,hno,hx⟩:=h1.form
 refine ⟨sliced ao n rows.length cap sz,fun w'=> ?_,rows.drop n, ?_,by simp[h2],fun i hi=> ?_⟩
 ·rw[run_slice_l w' t ao rows.length cap ht .i64 (n:Int) (by omega) (by omega),hs]
  simp[Result.andThen]
 ·rcases Nat.eq_zero_or_pos (rows.length - n) with h0|h0
  ·refine Or.inl ⟨if cap=n then ao else ao.map (·.add (n*sz)),cap - n,by rw[sliced,h0], ?_, ?_⟩
   ·intro he
    by_cases hcl:cap=n
    ·omega
    ·rw[if_neg hcl] at he
     cases ao with
     |none=>have:=hno rfl;omega
     |some a=>cases he
   ·apply List.eq_nil_of_length_eq_zero
    rw[List.length_drop]
    exact h0
  ·obtain ⟨hm,b,off,rfl,hcell⟩:=hx (by omega)
   have hl:(rows.drop n).length=rows.length - n:=by simp
   refine Or.inr ⟨b,off+n*sz,cap - n, ?_,by omega,by omega,by omega,fun i hi=> ?_⟩
   ·rw[sliced,hl,if_neg (by omega)]
    simp[Addr.add]
   ·rw[hl] at hi
    have e:(rows.drop n).getD i []=rows.getD (n+i) []:=by
     rw[List.getD_eq_getElem?_getD,List.getD_eq_getElem?_getD,List.getElem?_drop]
    rw[e]
    have:=hcell (n+i) (by omega)
    rw[show off+n*sz+i*sz=off+(n+i)*sz by rw[Nat.add_mul];omega]
    exact this
 ·have hi2:n+i < xs.length:=by simp at hi;omega
  have e:(rows.drop n).getD i []=rows.getD (n+i) []:=by
   rw[List.getD_eq_getElem?_getD,List.getD_eq_getElem?_getD,List.getElem?_drop]
  rw[e,List.getElem_drop]
  exact h3 (n+i) hi2
theorem own_belowN {w w':World} {base:Nat} {e:TypeId} {sz:Nat} {v:Value} {n:Nat} {cs:List Value} (o:w.ownsRow base e sz v n cs) (g:Below w.heap.size w w'):w'.ownsRow base e sz v n cs:=by
 obtain ⟨hl,h3⟩:=o
 refine ⟨hl, ?_⟩
 rcases h3 with h|⟨b,cap,cur,rfl,hb,hg,hc⟩
 ·exact Or.inl h
 ·refine Or.inr ⟨b,cap,cur,rfl,hb, ?_,hc⟩
  rw[g.block b (Array.getElem?_eq_some_iff.1 hg).1]
  exact hg
theorem res_row2 {P:Program} {fn:Func} {p a:Tmp} {ty:TypeId} (h:fn.results=#[.cell p ty, .tmp a]) (tmps:Array Value) (w:World) (g:Nat) (t:TypeId) (cs:Array Value) (fr:Nat×Nat) (d:TypeDesc)
  (hp:tmps.getD p undef= .pointer (some ⟨g,0,none⟩)) (hg:w.heap[g]? =some (.cells cs t fr))
  (hu:P.underlying ty=some d) (hd:(match d with| .struct _| .array _ _=>true|_=>false)=true) (hi:(P.info? ty).map (·.size)=some cs.size):
  (results fn tmps).run P w= .ok (.tuple #[.agg cs,tmps.getD a undef]) w:=by
 have hp':tmps[p]?.getD undef= .pointer (some ⟨g,0,none⟩):=by simpa using hp
 simp[results,h,hp',asAddr,run_loadVar_row w g t ty cs fr d hg hu hd hi]
theorem res_row3 {P:Program} {fn:Func} {p a b:Tmp} {ty:TypeId} (h:fn.results=#[.cell p ty, .tmp a, .tmp b]) (tmps:Array Value) (w:World) (g:Nat) (t:TypeId) (cs:Array Value) (fr:Nat×Nat) (d:TypeDesc)
  (hp:tmps.getD p undef= .pointer (some ⟨g,0,none⟩)) (hg:w.heap[g]? =some (.cells cs t fr))
  (hu:P.underlying ty=some d) (hd:(match d with| .struct _| .array _ _=>true|_=>false)=true) (hi:(P.info? ty).map (·.size)=some cs.size):
  (results fn tmps).run P w= .ok (.tuple #[.agg cs,tmps.getD a undef,tmps.getD b undef]) w:=by
 have hp':tmps[p]?.getD undef= .pointer (some ⟨g,0,none⟩):=by simpa using hp
 simp[results,h,hp',asAddr,run_loadVar_row w g t ty cs fr d hg hu hd hi]
def Ab (base:Nat) (w w':World):Prop:=∀k,base≤k→k < w.heap.size→w'.heap[k]? =w.heap[k]?
theorem ab_set {base:Nat} (w:World) (g j:Nat) (u:Value) (hg:g < base):Ab base w (w.setCell ⟨g,j,none⟩ u):=by
 intro k hk hs
 exact Below.heap_setCell _ _ _ k (fun e=>by have e2:k=g:=e;omega)
theorem own_ab {base:Nat} {w w':World} {e:TypeId} {sz:Nat} {v:Value} {n:Nat} {cs:List Value} (k:Ab base w w') (o:w.ownsRow base e sz v n cs):w'.ownsRow base e sz v n cs:=by
 obtain ⟨hl,o⟩:=o
 refine ⟨hl, ?_⟩
 rcases o with h|⟨b,cap,cur,rfl,h1,h2,h3⟩
 ·exact Or.inl h
 ·refine Or.inr ⟨b,cap,cur,rfl,h1, ?_,h3⟩
  rw[k b h1 (Array.getElem?_eq_some_iff.1 h2).1]
  exact h2
theorem OwnR.ab {α:Type} {e:TypeId} {sz:Nat} {O:World→List Value→α→Prop} {base:Nat} {w w':World} {v:Value} {xs:List α} (h:OwnR e sz O base w v xs) (k:Ab base w w') (hO:∀cs x,O w cs x→O w' cs x):OwnR e sz O base w' v xs:=by
 obtain ⟨rows,h1,h2,h3,h4⟩:=h
 exact ⟨rows,h1,h2,own_ab k h3,fun i hi=>hO _ _ (h4 i hi)⟩
structure Agr (K:TypeId→Bool) (D:Nat→Prop) (w w':World):Prop where
 os:w'.os=w.os
 tape:w'.tape=w.tape
 output:w'.output=w.output
 size:w.heap.size≤w'.heap.size
 block:∀(k:Nat) cs T fr,w.heap[k]? =some (Obj.cells cs T fr)→K T=false→¬D k→w'.heap[k]? =w.heap[k]?
theorem Agr.refl (K:TypeId→Bool) (D:Nat→Prop) (w:World):Agr K D w w:=⟨rfl,rfl,rfl,Nat.le_refl _,fun _ _ _ _ _ _ _=>rfl⟩
theorem Agr.trans {K:TypeId→Bool} {D:Nat→Prop} {a b c:World} (h:Agr K D a b) (g:Agr K D b c):Agr K D a c:=
 ⟨g.os.trans h.os,g.tape.trans h.tape,g.output.trans h.output,Nat.le_trans h.size g.size,fun k cs T fr e t d=>by
  have e1:=h.block k cs T fr e t d
  rw[g.block k cs T fr (by rw[e1];exact e) t d,e1]⟩
theorem heap_lt' {w:World} {k:Nat} {o:Obj} (h:w.heap[k]? =some o):k < w.heap.size:=(Array.getElem?_eq_some_iff.1 h).1
theorem Agr.below {K:TypeId→Bool} {D:Nat→Prop} {w w':World} (h:Below w.heap.size w w'):Agr K D w w':=⟨h.os,h.tape,h.output,h.size,fun k cs T fr e _ _=>h.block k (heap_lt' e)⟩
theorem Agr.kept {K:TypeId→Bool} {D:Nat→Prop} {T:TypeId} {w w':World} (k:Kept T w w') (hT:K T=true):Agr K D w w':=by
 obtain ⟨row,g,hr⟩:=k
 refine ⟨g.os,g.tape,g.output,g.size,fun k cs T' fr e t _=>g.block k (heap_lt' e) (fun e2=> ?_)⟩
 obtain ⟨cur,fr',e3⟩:=hr k e2.symm
 rw[e] at e3
 injection e3 with e3
 injection e3 with _ e4
 rw[e4,hT] at t
 cases t
theorem Agr.grown {K:TypeId→Bool} {D:Nat→Prop} {w w':World} {r:Option Nat} (g:w.grownBy w' r) (hr:∀k,r=some k→D k):Agr K D w w':=
 ⟨g.os,g.tape,g.output,g.size,fun k cs T fr e t d=>g.block k (heap_lt' e) (fun e2=>d (hr k e2.symm))⟩
theorem Agr.mono {K K':TypeId→Bool} {D D':Nat→Prop} {w w':World} (h:Agr K D w w') (hK:∀T,K' T=false→K T=false) (hD:∀k,k < w.heap.size→D k→D' k):Agr K' D' w w':=
 ⟨h.os,h.tape,h.output,h.size,fun k cs T fr e t d=>h.block k cs T fr e (hK T t) (fun q=>d (hD k (heap_lt' e) q))⟩
theorem Agr.set {K:TypeId→Bool} {D:Nat→Prop} (w:World) (q j:Nat) (u:Value) (hq:D q):Agr K D w (w.setCell ⟨q,j,none⟩ u):=
 ⟨rfl,rfl,rfl,by simp[World.setCell],fun k cs T fr e t d=>Below.heap_setCell _ _ _ k (fun e2=>d (by have e3:k=q:=e2;rw[e3];exact hq))⟩
def Stb (K:TypeId→Bool) (D:Nat→Prop) (w:World) (φ:World→Prop):Prop:=∀w',Agr K D w w'→φ w'
theorem Stb.now {K:TypeId→Bool} {D:Nat→Prop} {w:World} {φ:World→Prop} (h:Stb K D w φ):φ w:=h w (Agr.refl _ _ _)
theorem Stb.agr {K:TypeId→Bool} {D:Nat→Prop} {w w':World} {φ:World→Prop} (h:Stb K D w φ) (g:Agr K D w w'):Stb K D w' φ:=fun w2 g2=>h w2 (g.trans g2)
theorem Stb.below {K:TypeId→Bool} {D:Nat→Prop} {w w':World} {φ:World→Prop} (h:Stb K D w φ) (g:Below w.heap.size w w'):Stb K D w' φ:=h.agr (Agr.below g)
theorem Stb.imp {K:TypeId→Bool} {D:Nat→Prop} {w:World} {φ ψ:World→Prop} (h:Stb K D w φ) (f:∀w',φ w'→ψ w'):Stb K D w ψ:=fun w' g=>f w' (h w' g)
theorem Stb.and {K:TypeId→Bool} {D:Nat→Prop} {w:World} {φ ψ:World→Prop} (h:Stb K D w φ) (g:Stb K D w ψ):Stb K D w (fun u=>φ u∧ψ u):=fun w' q=>⟨h w' q,g w' q⟩
theorem Stb.const {K:TypeId→Bool} {D:Nat→Prop} {w:World} {φ:World→Prop} (h:∀w',φ w'):Stb K D w φ:=fun w' _=>h w'
theorem Stb.mono {K K':TypeId→Bool} {D D':Nat→Prop} {w:World} {φ:World→Prop} (h:Stb K D w φ) (hK:∀T,K T=false→K' T=false) (hD:∀k,k < w.heap.size→D' k→D k):Stb K' D' w φ:=
 fun w' g=>h w' (g.mono hK hD)
theorem agr_cell {K:TypeId→Bool} {D:Nat→Prop} {w w':World} (g:Agr K D w w') {b j:Nat} {u:Value} {cs:Array Value} {T:TypeId} {fr:Nat×Nat} (hb:w.heap[b]? =some (.cells cs T fr)) (hT:K T=false) (hd:¬D b) (hc:w.cell? ⟨b,j,none⟩=some u):w'.cell? ⟨b,j,none⟩=some u:=by
 have e:=g.block b cs T fr hb hT hd
 unfold World.cell? at hc ⊢
 simp only at hc ⊢
 rw[e]
 exact hc
def Nw (B:Nat) (e:TypeId) (w:World) (v:Value):Prop:=∀k,v.ownBlock=some k→B≤k∧∃cs fr,w.heap[k]? =some (.cells cs e fr)
theorem Nw.nil (B:Nat) (e:TypeId) (w:World):Nw B e w (.slice none 0 0):=fun k hk=>by cases hk
theorem Nw.own {B:Nat} {e:TypeId} {sz:Nat} {w:World} {v:Value} {n:Nat} {cs:List Value} (o:w.ownsRow B e sz v n cs):Nw B e w v:=by
 intro k hk
 obtain ⟨_,o⟩:=o
 rcases o with ⟨rfl,_⟩|⟨g,cap,cur,rfl,hb,h1,_⟩
 ·cases hk
 ·simp[Value.ownBlock] at hk
  subst hk
  exact ⟨hb,cur,_,h1⟩
theorem Nw.below {B:Nat} {e:TypeId} {w w':World} {v:Value} (h:Nw B e w v) (g:Below w.heap.size w w'):Nw B e w' v:=by
 intro k hk
 obtain ⟨h1,cs,fr,h2⟩:=h k hk
 exact ⟨h1,cs,fr,by rw[g.block k (heap_lt' h2)];exact h2⟩
theorem Nw.le {B B':Nat} {e:TypeId} {w:World} {v:Value} (h:Nw B e w v) (hb:B'≤B):Nw B' e w v:=fun k hk=>⟨Nat.le_trans hb (h k hk).1,(h k hk).2⟩
theorem rd_stb {K:TypeId→Bool} {D:Nat→Prop} {k:IntKind} {B:Nat} {e:TypeId} {w:World} {v:Value} {xs:List Int} (h:Rd k w v xs) (n:Nw B e w v) (hK:K e=false) (hD:∀b,D b→b < B):Stb K D w (fun u=>Rd k u v xs):=by
 intro w' g
 rcases h with h|⟨b,off,cap,rfl,h0,h1,h2,hc⟩
 ·exact Or.inl h
 ·obtain ⟨n1,cs,fr,n2⟩:=n b rfl
  exact Or.inr ⟨b,off,cap,rfl,h0,h1,h2,fun i hi=>agr_cell g n2 hK (fun d=>by have:=hD b d;omega) (hc i hi)⟩
theorem own_agr {K:TypeId→Bool} {D:Nat→Prop} {B:Nat} {e:TypeId} {sz:Nat} {w w':World} {v:Value} {n:Nat} {cs:List Value} (g:Agr K D w w') (hK:K e=false) (hD:∀b,v.ownBlock=some b→¬D b) (o:w.ownsRow B e sz v n cs):w'.ownsRow B e sz v n cs:=by
 obtain ⟨hl,o⟩:=o
 refine ⟨hl, ?_⟩
 rcases o with h|⟨b,cap,cur,rfl,h1,h2,h3⟩
 ·exact Or.inl h
 ·exact Or.inr ⟨b,cap,cur,rfl,h1,by rw[g.block b _ _ _ h2 hK (hD b rfl)];exact h2,h3⟩
theorem OwnR.agr {α:Type} {K:TypeId→Bool} {D:Nat→Prop} {e:TypeId} {sz:Nat} {O:World→List Value→α→Prop} {base:Nat} {w w':World} {v:Value} {xs:List α} (h:OwnR e sz O base w v xs) (g:Agr K D w w') (hK:K e=false) (hD:∀b,D b→b < base) (hO:∀cs x,O w cs x→O w' cs x):OwnR e sz O base w' v xs:=by
 obtain ⟨rows,h1,h2,h3,h4⟩:=h
 exact ⟨rows,h1,h2,own_agr g hK (fun b hb d=>by have:=(h3.lt b hb).1;have:=hD b d;omega) h3,fun i hi=>hO _ _ (h4 i hi)⟩
theorem own_stb {K:TypeId→Bool} {D:Nat→Prop} {B:Nat} {e:TypeId} {sz:Nat} {w:World} {v:Value} {n:Nat} {cs:List Value} (o:w.ownsRow B e sz v n cs) (hK:K e=false) (hD:∀b,D b→b < B):Stb K D w (fun u=>u.ownsRow B e sz v n cs):=
 fun w' g=>own_agr g hK (fun b hb d=>by have:=(o.lt b hb).1;have:=hD b d;omega) o
theorem Stands.agr {K:TypeId→Bool} {D:Nat→Prop} {w w':World} {b:Nat} {cs:Array Value} {T:TypeId} (h:Stands w b cs T) (g:Agr K D w w') (hK:K T=false) (hD:¬D b):Stands w' b cs T:=by
 unfold Stands at h ⊢
 rw[g.block b _ _ _ h hK hD]
 exact h
end Go.Proofs.YtbamcchghecpeaaGreatDoor
namespace Go.Proofs.YtbamcchghecpeaaGreatDoor.Stk
open Go.ChangeShapes Go.WideShapes Go.ChangeAt Go.RowKit
def RdN (B:Nat) (w:World) (v:Value) (xs:List Int):Prop:=Rd .u32 w v xs∧Nw B 26 w v
theorem RdN_nil {B:Nat} {w:World}:RdN B w (.slice none 0 0) []:=⟨Rd_nil,Nw.nil _ _ _⟩
theorem RdN_own {B:Nat} {w:World} {v:Value} {n:Nat} {xs:List Int} (h:w.ownsRow B 26 1 v n (xs.map (Value.int .u32))):RdN B w v xs:=⟨(Rd_own h).1,Nw.own h⟩
theorem RdN.below {B:Nat} {w w':World} {v:Value} {xs:List Int} (h:RdN B w v xs) (g:Below w.heap.size w w'):RdN B w' v xs:=⟨h.1.below g,h.2.below g⟩
theorem RdN.le {B B':Nat} {w:World} {v:Value} {xs:List Int} (h:RdN B w v xs) (hb:B'≤B):RdN B' w v xs:=⟨h.1,h.2.le hb⟩
set_option maxHeartbeats 1000000 in
theorem w_clone (v:Value) (xs:List Int) (w:World) (h:Rd .u32 w v xs) (h1:xs.length≤maxLen) (hb:xs.length*4≤140737488355328):
  Calls Tryz.prog 53 #[v] w fun e w'=>∃v',e= .returned v'∧RdN w.heap.size w' v' xs∧Below w.heap.size w w':=by
 obtain ⟨ao,cap,rfl,hc,hn,hx⟩:=rd_form h
 have q:=Lib.run_eql_slice_nil (P:=Tryz.prog) (t:=22) (e:=26) (h:=Tryz.underlying22)
 cases ao with
 |none=>
  have hx0:xs=[]:=by
   have:=hn rfl
   exact List.eq_nil_of_length_eq_zero (by omega)
  subst hx0
  go_enter Tryz.func53,Tryz.ntmps53
  go_wp2
  go_ret
  exact ⟨_,rfl,RdN_nil,Below.refl _ _⟩
 |some a=>
  obtain ⟨i0,hi,hz0,hz1,hz2⟩:=info_parts infoU32
  have b0:=(Below.refl w.heap.size w).alloc (Nat.le_refl _) (.cells #[] 26)
  have h2:=h.below b0
  obtain ⟨L,hL⟩:∃L,xs.length=L:=⟨_,rfl⟩
  clear hx hc hn h
  go_enter Tryz.func53,Tryz.ntmps53
  go_wp2_with (at_builtin;refine wpList_append_rd (k:= .u32) rfl _ _ 22 rfl w.heap.size 26 i0 4 Tryz.underlying22 hi hz0 hz1 hz2 _ [] rfl (World.ownsRow_made w #[] 0 (Nat.le_refl _) (Nat.zero_le _) (by simp)) _ xs rfl h2 (by simpa using h1) (by simpa using hb) b0.size ?_;intro v' w1 hown hgr)
  go_ret
  exact ⟨v',rfl,RdN_own (xs:=xs) (by simpa using hown),below_grown b0 hgr (fun k hk=>Nat.le_of_eq (Option.some.inj hk))⟩
set_option maxHeartbeats 1000000 in
theorem w_grow (n:Nat) (w:World) (hb:n*4≤140737488355328):
  Calls Tryz.prog 240 #[.slice none 0 0, .int .i64 n] w fun e w'=>∃v',e= .returned v'∧w'.ownsRow w.heap.size 26 1 v' 0 []∧Below w.heap.size w w':=by
 have hn0:¬((n:Int) < 0):=by omega
 rcases Nat.eq_zero_or_pos n with rfl|hp
 ·go_enter Tryz.func240,Tryz.ntmps240
  go_wp2
  go_ret
  exact ⟨_,rfl,World.ownsRow_nil _ _ _ _,Below.refl _ _⟩
 ·obtain ⟨i0,hi,hz0,hz1,hz2⟩:=info_parts infoU32
  have hold:(Builtin.firstCells i0.size 0 (.slice none 0 0)).run Tryz.prog w.drew= .ok ([]:List Value).toArray w.drew:=run_firstCells_none w.drew i0.size 0 0 0
  have hrz:∀ty,(Builtin.append_ #[22,3] ty #[.slice none 0 0, .int .i64 n]).run Tryz.prog w=_:=fun ty=>
   Lib.run_append_grow_zeros w 22 3 ty 26 i0 (.int .u32 0) .i64 .i64 Tryz.underlying22 Tryz.underlying3 hi hz0 none 0 0 [] hold n hp (by omega) (by omega) (by omega) (by rw[hz2];omega)
    (growslice_fits (by omega) (by rw[hz2];omega))
  rw[Nat.zero_add] at hrz
  have hGn:n≤grownCap w n 0 26:=grownCap_ge w _ _ _
  have hGm:grownCap w n 0 26≤maxLen:=grownCap_le_maxLen w n 0 26 (by unfold maxLen;omega)
  obtain ⟨G,hG⟩:∃G,grownCap w n 0 26=G:=⟨_,rfl⟩
  rw[hG] at hrz hGn hGm
  clear hG hold
  have hs:(([]:List Value).toArray++Builtin.zeroCells (Value.int .u32 0).cells n++Builtin.zeroCells (Value.int .u32 0).cells (G - n)).size=G*1:=by
   simp[size_zeroCells,Value.cells];omega
  obtain ⟨Z,hZ⟩:∃Z,([]:List Value).toArray++Builtin.zeroCells (Value.int .u32 0).cells n++Builtin.zeroCells (Value.int .u32 0).cells (G - n)=Z:=⟨_,rfl⟩
  rw[hZ] at hrz hs
  clear hZ
  have hG0:(0:Int)≤G:=by omega
  have ho:=World.ownsRow_made (base:=w.heap.size) (e:=26) (size:=1) w.drew Z G (Nat.le_refl _) hGm hs
  have b0:Below w.heap.size w (w.drew.alloc (.cells Z 26)):=(below_drewN (Below.refl _ _) 1).alloc (Nat.le_refl _) _
  go_enter Tryz.func240,Tryz.ntmps240
  go_wp2_with (at_builtin;refine Lib.wpList_append_run _ rfl _ _ _ _ rfl _ _ rfl rfl _ _ (hrz _) ?_)
  go_ret
  exact ⟨_,rfl,ho,b0⟩
def cat (f:Nat→List Int):Nat→List Int
 |0=>[]
 |n+1=>cat f n++f n
theorem cat_mono (f:Nat→List Int) {a b:Nat} (h:a≤b):(cat f a).length≤(cat f b).length:=by
 induction h with
 |refl=>exact Nat.le_refl _
 |step _ ih=>simp[cat];omega
set_option maxHeartbeats 1000000 in
theorem w_concat (b m:Nat) (vs:Nat→Value) (f:Nat→List Int) (w:World) (hm:m≤1000) (hm0:0 < m) (hc:∀i,i < m→w.cell? ⟨b,i,none⟩=some (vs i)) (hr:∀i,i < m→Rd .u32 w (vs i) (f i)) (hb:(cat f m).length*4≤140737488355328):
  Calls Tryz.prog 177 #[.slice (some ⟨b,0,none⟩) m m] w fun e w'=>∃v',e= .returned v'∧RdN w.heap.size w' v' (cat f m)∧Below w.heap.size w w':=by
 have HC:=hid hc
 have HR:=hid hr
 clear hc hr
 have hmI:(m:Int)≤1000:=by omega
 have Hb:=hid hb
 obtain ⟨i0,hi,hz0,hz1,hz2⟩:=info_parts infoU32
 go_enter Tryz.func177,Tryz.ntmps177
 go_wp2
 go_loopw [3,11] (fun Z I wx=>∃(k n:Nat),(k:Int)≤m∧I= .int .i64 k∧Z= .int .i64 n∧Hid (n=(cat f k).length)∧wx=w) (fun _ I _=>(m - intOf I).toNat)
 case atStart=>exact ⟨0,0,by omega,rfl,rfl,hid rfl,rfl⟩
 case round=>
  obtain ⟨k,n,hk,rfl,rfl,hn,rfl⟩:=hrel
  by_cases hlt:(k:Int) < m
  ·have hce:=HC.out k (by omega)
   have hre:=HR.out k (by omega)
   have hlen:=rd_len hre uS (P:=Tryz.prog)
   obtain ⟨y,hy⟩:∃y,f k=y:=⟨_,rfl⟩
   rw[hy] at hre hlen
   obtain ⟨v,hv⟩:∃v,vs k=v:=⟨_,rfl⟩
   rw[hv] at hce hlen hre
   have hnn:Hid (n+y.length=(cat f (k+1)).length):=by show _=_;simp[cat,hy];rw[hn.out]
   have hle:Hid ((n+y.length)*4≤140737488355328):=by
    show _≤_
    rw[hnn.out]
    have:=cat_mono f (show k+1≤m by omega)
    have:=Hb.out
    omega
   have hs0:¬((n:Int)+y.length < 0):=by omega
   have hs1:(n:Int)+y.length≤140737488355328:=by have:=hle.out;omega
   go_wp2
   go_roundw
   case rel=>exact ⟨k+1,n+y.length,by omega,by go_num,by go_num,hnn,by first|rfl|trivial⟩
   case measure=>simp[intOf];omega
  ·obtain rfl:k=m:=by omega
   have hle:n*4≤140737488355328:=by rw[hn.out];exact hb
   go_wp2_with (go_at_call 240;refine (w_grow n _ hle).mono ?_;rintro e w1 ⟨u,rfl,ho,hb1⟩)
   clear hlt
   obtain ⟨w0,hw0⟩:∃w0,w0=wr:=⟨_,rfl⟩
   subst hw0
   go_loopw [6,27] (fun U I wx=>∃(j:Nat),(j:Int)≤k∧I= .int .i64 j∧Hid (wx.ownsRow w0.heap.size 26 1 U (cat f j).length ((cat f j).map (Value.int .u32)))∧Below w0.heap.size w0 wx) (fun _ I _=>(k - intOf I).toNat)
   case atStart=>exact ⟨0,by omega,rfl,hid ho,hb1⟩
   case round=>
    obtain ⟨j,hj,rfl,ho2,hb2⟩:=hrel
    by_cases hlt:(j:Int) < k
    ·have hce:=below_cell hb2 (HC.out j (by omega))
     have hre:=(HR.out j (by omega)).below hb2
     obtain ⟨C,hC⟩:∃C,cat f j=C:=⟨_,rfl⟩
     obtain ⟨y,hy⟩:∃y,f j=y:=⟨_,rfl⟩
     have hnx:cat f (j+1)=C++y:=by rw[←hC,←hy];rfl
     have hle2:=cat_mono f (show j+1≤k by omega)
     rw[hnx,List.length_append] at hle2
     rw[hC] at ho2
     rw[hy] at hre
     obtain ⟨v,hv⟩:∃v,vs j=v:=⟨_,rfl⟩
     rw[hv] at hce hre
     have hbb:=Hb.out
     have h63:C.length+y.length≤maxLen:=by unfold maxLen;omega
     have hby:(C.length+y.length)*4≤140737488355328:=by omega
     have Hnx:=hid hnx
     clear hbb hle2 hnx hC hy hv
     go_wp2_with (at_builtin;refine wpList_append_rd (k:= .u32) rfl _ _ 22 rfl w0.heap.size 26 i0 4 Tryz.underlying22 hi hz0 hz1 hz2 _ C rfl ho2.out _ y rfl hre h63 hby hb2.size ?_;intro v3 w3 hown3 hgr3)
     go_roundw
     case rel=>exact ⟨j+1,by omega,by go_num,hid (by rw[Hnx.out];exact hown3),below_grown hb2 hgr3 (fun k hk=>(ho2.out.lt k hk).1)⟩
     case measure=>simp[intOf];omega
    ·obtain rfl:j=k:=by omega
     go_wp2
     go_ret
     exact ⟨_,rfl,RdN_own ho2.out,hb2⟩
set_option maxHeartbeats 1000000 in
theorem w_spop (v:Value) (xs:List Int) (n:Int) (w:World) (h:Rd .u32 w v xs) (hz:xs.length*4≤140737488355328):
  Calls Tryz.prog 212 #[v, .int .i64 n] w fun e w'=>∃v1 v2,e= .returned (.tuple #[v1,v2, .int .i64 (popF xs n).2.2])∧RdN w.heap.size w' v1 (popF xs n).1∧RdN w.heap.size w' v2 (popF xs n).2.1∧Below w.heap.size w w':=by
 have hlen:=rd_len h uS (P:=Tryz.prog)
 by_cases h0:n < 0
 ·have e:popF xs n=([],[],1):=by unfold popF;rw[if_pos h0]
  rw[e]
  go_enter Tryz.func212,Tryz.ntmps212
  go_wp2_with fail
  go_ret3
  exact ⟨_,_,rfl,RdN_nil,RdN_nil,Below.refl _ _⟩
 ·by_cases h1:(xs.length:Int) < n
  ·have e:popF xs n=([],[],5):=by unfold popF;rw[if_neg h0,if_pos h1]
   rw[e]
   go_enter Tryz.func212,Tryz.ntmps212
   go_wp2_with fail
   go_ret3
   exact ⟨_,_,rfl,RdN_nil,RdN_nil,Below.refl _ _⟩
  ·obtain ⟨A,hA⟩:∃A,xs.take (xs.length - n.toNat)=A:=⟨_,rfl⟩
   obtain ⟨B,hB⟩:∃B,xs.drop (xs.length - n.toNat)=B:=⟨_,rfl⟩
   have e:popF xs n=(A,B,0):=by unfold popF;rw[if_neg h0,if_neg h1,hA,hB]
   rw[e]
   clear e
   obtain ⟨va,ra,x1,c1,x2⟩:=rd_cutI h uS zS 0 ((xs.length:Int) - n) (by omega) (by omega) (by omega)
   have c1':=c1 rfl
   clear c1
   obtain ⟨vb,rb,x3,x4,c2⟩:=rd_cutI h uS zS ((xs.length:Int) - n) xs.length (by omega) (by omega) (by omega)
   have c2':=c2 rfl
   rw[show ((xs.length:Int) - n - 0).toNat=xs.length - n.toNat by omega,show (0:Int).toNat=0 from rfl,List.drop_zero,hA] at ra
   rw[show ((xs.length:Int) - n).toNat=xs.length - n.toNat by omega,show ((xs.length:Int) - ((xs.length:Int) - n)).toNat=n.toNat by omega,hB,List.take_of_length_le (by rw[←hB];simp;omega)] at rb
   have zA:A.length*4≤140737488355328:=by rw[←hA];simp;omega
   have zB:B.length*4≤140737488355328:=by rw[←hB];simp;omega
   clear hA hB c2 h x1 x2 x3 x4
   have hw:IntKind.i64.wrap ((xs.length:Int) - n)=(xs.length:Int) - n:=by rw[IntKind.wrap_i64];omega
   go_enter Tryz.func212,Tryz.ntmps212
   go_wp2_with fail
   go_quiet (fail)
   go_wp2_with fail
   refine (w_clone va A _ ?ga (by unfold maxLen;omega) zA).mono ?_
   case ga=>exact ra.below (below_drewN (Below.refl _ _) _)
   rintro e wa ⟨ua,rfl,oa,ba⟩
   go_wp2_with fail
   refine (w_clone vb B _ ?gb (by unfold maxLen;omega) zB).mono ?_
   case gb=>exact (rb.below (below_drewN (Below.refl _ _) _)).below ba
   rintro e wb ⟨ub,rfl,ob,bb⟩
   go_wp2_with fail
   go_ret3
   exact ⟨ua,ub,rfl,oa.below bb,ob.le ba.size,below_trans (below_trans (below_drewN (Below.refl _ _) _) ba) bb⟩
set_option maxHeartbeats 1000000 in
theorem w_spush (v u:Value) (xs ys:List Int) (w:World) (h:Rd .u32 w v xs) (g:Rd .u32 w u ys) (hz:xs.length*4≤140737488355328) (gz:ys.length*4≤140737488355328):
  Calls Tryz.prog 112 #[v,u] w fun e w'=>∃v1,e= .returned (.tuple #[v1, .int .i64 (pushF xs ys).2])∧RdN w.heap.size w' v1 (pushF xs ys).1∧Below w.heap.size w w':=by
 have hlen:=rd_len h uS (P:=Tryz.prog)
 have glen:=rd_len g uS (P:=Tryz.prog)
 by_cases h0:(64:Int) < xs.length+ys.length
 ·have e:pushF xs ys=([],6):=by unfold pushF;rw[if_pos (by omega)]
  rw[e]
  go_enter Tryz.func112,Tryz.ntmps112
  go_wp2_with fail
  go_ret2
  exact ⟨_,rfl,RdN_nil,Below.refl _ _⟩
 ·have e:pushF xs ys=(xs++ys,0):=by unfold pushF;rw[if_neg (by omega)]
  rw[e]
  clear e
  obtain ⟨ao,ca,rfl,x1,x2,x3⟩:=rd_form h
  obtain ⟨bo,cb,rfl,y1,y2,y3⟩:=rd_form g
  obtain ⟨V,hV⟩:∃V,V=Value.slice ao xs.length ca:=⟨_,rfl⟩
  obtain ⟨U,hU⟩:∃U,U=Value.slice bo ys.length cb:=⟨_,rfl⟩
  have b0:=(Below.refl w.heap.size w).alloc (Nat.le_refl _) (.cells #[V,U] 22)
  have hc:∀i,i < 2→(w.alloc (.cells #[V,U] 22)).cell? ⟨w.heap.size,i,none⟩=some (if i=0 then V else U):=by
   intro i hi
   rw[World.cell?_alloc_new]
   rcases i with _|_|i
   ·rfl
   ·rfl
   ·omega
  have hr:∀i,i < 2→Rd .u32 (w.alloc (.cells #[V,U] 22)) (if i=0 then V else U) (if i=0 then xs else ys):=by
   intro i hi
   rcases i with _|_|i
   ·exact (show Rd .u32 w V xs from by rw[hV];exact h).below b0
   ·exact (show Rd .u32 w U ys from by rw[hU];exact g).below b0
   ·omega
  have cc:=w_concat w.heap.size 2 (fun i=>if i=0 then V else U) (fun i=>if i=0 then xs else ys) _ (by omega) (by omega) hc hr (by simp[cat];omega)
  rw[show cat (fun i=>if i=0 then xs else ys) 2=xs++ys by simp[cat]] at cc
  rw[hV,hU] at cc b0
  clear hc hr hV hU x1 x2 x3 y1 y2 y3 h g
  go_enter Tryz.func112,Tryz.ntmps112
  go_wp2_with (go_at_call 177;refine cc.mono ?_;rintro e w1 ⟨v1,rfl,r1,b1⟩)
  go_ret2
  exact ⟨v1,rfl,r1.le b0.size,below_trans b0 b1⟩
def effT (op:Int):Int:=
 if op=70 then 1 else if op=71 then 1 else if op=72 then 2 else if op=73 then 2 else if op=74 then 3 else if op=75 then 3 else if op=76 then 2 else if op=77 then 2 else
 if op=82 then 2 else if op=83 then 2 else if op=84 then 4 else if op=85 then 4 else if op=86 then 6 else 0
def effS (op:Int):ByteArray:=
 if op=70 then ⟨#[32]⟩ else if op=71 then ⟨#[97,97]⟩ else if op=72 then ⟨#[97,98,97]⟩ else if op=73 then ⟨#[98,97]⟩ else if op=74 then ⟨#[98,99,97]⟩ else if op=75 then ⟨#[99,97,98]⟩ else
 if op=76 then ⟨#[98,97,98]⟩ else if op=77 then ⟨#[98]⟩ else if op=82 then ⟨#[32]⟩ else if op=83 then ⟨#[97,98,97,98]⟩ else if op=84 then ⟨#[97,98,99,100,97,98]⟩ else
 if op=85 then ⟨#[99,100,97,98]⟩ else if op=86 then ⟨#[99,100,101,102,97,98]⟩ else ⟨#[]⟩
def isT (op:Int):Bool:=decide ((70≤op∧op≤77)∨(82≤op∧op≤86))
def LB (s:ByteArray):List Int:=s.data.toList.map fun c=>(c.toNat:Int)
def pickL (xs:List Int) (p:Nat) (ls:List Int):List Int:=(ls.filter fun c=>decide (c≠32)).map fun c=>xs.getD (p+(c - 97).toNat) 0
def fits (out:List Int):List Int×Int:=if 64 < out.length then ([],6) else (out,0)
def doT (xs:List Int) (t:Int) (ls:List Int):List Int×Int:=
 if (xs.length:Int) < t then ([],5) else fits (xs.take (xs.length - t.toNat)++pickL xs (xs.length - t.toNat) ls)
def doQ (xs:List Int):List Int×Int:=
 if (xs.length:Int) < 1 then ([],5) else fits (xs++if xs.getD (xs.length - 1) 0=0 then [] else [xs.getD (xs.length - 1) 0])
def plc (xs:List Int):Nat:=xs.length - 2 - (xs.getD (xs.length - 1) 0).toNat
def far (xs:List Int):Bool:=decide ((xs.length:Int) < 1∨(xs.length:Int) - 1≤xs.getD (xs.length - 1) 0)
def doP (xs:List Int):List Int×Int:=if far xs=true then ([],5) else fits (xs.take (xs.length - 1)++[xs.getD (plc xs) 0])
def doR (xs:List Int):List Int×Int:=if far xs=true then ([],5) else fits (xs.take (plc xs)++(xs.drop (plc xs+1)).take (xs.length - 2 - plc xs)++[xs.getD (plc xs) 0])
def doF (op:Int) (xs:List Int):List Int×Int:=
 if 64 < xs.length then ([],1) else if isT op=true then doT xs (effT op) (LB (effS op)) else if op=80 then doQ xs else if op=81 then fits (xs++[(xs.length:Int)]) else
 if op=78 then doP xs else if op=79 then doR xs else ([],2)
theorem LB_len (s:ByteArray):(LB s).length=s.size:=by simp[LB]
theorem LB_take (s:ByteArray) (k:Nat) (h:k < s.size):(LB s).take (k+1)=(LB s).take k++[(s[k].toNat:Int)]:=by
 rw[List.take_succ_eq_append_getElem (by rw[LB_len];exact h)]
 simp[LB]
 rfl
theorem LB_mem (s:ByteArray) (k:Nat) (h:k < s.size):(s[k].toNat:Int)∈LB s:=by
 unfold LB
 rw[List.mem_map]
 exact ⟨s[k],by rw[show s[k]=s.data[k] from rfl,←Array.getElem_toList];exact List.getElem_mem _,rfl⟩
theorem pickL_snoc (xs:List Int) (p:Nat) (l:List Int) (c:Int) (h:¬c=32):pickL xs p (l++[c])=pickL xs p l++[xs.getD (p+(c - 97).toNat) 0]:=by simp[pickL,h]
theorem isT_cases (op:Int) (h:isT op=true):op=70∨op=71∨op=72∨op=73∨op=74∨op=75∨op=76∨op=77∨op=82∨op=83∨op=84∨op=85∨op=86:=by
 unfold isT at h;simp at h;omega
def Own (base:Nat) (w:World) (v:Value) (xs:List Int):Prop:=w.ownsRow base 26 1 v xs.length (xs.map (Value.int .u32))
theorem fits_push (l m:List Int):fits (l++m)=pushF l m:=by unfold fits pushF;rw[List.length_append]
set_option maxHeartbeats 2000000 in
set_option maxRecDepth 100000 in
theorem w_turn (v:Value) (xs:List Int) (t:Int) (S:ByteArray) (w:World) (h:Rd .u32 w v xs) (hlI:(xs.length:Int)≤64) (hlet:∀c∈LB S,97≤c∧c < 97+t) (hls:(S.size:Int)≤6) (t1:1≤t) (t6:t≤6):
  Calls Tryz.prog 253 #[v, .int .i64 t, .string S] w fun e w'=>∃v1,e= .returned (.tuple #[v1, .int .i64 (doT xs t (LB S)).2])∧RdN w.heap.size w' v1 (doT xs t (LB S)).1∧Below w.heap.size w w':=by
 have hlen:=rd_len h uS (P:=Tryz.prog)
 have Hlet:=hid hlet
 clear hlet
 by_cases hu:(xs.length:Int) < t
 ·have e:doT xs t (LB S)=([],5):=by unfold doT;rw[if_pos hu]
  rw[e]
  clear e
  go_enter Tryz.func253,Tryz.ntmps253
  go_wp2_with fail
  go_ret2
  exact ⟨_,rfl,RdN_nil,Below.refl _ _⟩
 ·obtain ⟨p,hp⟩:∃p:Nat,xs.length - t.toNat=p:=⟨_,rfl⟩
  have hpI:(xs.length:Int) - t=p:=by omega
  have e:doT xs t (LB S)=pushF (xs.take p) (pickL xs p (LB S)):=by unfold doT;rw[if_neg hu,hp,fits_push]
  rw[e]
  clear e
  obtain ⟨va,ra,x1,c1,x2⟩:=rd_cutI h uS zS 0 (p:Int) (by omega) (by omega) (by omega)
  have c1':=c1 rfl
  rw[show ((p:Int) - 0).toNat=p by omega,show (0:Int).toNat=0 from rfl,List.drop_zero] at ra
  clear c1 x1 x2
  have htl:Hid ((xs.take p).length=p):=by show _=_;simp;omega
  have Hp:=hid hp
  clear hp
  obtain ⟨i0,hi,hz0,hz1,hz2⟩:=info_parts infoU32
  obtain ⟨w1,hmk,how,hgw⟩:=run_make_own (P:=Tryz.prog) w w.heap.size 22 26 i0 (.int .u32 0) 1 Tryz.underlying22 hi hz0 hz1 .i64 .i64 S.size (by rw[hz2];omega) (by unfold maxLen;omega) (Nat.le_refl _)
  have b1:Below w.heap.size w w1:=below_grown (Below.refl _ _) hgw (fun k hk=>by cases hk)
  have ra1:=hid ra
  clear hgw ra
  obtain ⟨U0,hU0⟩:∃U,Value.slice (some ⟨w.heap.size,0,none⟩) 0 S.size=U:=⟨_,rfl⟩
  rw[hU0] at hmk how
  clear hU0
  go_enter Tryz.func253,Tryz.ntmps253
  go_wp2_with fail
  go_loopw [9,24] (fun O I wx=>∃(k:Nat) (ys:List Int),(k:Int)≤S.size∧I= .int .i64 k∧Hid (ys=pickL xs p ((LB S).take k))∧(ys.length:Int)≤k∧Own w.heap.size wx O ys∧Below w.heap.size w wx) (fun _ I _=>(S.size - intOf I).toNat)
  case atStart=>exact ⟨0,[],by omega,rfl,hid (by simp[pickL]),by simp,how,b1⟩
  case round=>
   obtain ⟨k,ys,hk,rfl,hys,hyl,ho,hb⟩:=hrel
   by_cases hlt:(k:Int) < S.size
   ·have hks:k < S.size:=by omega
    have htk:Hid ((LB S).take (k+1)=(LB S).take k++[(S[k].toNat:Int)]):=LB_take S k hks
    have hc:=Hlet.out _ (LB_mem S k hks)
    obtain ⟨c,hcc⟩:∃c,(S[k].toNat:Int)=c:=⟨_,rfl⟩
    rw[hcc] at hc
    obtain ⟨c0,c1⟩:=hc
    obtain ⟨ad,hrun,hcell⟩:=rd_idx (h.below hb) uS zS ((p:Int)+(c - 97)) (by omega) (by omega)
    obtain ⟨y,hy⟩:∃y,xs.getD ((p:Int)+(c - 97)).toNat 0=y:=⟨_,rfl⟩
    rw[hy] at hcell
    have hy2:Hid (ys++[y]=pickL xs p ((LB S).take (k+1))):=by
     show _=_
     rw[htk.out,hcc,pickL_snoc _ _ _ _ (by omega),←hys.out,←hy,show ((p:Int)+(c - 97)).toNat=p+(c - 97).toNat by omega]
    clear hy
    have ho2:=World.ownsRow.alloc ho (.cells #[.int .u32 y] 26)
    have hb2:=hb.alloc hb.size (.cells #[.int .u32 y] 26)
    go_wp2_with (at_builtin;refine wpList_append_rd (k:= .u32) rfl _ _ 22 rfl w.heap.size 26 i0 4 Tryz.underlying22 hi hz0 hz1 hz2 _ ys rfl ho2 _ [y] rfl (rd_one _ y 26) (by unfold maxLen;simp;omega) (by simp;omega) hb2.size ?_;intro v3 w3 hown3 hgr3)
    go_roundw
    case rel=>exact ⟨k+1,ys++[y],by omega,by go_num,hy2,by simp;omega,hown3,below_grown hb2 hgr3 (fun k hk=>(ho2.lt k hk).1)⟩
    case measure=>simp[intOf];omega
   ·obtain rfl:k=S.size:=by omega
    have htk:(LB S).take S.size=LB S:=List.take_of_length_le (by rw[LB_len];exact Nat.le_refl _)
    rw[htk] at hys
    clear htk
    have cp:=w_spush va _ (xs.take p) ys _ (ra1.out.below hb) (Rd_own ho).1 (by simp;omega) (by omega)
    rw[hys.out] at cp
    go_wp2_with (go_at_call 112;refine cp.mono ?_;rintro e w2 ⟨v2,rfl,r2,b2⟩)
    go_ret2
    exact ⟨v2,rfl,r2.le hb.size,below_trans hb b2⟩
theorem w_reach_far (op:Int) (v:Value) (xs:List Int) (w:World) (h:Rd .u32 w v xs) (hX:∀x∈xs,0≤x∧x < 4294967296) (hlI:(xs.length:Int)≤64) (hf:far xs=true):
  Calls Tryz.prog 252 #[.int .i64 op,v] w fun e w'=>∃v1,e= .returned (.tuple #[v1, .int .i64 5])∧RdN w.heap.size w' v1 []∧Below w.heap.size w w':=by
 have hlen:=rd_len h uS (P:=Tryz.prog)
 unfold far at hf
 simp only[decide_eq_true_eq] at hf
 by_cases h0:(xs.length:Int)=0
 ·rw[h0] at hlen
  go_enter Tryz.func252,Tryz.ntmps252
  go_wp2_with fail
  go_ret2
  exact ⟨_,rfl,RdN_nil,Below.refl _ _⟩
 ·have hlow:(0:Int) < xs.length:=by omega
  have h0b:((xs.length:Int)==0)=false:=beq_eq_false_iff_ne.2 h0
  obtain ⟨ad,hrun,hcell⟩:=rd_idx h uS zS ((xs.length:Int) - 1) (by omega) (by omega)
  rw[show ((xs.length:Int) - 1).toNat=xs.length - 1 by omega] at hcell
  have hm:xs.getD (xs.length - 1) 0∈xs:=by
   rw[List.getD_eq_getElem?_getD,List.getElem?_eq_getElem (by omega)]
   simp
  have hm2:=hX _ hm
  obtain ⟨T,hT⟩:∃T,xs.getD (xs.length - 1) 0=T:=⟨_,rfl⟩
  rw[hT] at hcell hm2 hf
  obtain ⟨t0,t1⟩:=hm2
  obtain ⟨va,ra,x1,c1,x2⟩:=rd_cutI h uS zS 0 ((xs.length:Int) - 1) (by omega) (by omega) (by omega)
  have c1':=c1 rfl
  have alen:=rd_len ra uS (P:=Tryz.prog)
  rw[show (((List.drop (Int.toNat 0) xs).take ((xs.length:Int) - 1 - 0).toNat).length:Int)=(xs.length:Int) - 1 by simp;omega] at alen
  have hfar:(xs.length:Int) - 1≤T:=by omega
  clear c1 x1 x2 hm hT hf
  have hw1:IntKind.u64.wrap T=T:=by rw[IntKind.wrap_u64];omega
  have hw2:IntKind.u64.wrap ((xs.length:Int) - 1)=(xs.length:Int) - 1:=by rw[IntKind.wrap_u64];omega
  go_enter Tryz.func252,Tryz.ntmps252
  go_wp2_with fail
  go_quiet (fail)
  go_wp2_with fail
  go_ret2
  exact ⟨_,rfl,RdN_nil,below_drewN (Below.refl _ _) _⟩
theorem near (xs:List Int) (hX:∀x∈xs,0≤x∧x < 4294967296) (hf:¬far xs=true):∃T,xs.getD (xs.length - 1) 0=T∧0≤T∧T < 4294967296∧T < (xs.length:Int) - 1∧(plc xs:Int)=(xs.length:Int) - 2 - T∧(1:Int) < xs.length:=by
 unfold far at hf
 simp only[decide_eq_true_eq] at hf
 have hm:xs.getD (xs.length - 1) 0∈xs:=by
  rw[List.getD_eq_getElem?_getD,List.getElem?_eq_getElem (by omega)]
  simp
 have:=hX _ hm
 refine ⟨_,rfl,this.1,this.2,by omega, ?_,by omega⟩
 unfold plc
 omega
theorem w_reach_pick (v:Value) (xs:List Int) (w:World) (h:Rd .u32 w v xs) (hX:∀x∈xs,0≤x∧x < 4294967296) (hlI:(xs.length:Int)≤64) (hf:¬far xs=true):
  Calls Tryz.prog 252 #[.int .i64 78,v] w fun e w'=>∃v1,e= .returned (.tuple #[v1, .int .i64 (doP xs).2])∧RdN w.heap.size w' v1 (doP xs).1∧Below w.heap.size w w':=by
 have hlen:=rd_len h uS (P:=Tryz.prog)
 have e:doP xs=pushF (xs.take (xs.length - 1)) [xs.getD (plc xs) 0]:=by unfold doP;rw[if_neg hf,fits_push]
 rw[e]
 clear e
 obtain ⟨T,hT,t0,t1,hnear,hP,h1⟩:=near xs hX hf
 have h0b:((xs.length:Int)==0)=false:=beq_eq_false_iff_ne.2 (by omega)
 obtain ⟨ad,hrun,hcell⟩:=rd_idx h uS zS ((xs.length:Int) - 1) (by omega) (by omega)
 rw[show ((xs.length:Int) - 1).toNat=xs.length - 1 by omega,hT] at hcell
 obtain ⟨va,ra,x1,c1,x2⟩:=rd_cutI h uS zS 0 ((xs.length:Int) - 1) (by omega) (by omega) (by omega)
 have c1':=c1 rfl
 rw[show ((xs.length:Int) - 1 - 0).toNat=xs.length - 1 by omega,show (0:Int).toNat=0 from rfl,List.drop_zero] at ra
 have hAl:((xs.take (xs.length - 1)).length:Int)=(xs.length:Int) - 1:=by simp;omega
 have hyA:(xs.take (xs.length - 1)).getD (plc xs) 0=xs.getD (plc xs) 0:=by
  rw[List.getD_eq_getElem?_getD,List.getElem?_take,if_pos (by omega),←List.getD_eq_getElem?_getD]
 obtain ⟨A,hA⟩:∃A,xs.take (xs.length - 1)=A:=⟨_,rfl⟩
 rw[hA] at ra hAl hyA ⊢
 have alen:=rd_len ra uS (P:=Tryz.prog)
 rw[hAl] at alen
 obtain ⟨ad2,hrun2,hcell2⟩:=rd_idx ra uS zS ((xs.length:Int) - 2 - T) (by omega) (by omega)
 rw[show ((xs.length:Int) - 2 - T).toNat=plc xs by omega,hyA] at hcell2
 obtain ⟨y,hy⟩:∃y,xs.getD (plc xs) 0=y:=⟨_,rfl⟩
 rw[hy] at hcell2 ⊢
 have hPs:(xs.length:Int) - 1 - 1 - T=(xs.length:Int) - 2 - T:=by omega
 have zA:A.length*4≤140737488355328:=by omega
 clear c1 x1 x2 hyA hA hT hy hP hX hf
 have hw1:IntKind.u64.wrap T=T:=by rw[IntKind.wrap_u64];omega
 have hw2:IntKind.u64.wrap ((xs.length:Int) - 1)=(xs.length:Int) - 1:=by rw[IntKind.wrap_u64];omega
 have bA:∀n,Below w.heap.size w ((w.drewN n).alloc (.cells #[.int .u32 y] 26)):=fun n=>(below_drewN (Below.refl _ _) n).alloc (Nat.le_refl _) _
 have cp:∀n,Calls Tryz.prog 112 #[va, .slice (some ⟨w.heap.size,0,none⟩) 1 1] ((w.drewN n).alloc (.cells #[.int .u32 y] 26)) _:=fun n=>w_spush va _ A [y] _ (ra.below (bA n)) (rd_one (w.drewN n) y 26) zA (by simp)
 go_enter Tryz.func252,Tryz.ntmps252
 go_wp2_with fail
 go_quiet (fail)
 go_wp2_with (go_at_call 112;refine (cp _).mono ?_;rintro e w2 ⟨v2,rfl,r2,b2⟩)
 go_ret2
 exact ⟨v2,rfl,r2.le (bA _).size,below_trans (bA _) b2⟩
theorem roll_lists (xs:List Int) (P:Nat) (h:P+2≤xs.length):((xs.take (xs.length - 1)).take P=xs.take P)∧(((xs.take (xs.length - 1)).drop (P+1)).take (xs.length - 2 - P)=(xs.drop (P+1)).take (xs.length - 2 - P))∧(((xs.take (xs.length - 1)).drop P).take 1=[xs.getD P 0]):=by
 refine ⟨by rw[List.take_take];congr 1;omega, ?_, ?_⟩
 ·rw[List.drop_take,List.take_take];congr 1;omega
 ·rw[List.drop_take,List.take_take,show min 1 (xs.length - 1 - P)=1 by omega,List.drop_eq_getElem_cons (show P < xs.length by omega)]
  rw[List.getD_eq_getElem?_getD,List.getElem?_eq_getElem (show P < xs.length by omega)]
  rfl
set_option maxHeartbeats 2000000 in
theorem w_reach_roll (v:Value) (xs:List Int) (w:World) (h:Rd .u32 w v xs) (hX:∀x∈xs,0≤x∧x < 4294967296) (hlI:(xs.length:Int)≤64) (hf:¬far xs=true):
  Calls Tryz.prog 252 #[.int .i64 79,v] w fun e w'=>∃v1,e= .returned (.tuple #[v1, .int .i64 (doR xs).2])∧RdN w.heap.size w' v1 (doR xs).1∧Below w.heap.size w w':=by
 have hlen:=rd_len h uS (P:=Tryz.prog)
 obtain ⟨T,hT,t0,t1,hnear,hP,h1⟩:=near xs hX hf
 obtain ⟨P,hPP⟩:∃P,plc xs=P:=⟨_,rfl⟩
 obtain ⟨l1,l2,l3⟩:=roll_lists xs P (by omega)
 have e:doR xs=(xs.take P++(xs.drop (P+1)).take (xs.length - 2 - P)++[xs.getD P 0],0):=by
  unfold doR fits
  rw[if_neg hf,hPP,if_neg (by simp;omega)]
 rw[e]
 clear e
 have h0b:((xs.length:Int)==0)=false:=beq_eq_false_iff_ne.2 (by omega)
 obtain ⟨ad,hrun,hcell⟩:=rd_idx h uS zS ((xs.length:Int) - 1) (by omega) (by omega)
 rw[show ((xs.length:Int) - 1).toNat=xs.length - 1 by omega,hT] at hcell
 obtain ⟨va,ra,x1,c1,x2⟩:=rd_cutI h uS zS 0 ((xs.length:Int) - 1) (by omega) (by omega) (by omega)
 have c1':=c1 rfl
 rw[show ((xs.length:Int) - 1 - 0).toNat=xs.length - 1 by omega,show (0:Int).toNat=0 from rfl,List.drop_zero] at ra
 have hAl:((xs.take (xs.length - 1)).length:Int)=(xs.length:Int) - 1:=by simp;omega
 have alen:=rd_len ra uS (P:=Tryz.prog)
 rw[hAl] at alen
 obtain ⟨vb,rb,y1,c2,y2⟩:=rd_cutI ra uS zS 0 ((xs.length:Int) - 2 - T) (by omega) (by omega) (by omega)
 have c2':=c2 rfl
 rw[show ((xs.length:Int) - 2 - T - 0).toNat=P by omega,show (0:Int).toNat=0 from rfl,List.drop_zero,l1] at rb
 obtain ⟨vc,rc,y3,y4,c3⟩:=rd_cutI ra uS zS ((xs.length:Int) - 1 - T) ((xs.length:Int) - 1) (by omega) (by omega) (by omega)
 have c3':=c3 hAl.symm
 rw[show ((xs.length:Int) - 1 - T).toNat=P+1 by omega,show ((xs.length:Int) - 1 - ((xs.length:Int) - 1 - T)).toNat=xs.length - 2 - P by omega,l2] at rc
 obtain ⟨vd,rd,c4,y5,y6⟩:=rd_cutI ra uS zS ((xs.length:Int) - 2 - T) ((xs.length:Int) - 1 - T) (by omega) (by omega) (by omega)
 rw[show ((xs.length:Int) - 2 - T).toNat=P by omega,show ((xs.length:Int) - 1 - T - ((xs.length:Int) - 2 - T)).toNat=1 by omega,l3] at rd
 have lB:(xs.take P).length≤64:=by simp;omega
 have lC:((xs.drop (P+1)).take (xs.length - 2 - P)).length≤64:=by simp;omega
 have lD:[xs.getD P 0].length=1:=rfl
 obtain ⟨B,hB⟩:∃B,xs.take P=B:=⟨_,rfl⟩
 obtain ⟨C,hC⟩:∃C,(xs.drop (P+1)).take (xs.length - 2 - P)=C:=⟨_,rfl⟩
 obtain ⟨D,hD⟩:∃D,[xs.getD P 0]=D:=⟨_,rfl⟩
 rw[hB] at rb lB ⊢
 rw[hC] at rc lC ⊢
 rw[hD] at rd lD ⊢
 clear l1 l2 l3 hB hC hD y1 y2 y3 y4 y5 y6 c1 c2 c3 x1 x2 hT hPP hX hf hP
 have hPs:(xs.length:Int) - 1 - 1 - T=(xs.length:Int) - 2 - T:=by omega
 have hQs:(xs.length:Int) - 2 - T+1=(xs.length:Int) - 1 - T:=by omega
 obtain ⟨bo,cb,rfl,z1,z2,z3⟩:=rd_form rb
 obtain ⟨co,cc,rfl,z4,z5,z6⟩:=rd_form rc
 obtain ⟨eo,cd,rfl,z7,z8,z9⟩:=rd_form rd
 have cp:∀n,Calls Tryz.prog 177 #[.slice (some ⟨w.heap.size,0,none⟩) 3 3] ((w.drewN n).alloc (.cells #[.slice bo B.length cb, .slice co C.length cc, .slice eo D.length cd] 22)) fun e w'=>∃v',e= .returned v'∧RdN w.heap.size w' v' (B++C++D)∧Below w.heap.size w w':=by
  intro n
  obtain ⟨V,hV⟩:∃V,V=Value.slice bo B.length cb:=⟨_,rfl⟩
  obtain ⟨U,hU⟩:∃U,U=Value.slice co C.length cc:=⟨_,rfl⟩
  obtain ⟨X,hX⟩:∃X,X=Value.slice eo D.length cd:=⟨_,rfl⟩
  rw[←hV] at rb ⊢
  rw[←hU] at rc ⊢
  rw[←hX] at rd ⊢
  have b0:Below w.heap.size w ((w.drewN n).alloc (.cells #[V,U,X] 22)):=(below_drewN (Below.refl _ _) n).alloc (Nat.le_refl _) _
  have q:=w_concat w.heap.size 3 (fun i=>if i=0 then V else if i=1 then U else X) (fun i=>if i=0 then B else if i=1 then C else D) ((w.drewN n).alloc (.cells #[V,U,X] 22)) (by omega) (by omega) ?_ ?_ (by simp[cat];omega)
  ·rw[show cat (fun i=>if i=0 then B else if i=1 then C else D) 3=B++C++D by simp[cat]] at q
   refine q.mono ?_
   rintro e w' ⟨v',rfl,r,b⟩
   exact ⟨v',rfl,r.le b0.size,below_trans b0 b⟩
  ·intro i hi
   rw[show w.heap.size=(w.drewN n).heap.size from rfl,World.cell?_alloc_new]
   rcases i with _|_|_|i
   ·rfl
   ·rfl
   ·rfl
   ·omega
  ·intro i hi
   rcases i with _|_|_|i
   ·exact rb.below b0
   ·exact rc.below b0
   ·exact rd.below b0
   ·omega
 clear lB lC lD z1 z2 z3 z4 z5 z6 z7 z8 z9 rb rc rd ra h
 have hw1:IntKind.u64.wrap T=T:=by rw[IntKind.wrap_u64];omega
 have hw2:IntKind.u64.wrap ((xs.length:Int) - 1)=(xs.length:Int) - 1:=by rw[IntKind.wrap_u64];omega
 have hw3:IntKind.i64.wrap ((xs.length:Int) - 1 - T)=(xs.length:Int) - 1 - T:=by rw[IntKind.wrap_i64];omega
 go_enter Tryz.func252,Tryz.ntmps252
 go_wp2_with fail
 go_quiet (fail)
 go_wp2_with fail
 go_region_with (go_at_call 177;refine (cp _).mono ?_;rintro e w2 ⟨v2,rfl,r2,b2⟩)
 all_goals go_wp2_with fail
 all_goals go_ret2
 all_goals exact ⟨v2,rfl,r2,b2⟩
def opF (k:Nat):Int:=[70,71,72,73,74,75,76,77,82,83,84,85,86].getD k 0
def tkF (k:Nat):Int:=[1,1,2,2,3,3,2,2,2,2,4,4,6].getD k 0
def lfF (k:Nat):ByteArray:=[⟨#[]⟩,⟨#[97,97]⟩,⟨#[97,98,97]⟩,⟨#[98,97]⟩,⟨#[98,99,97]⟩,⟨#[99,97,98]⟩,⟨#[98,97,98]⟩,⟨#[98]⟩,⟨#[]⟩,⟨#[97,98,97,98]⟩,⟨#[97,98,99,100,97,98]⟩,⟨#[99,100,97,98]⟩,⟨#[99,100,101,102,97,98]⟩].getD k ⟨#[]⟩
def tabV:List Value:=(List.range 13).flatMap fun k=>[.int .i64 (opF k), .int .i64 (tkF k), .string (lfF k)]
def Tab (w:World):Prop:=∀j v,tabV[j]? =some v→w.cell? ⟨0,j,none⟩=some v
theorem Tab.below {w w':World} (h:Tab w) (g:Below w.heap.size w w'):Tab w':=fun j v hv=>below_cell g (h j v hv)
theorem lf_fits:∀k,k < 13→(∀c∈LB (lfF k),97≤c∧c < 97+tkF k)∧((lfF k).size:Int)≤6∧1≤tkF k∧tkF k≤6:=by decide+kernel
theorem row_isT:∀k,k < 13→isT (opF k)=true:=by decide+kernel
theorem row_doT (xs:List Int):∀k,k < 13→doT xs (tkF k) (LB (lfF k))=doT xs (effT (opF k)) (LB (effS (opF k))):=by
 intro k hk
 rcases k with _|_|_|_|_|_|_|_|_|_|_|_|_|k
 case succ.succ.succ.succ.succ.succ.succ.succ.succ.succ.succ.succ.succ=>omega
 all_goals rfl
theorem rows_all (op:Int) (h:∀j,j < 13→¬opF j=op):isT op=false:=by
 cases hi:isT op
 ·rfl
 ·exfalso
  rcases isT_cases op hi with rfl|rfl|rfl|rfl|rfl|rfl|rfl|rfl|rfl|rfl|rfl|rfl|rfl
  ·exact h 0 (by omega) rfl
  ·exact h 1 (by omega) rfl
  ·exact h 2 (by omega) rfl
  ·exact h 3 (by omega) rfl
  ·exact h 4 (by omega) rfl
  ·exact h 5 (by omega) rfl
  ·exact h 6 (by omega) rfl
  ·exact h 7 (by omega) rfl
  ·exact h 8 (by omega) rfl
  ·exact h 9 (by omega) rfl
  ·exact h 10 (by omega) rfl
  ·exact h 11 (by omega) rfl
  ·exact h 12 (by omega) rfl
theorem last_back (xs:List Int) (h:0 < xs.length):xs.take (xs.length - 1)++[xs.getD (xs.length - 1) 0]=xs:=by
 rw[List.getD_eq_getElem?_getD,List.getElem?_eq_getElem (by omega),Option.getD_some,←List.take_succ_eq_append_getElem (by omega)]
 exact List.take_of_length_le (by omega)
theorem dupQ0 (xs:List Int) (h:(xs.length:Int) < 1∨¬xs.getD (xs.length - 1) 0=0):doQ xs=doT xs 1 (LB ⟨#[97,97]⟩):=by
 unfold doQ doT
 by_cases h0:(xs.length:Int) < 1
 ·rw[if_pos h0,if_pos h0]
 ·have h1:¬xs.getD (xs.length - 1) 0=0:=by
   rcases h with h|h
   ·exact absurd h h0
   ·exact h
  rw[if_neg h0,if_neg h0,if_neg h1]
  have e1:pickL xs (xs.length - (1:Int).toNat) (LB ⟨#[97,97]⟩)=[xs.getD (xs.length - 1) 0,xs.getD (xs.length - 1) 0]:=rfl
  rw[e1,show (1:Int).toNat=1 from rfl]
  have e2:=last_back xs (by omega)
  have e3:xs++[xs.getD (xs.length - 1) 0]=xs.take (xs.length - 1)++[xs.getD (xs.length - 1) 0,xs.getD (xs.length - 1) 0]:=by
   calc xs++[xs.getD (xs.length - 1) 0]=(xs.take (xs.length - 1)++[xs.getD (xs.length - 1) 0])++[xs.getD (xs.length - 1) 0]:=by rw[e2]
    _=_:=by simp
  rw[e3]
theorem dupQ1 (xs:List Int) (h0:0 < xs.length) (h:xs.getD (xs.length - 1) 0=0):doQ xs=doT xs 1 (LB ⟨#[97]⟩):=by
 unfold doQ doT
 have hn:¬((xs.length:Int) < 1):=by omega
 rw[if_neg hn,if_neg hn,if_pos h]
 have e1:pickL xs (xs.length - (1:Int).toNat) (LB ⟨#[97]⟩)=[xs.getD (xs.length - 1) 0]:=rfl
 rw[e1,show (1:Int).toNat=1 from rfl,last_back xs h0,List.append_nil]
theorem tab_size:(Tryz.prog.info? 236).map (·.size)=some tabV.length:=by kernel_rfl
theorem tab_ext:∀k,k < 13→tabV.toArray.extract (k*3) (k*3+3)=#[.int .i64 (opF k), .int .i64 (tkF k), .string (lfF k)]:=by
 intro k hk
 rcases k with _|_|_|_|_|_|_|_|_|_|_|_|_|k
 case succ.succ.succ.succ.succ.succ.succ.succ.succ.succ.succ.succ.succ=>omega
 all_goals rfl
theorem tab_idx (k:Nat) (hk:k < 13) (w:World):(Instr.index 236 (.agg tabV.toArray) (.int .i64 k)).run Tryz.prog w= .ok (.agg #[.int .i64 (opF k), .int .i64 (tkF k), .string (lfF k)]) w:=by
 have e:=tab_ext k hk
 have hagg:(isAgg 235).run Tryz.prog w= .ok true w:=by
  unfold isAgg
  rw[Sem.run_bind,run_underlying Tryz.underlying235 w]
  rfl
 have hs:=Tryz.sizeOf235 w
 have hk2:(0:Int)≤k∧(k:Int) < ((13:Nat):Int):=by omega
 simp only[Instr.index,asIntOf,Sem.run_bind,run_underlying Tryz.underlying236,Sem.run_pure,Result.andThen_ok,if_pos hk2,Int.toNat_natCast,part,hagg,hs,if_true,e]
set_option maxHeartbeats 2000000 in
set_option maxRecDepth 100000 in
theorem w_sdoT (v:Value) (xs:List Int) (op:Int) (w:World) (hT:Tab w) (h:Rd .u32 w v xs) (hlI:(xs.length:Int)≤64) (h78:(op==78)=false) (h79:(op==79)=false) (h80:(op==80)=false) (h81:(op==81)=false):
  Calls Tryz.prog 182 #[.int .i64 op,v] w fun e w'=>∃v1,e= .returned (.tuple #[v1, .int .i64 (doF op xs).2])∧RdN w.heap.size w' v1 (doF op xs).1∧Below w.heap.size w w':=by
 have hlen:=rd_len h uS (P:=Tryz.prog)
 have eN:Hid (isT op=false→doF op xs=([],2)):=by
  intro hi
  unfold doF
  simp at h78 h79 h80 h81
  rw[if_neg (by omega),if_neg (by rw[hi];decide),if_neg h80,if_neg h81,if_neg h78,if_neg h79]
 have eT:Hid (∀k,k < 13→opF k=op→doF op xs=doT xs (tkF k) (LB (lfF k))):=by
  intro k hk he
  unfold doF
  rw[if_neg (by omega),←he,if_pos (row_isT k hk),row_doT xs k hk]
 obtain ⟨R,hR⟩:∃R,doF op xs=R:=⟨_,rfl⟩
 rw[hR] at eN eT ⊢
 clear hR
 have hrng:Hid (w.rangeAt 0 0 tabV):=fun j v hv=>by rw[Nat.zero_add];exact hT j v hv
 have hidx:=hid tab_idx
 have hsz:=hid tab_size
 obtain ⟨A,hA⟩:∃A,tabV=A:=⟨_,rfl⟩
 rw[hA] at hrng hidx hsz
 clear hT hA
 go_enter Tryz.func182,Tryz.ntmps182
 go_upto_region 13 with (fail)
 go_wp2_with (refine wpList_load_mid rfl 236 (.global 0) rfl 0 0 rfl A _ hrng.out Tryz.underlying236 rfl hsz.out ?_)
 go_loopw [53] (fun I wx=>∃k:Nat,(k:Int)≤13∧I= .int .i64 k∧Hid (∀j,j < k→¬opF j=op)∧Below w.heap.size w wx) (fun I _=>(13 - intOf I).toNat)
 case atStart=>exact ⟨0,by omega,rfl,hid (fun j hj=>by omega),Below.refl _ _⟩
 case round=>
  obtain ⟨k,hk,rfl,hno,hb⟩:=hrel
  by_cases hlt:(k:Int) < 13
  ·have hidxk:=hidx.out k (by omega)
   obtain ⟨hl1,hl2,hl3,hl4⟩:=lf_fits k (by omega)
   have HL1:=hid hl1
   have eTk:Hid (opF k=op→R=doT xs (tkF k) (LB (lfF k))):=eT.out k (by omega)
   obtain ⟨o,ho⟩:∃o,opF k=o:=⟨_,rfl⟩
   obtain ⟨t,ht⟩:∃t,tkF k=t:=⟨_,rfl⟩
   obtain ⟨F,hF⟩:∃F,lfF k=F:=⟨_,rfl⟩
   have hno2:Hid (¬o=op→∀j,j < k+1→¬opF j=op):=by
    intro h1 j hj
    rcases Nat.lt_or_ge j k with h2|h2
    ·exact hno.out j h2
    ·obtain rfl:j=k:=by omega
     rw[ho];exact h1
   rw[ho,ht,hF] at hidxk eTk
   rw[ht,hF] at HL1
   rw[hF] at hl2
   rw[ht] at hl3 hl4
   clear ho ht hF hl1
   by_cases he:o=op
   ·have heb:(o==op)=true:=beq_iff_eq.2 he
    have eR:Hid (R=doT xs t (LB F)):=eTk.out he
    clear he eTk
    have hb2:=hb.alloc hb.size (.cells #[.int .i64 o, .int .i64 t, .string F] 235)
    have ct:=w_turn v xs t F _ (h.below hb2) hlI HL1.out hl2 hl3 hl4
    rw[←eR.out] at ct
    go_wp2_with (go_at_call 253;refine ct.mono ?_;rintro e w2 ⟨v2,rfl,r2,b2⟩)
    go_ret2
    exact ⟨v2,rfl,r2.le hb2.size,hb2.trans (b2.mono hb2.size)⟩
   ·have heb:(o==op)=false:=beq_eq_false_iff_ne.2 he
    have hno3:=hid (hno2.out he)
    clear he eTk
    go_wp2_with fail
    go_roundw
    case rel=>exact ⟨k+1,by omega,by go_num,hno3,hb.alloc hb.size _⟩
    case measure=>simp[intOf];omega
  ·have hk13:k=13:=by omega
   have eR:Hid (R=([],2)):=eN.out (rows_all op (fun j hj=>hno.out j (by omega)))
   clear hk13
   go_wp2_with fail
   go_ret2
   rw[eR.out]
   exact ⟨_,rfl,RdN_nil,hb⟩
theorem lb_a:∀c∈LB ⟨#[97]⟩,97≤c∧c < 97+1:=by decide+kernel
theorem lb_aa:∀c∈LB ⟨#[97,97]⟩,97≤c∧c < 97+1:=by decide+kernel
set_option maxHeartbeats 2000000 in
set_option maxRecDepth 100000 in
theorem w_sdo (v:Value) (xs:List Int) (op:Int) (w:World) (hT:Tab w) (h:Rd .u32 w v xs) (hX:∀x∈xs,0≤x∧x < 4294967296):
  Calls Tryz.prog 182 #[.int .i64 op,v] w fun e w'=>∃v1,e= .returned (.tuple #[v1, .int .i64 (doF op xs).2])∧RdN w.heap.size w' v1 (doF op xs).1∧Below w.heap.size w w':=by
 have hlen:=rd_len h uS (P:=Tryz.prog)
 by_cases hl:(64:Int) < xs.length
 ·have e:doF op xs=([],1):=by unfold doF;rw[if_pos (by omega)]
  rw[e]
  clear e
  go_enter Tryz.func182,Tryz.ntmps182
  go_wp2_with fail
  go_ret2
  exact ⟨_,rfl,RdN_nil,Below.refl _ _⟩
 have hlI:(xs.length:Int)≤64:=by omega
 have hnl:¬64 < xs.length:=by omega
 by_cases h78:op=78
 ·subst h78
  have e:doF 78 xs=doP xs:=by unfold doF;rw[if_neg hnl];rfl
  rw[e]
  clear e hnl hl
  have cr:Calls Tryz.prog 252 #[.int .i64 78,v] w fun e w'=>∃v1,e= .returned (.tuple #[v1, .int .i64 (doP xs).2])∧RdN w.heap.size w' v1 (doP xs).1∧Below w.heap.size w w':=by
   by_cases hf:far xs=true
   ·have e:doP xs=([],5):=by unfold doP;rw[if_pos hf]
    rw[e]
    exact w_reach_far 78 v xs w h hX hlI hf
   ·exact w_reach_pick v xs w h hX hlI hf
  go_enter Tryz.func182,Tryz.ntmps182
  go_wp2_with (go_at_call 252;refine cr.mono ?_;rintro e w2 ⟨v2,rfl,r2,b2⟩)
  go_ret2
  exact ⟨v2,rfl,r2,b2⟩
 by_cases h79:op=79
 ·subst h79
  have e:doF 79 xs=doR xs:=by unfold doF;rw[if_neg hnl];rfl
  rw[e]
  clear e hnl hl
  have cr:Calls Tryz.prog 252 #[.int .i64 79,v] w fun e w'=>∃v1,e= .returned (.tuple #[v1, .int .i64 (doR xs).2])∧RdN w.heap.size w' v1 (doR xs).1∧Below w.heap.size w w':=by
   by_cases hf:far xs=true
   ·have e:doR xs=([],5):=by unfold doR;rw[if_pos hf]
    rw[e]
    exact w_reach_far 79 v xs w h hX hlI hf
   ·exact w_reach_roll v xs w h hX hlI hf
  go_enter Tryz.func182,Tryz.ntmps182
  go_wp2_with (go_at_call 252;refine cr.mono ?_;rintro e w2 ⟨v2,rfl,r2,b2⟩)
  go_ret2
  exact ⟨v2,rfl,r2,b2⟩
 by_cases h80:op=80
 ·subst h80
  have e:doF 80 xs=doQ xs:=by unfold doF;rw[if_neg hnl];rfl
  rw[e]
  clear e hnl hl
  by_cases h0:(xs.length:Int) < 1
  ·have e:=dupQ0 xs (Or.inl h0)
   rw[e]
   clear e
   have ct:=w_turn v xs 1 ⟨#[97,97]⟩ w h hlI lb_aa (by decide) (by omega) (by omega)
   have h00:¬((0:Int) < xs.length):=by omega
   go_enter Tryz.func182,Tryz.ntmps182
   go_wp2_with (go_at_call 253;refine ct.mono ?_;rintro e w2 ⟨v2,rfl,r2,b2⟩)
   go_ret2
   exact ⟨v2,rfl,r2,b2⟩
  ·obtain ⟨ad,hrun,hcell⟩:=rd_idx h uS zS ((xs.length:Int) - 1) (by omega) (by omega)
   rw[show ((xs.length:Int) - 1).toNat=xs.length - 1 by omega] at hcell
   by_cases hz:xs.getD (xs.length - 1) 0=0
   ·have e:=dupQ1 xs (by omega) hz
    rw[e]
    clear e
    rw[hz] at hcell
    clear hz
    have ct:=w_turn v xs 1 ⟨#[97]⟩ w h hlI lb_a (by decide) (by omega) (by omega)
    have h00:(0:Int) < xs.length:=by omega
    go_enter Tryz.func182,Tryz.ntmps182
    go_wp2_with (go_at_call 253;refine ct.mono ?_;rintro e w2 ⟨v2,rfl,r2,b2⟩)
    go_ret2
    exact ⟨v2,rfl,r2,b2⟩
   ·have e:=dupQ0 xs (Or.inr hz)
    rw[e]
    clear e
    have hzb:(xs.getD (xs.length - 1) 0==0)=false:=beq_eq_false_iff_ne.2 hz
    obtain ⟨T,hTT⟩:∃T,xs.getD (xs.length - 1) 0=T:=⟨_,rfl⟩
    rw[hTT] at hcell hzb
    clear hz hTT
    have ct:=w_turn v xs 1 ⟨#[97,97]⟩ w h hlI lb_aa (by decide) (by omega) (by omega)
    have h00:(0:Int) < xs.length:=by omega
    go_enter Tryz.func182,Tryz.ntmps182
    go_wp2_with (go_at_call 253;refine ct.mono ?_;rintro e w2 ⟨v2,rfl,r2,b2⟩)
    go_ret2
    exact ⟨v2,rfl,r2,b2⟩
 by_cases h81:op=81
 ·subst h81
  have e:doF 81 xs=pushF xs [(xs.length:Int)]:=by rw[←fits_push];unfold doF;rw[if_neg hnl];rfl
  rw[e]
  clear e hnl hl
  obtain ⟨L,hL⟩:∃L:Int,(xs.length:Int)=L:=⟨_,rfl⟩
  have hw:IntKind.u32.wrap L=L:=by rw[IntKind.wrap_u32];omega
  have b0:=(Below.refl w.heap.size w).alloc (Nat.le_refl _) (.cells #[.int .u32 L] 26)
  have cp:=w_spush v _ xs [L] _ (h.below b0) (rd_one w L 26) (by omega) (by simp)
  rw[hL] at hlen ⊢
  have L0:0≤L:=by omega
  have L1:L≤64:=by omega
  clear hL
  go_enter Tryz.func182,Tryz.ntmps182
  go_wp2_with (go_at_call 112;refine cp.mono ?_;rintro e w2 ⟨v2,rfl,r2,b2⟩)
  go_ret2
  exact ⟨v2,rfl,r2.le b0.size,below_trans b0 b2⟩
 exact w_sdoT v xs op w hT h hlI (beq_eq_false_iff_ne.2 h78) (beq_eq_false_iff_ne.2 h79) (beq_eq_false_iff_ne.2 h80) (beq_eq_false_iff_ne.2 h81)
open Go
theorem gTab : Tryz.prog.globalNamed "tinder/stack.turns" = some 0 := by kernel_rfl
theorem gTabType:(Tryz.prog.globals[0]?).map (·.type)=some 236:=by kernel_rfl
theorem gFlat:flatB Tryz.prog 4 236=true:=by kernel_rfl
theorem flat_tab:flatCells Rows.laid_tinder_stack_turns=tabV:=by
 simp[Rows.laid_tinder_stack_turns,flat_agg,flatCells,tabV,List.range_succ,opF,tkF,lfF]
theorem tab_of_laid {W : World} (h : laidMetH Tryz.prog [("tinder/stack.turns", Rows.laid_tinder_stack_turns)] W) : Tab W := by
 have h : laidMet Tryz.prog [("tinder/stack.turns", Rows.laid_tinder_stack_turns)] W := h
 have:=flat_laid 4 gTab gTabType gFlat h
 rw[flat_tab] at this
 exact this
def laidBlocks:List (Nat×Array Value):=[(0,tabV.toArray)]
end Go.Proofs.YtbamcchghecpeaaGreatDoor.Stk
namespace Go.Proofs.YtbamcchghecpeaaGreatDoor
open Go.ChangeShapes Go.WideShapes Go.ChangeAt Go.RowKit
theorem ret_i {k:IntKind} {a b:Int} (h:a=b):Ending.returned (.int k a)= .returned (.int k b):=by rw[h]
theorem ret_ii {k l:IntKind} {a b c d:Int} (h:a=b) (g:c=d):Ending.returned (.tuple #[.int k a, .int l c])= .returned (.tuple #[.int k b, .int l d]):=by rw[h,g]
abbrev Gr (w w':World):Prop:=Below w.heap.size w w'
theorem Gr.refl (w:World):Gr w w:=Below.refl _ _
theorem Gr.alloc {w w':World} (h:Gr w w') (c:Array Value) (t:TypeId):Gr w (w'.alloc (.cells c t)):=Below.alloc h h.size _
def sm (c:Int):Int:=if 65≤c∧c≤90 then c+32 else c
def dv (c:Int):Int:=if 48≤c∧c≤57 then c - 48 else if 97≤c∧c≤122 then c - 87 else if 65≤c∧c≤90 then c - 55 else 99
def dg (k:Int):Int:=if k < 10 then 48+k else 87+k
def isD (c b:Int):Bool:=decide (2≤b∧b≤36∧dv c < b)
def vl (c b:Int):Int:=if isD c b=true then dv c else 0
def L (s:ByteArray):List Int:=s.data.toList.map fun c=>(c.toNat:Int)
theorem L_len (s:ByteArray):(L s).length=s.size:=by simp[L]
theorem L_get (s:ByteArray) (k:Nat) (h:k < s.size):(L s)[k]'(by rw[L_len];exact h)=(s[k].toNat:Int):=by
 simp[L];rfl
theorem L_take (s:ByteArray) (k:Nat) (h:k < s.size):(L s).take (k+1)=(L s).take k++[(s[k].toNat:Int)]:=by
 rw[List.take_succ_eq_append_getElem (by rw[L_len];exact h),L_get s k h]
theorem L_drop (s:ByteArray) (k:Nat) (h:k < s.size):(L s).drop k=(s[k].toNat:Int)::(L s).drop (k+1):=by
 rw[List.drop_eq_getElem_cons (by rw[L_len];exact h),L_get s k h]
theorem L_bd (s:ByteArray) (k:Nat) (h:k < s.size):0≤(s[k].toNat:Int)∧(s[k].toNat:Int) < 256:=by
 have:=s[k].toNat_lt;omega
def num (b:Int) (l:List Int):Int:=l.foldl (fun a c=>a*b+vl c b) 0
def allD (b:Int) (l:List Int):Bool:=l.all fun c=>isD c b
theorem num_snoc (b:Int) (l:List Int) (c:Int):num b (l++[c])=num b l*b+vl c b:=by simp[num]
theorem allD_snoc (b:Int) (l:List Int) (c:Int):allD b (l++[c])=(allD b l&&isD c b):=by simp[allD]
def prsT (neg:Bool) (l:List Int) (b:Int):Int×Int:=
 if l=[] then (0,15) else if allD b l=false then (0,15) else if 4294967296≤num b l then (0,4) else
 (if neg=true then (4294967296 - num b l)%4294967296 else num b l,0)
def prs (l:List Int) (b:Int):Int×Int:=
 if b < 2∨36 < b then (0,1) else if l.head? =some 45 then prsT true l.tail b else prsT false l b
def shF (b:Int):Nat→Int→List Int
 |0,_=>[]
 |f+1,n=>if n < b then [dg n] else shF b f (n / b)++[dg (n%b)]
def sh (b n:Int):List Int:=shF b 32 n
theorem shF_lo (b n:Int) (f:Nat) (h:n < b):shF b (f+1) n=[dg n]:=by simp[shF,h]
theorem shF_hi (b n:Int) (f:Nat) (h:¬n < b):shF b (f+1) n=shF b f (n / b)++[dg (n%b)]:=by simp[shF,h]
theorem div_half (n b:Int) (h0:0≤n) (b0:2≤b):0≤n / b∧n / b*2≤n∧0≤n%b∧n%b < b:=by
 have h1:n / b*b≤n:=Int.ediv_mul_le n (by omega)
 have h2:0≤n / b:=Int.ediv_nonneg h0 (by omega)
 have h3:n / b*2≤n / b*b:=Int.mul_le_mul_of_nonneg_left b0 h2
 exact ⟨h2,by omega,Int.emod_nonneg n (by omega),Int.emod_lt_of_pos n (by omega)⟩
theorem div_pos (n b:Int) (b0:2≤b) (h:¬n < b):0 < n / b:=by
 have:1≤n / b:=Int.le_ediv_of_mul_le (by omega) (by omega)
 omega
theorem dg_isD (b k:Int) (b0:2≤b) (b1:b≤36) (k0:0≤k) (k1:k < b):isD (dg k) b=true∧vl (dg k) b=k∧0≤dg k∧dg k < 256∧¬dg k=45:=by
 have e:dv (dg k)=k:=by unfold dg dv;omega
 have d:isD (dg k) b=true:=by unfold isD;rw[e];simp;omega
 refine ⟨d,by unfold vl;rw[if_pos d,e], ?_, ?_, ?_⟩ <;> (unfold dg;omega)
theorem shF_all (b:Int) (b0:2≤b) (b1:b≤36) (f:Nat):∀n:Int,0≤n→n < 2^f→0 < f→
  allD b (shF b f n)=true∧num b (shF b f n)=n∧(∀x∈shF b f n,0≤x∧x < 256∧¬x=45)∧shF b f n≠[]:=by
 induction f with
 |zero=>intro n _ _ h;omega
 |succ f ih=>
  intro n h0 h1 _
  by_cases c:n < b
  ·rw[shF_lo b n f c]
   obtain ⟨d1,d2,d3,d4,d5⟩:=dg_isD b n b0 b1 h0 c
   refine ⟨by simp[allD,d1],by simp[num,d2], ?_,by simp⟩
   intro x hx
   simp at hx
   subst hx
   exact ⟨d3,d4,d5⟩
  ·obtain ⟨q0,q1,r0,r1⟩:=div_half n b h0 b0
   have qp:=div_pos n b b0 c
   have hp:(2:Int)^(f+1)=2^f*2:=Int.pow_succ 2 f
   have hf:0 < f:=by
    rcases Nat.eq_zero_or_pos f with h|h
    ·subst h;simp at h1;omega
    ·exact h
   obtain ⟨i1,i2,i3,i4⟩:=ih (n / b) q0 (by omega) hf
   obtain ⟨d1,d2,d3,d4,d5⟩:=dg_isD b (n%b) b0 b1 r0 r1
   rw[shF_hi b n f c]
   refine ⟨by rw[allD_snoc,i1,d1];rfl, ?_, ?_,by simp⟩
   ·rw[num_snoc,i2,d2]
    exact Int.ediv_mul_add_emod n b
   ·intro x hx
    rw[List.mem_append] at hx
    rcases hx with hx|hx
    ·exact i3 x hx
    ·simp at hx
     subst hx
     exact ⟨d3,d4,d5⟩
theorem sh_all (b n:Int) (b0:2≤b) (b1:b≤36) (h0:0≤n) (h1:n < 4294967296):
  allD b (sh b n)=true∧num b (sh b n)=n∧(∀x∈sh b n,0≤x∧x < 256∧¬x=45)∧sh b n≠[]:=
 shF_all b b0 b1 32 n h0 (by simpa using h1) (by decide)
def sg (b n:Int):List Int:=if n < 2147483648 then sh b n else 45::sh b (4294967296 - n)
def inF (L a n:Int):Bool:=decide (a≤L∧n≤L - a)
def wrongF (L a s:Int):Int:=if ¬(s=1∨s=2∨s=4) then 1 else if ¬a%s=0 then 8 else if inF L a s=false then 9 else 0
def beV (l:List Int):Int:=l.foldl (fun v b=>v*256+b) 0
def beB:Nat→Int→List Int
 |0,_=>[]
 |n+1,v=>beB n (v / 256)++[v%256]
def fetF (m:List Int) (a s:Int):Int×Int:=if wrongF m.length a s=0 then (beV ((m.drop a.toNat).take s.toNat),0) else (0,wrongF m.length a s)
def stoF (m:List Int) (a s v:Int):List Int×Int:=if wrongF m.length a s=0 then (m.take a.toNat++beB s.toNat v++m.drop (a.toNat+s.toNat),0) else ([],wrongF m.length a s)
def texF (m:List Int) (a n:Int):List Int×Int:=if inF m.length a n=true then ((m.drop a.toNat).take n.toNat,0) else ([],9)
def putF (m:List Int) (a:Int) (s:List Int):List Int×Int:=if inF m.length a s.length=true then (m.take a.toNat++s++m.drop (a.toNat+s.length),0) else ([],9)
def movF (m:List Int) (f t n:Int):List Int×Int:=if inF m.length f n=true∧inF m.length t n=true then putF m t ((m.drop f.toNat).take n.toNat) else ([],9)
def filF (m:List Int) (a n v:Int):List Int×Int:=if inF m.length a n=true then (m.take a.toNat++List.replicate n.toNat (v%256)++m.drop (a.toNat+n.toNat),0) else ([],9)
def cmpL:List Int→List Int→Int
 |x::xs,y::ys=>if y < x then 1 else if x < y then 4294967295 else cmpL xs ys
 |_,_=>0
def cmpF (m:List Int) (a b n:Int):Int×Int:=if inF m.length a n=true∧inF m.length b n=true then (cmpL ((m.drop a.toNat).take n.toNat) ((m.drop b.toNat).take n.toNat),0) else (0,9)
def allAt (L:Int):Int:=(L+3) / 4*4
def allF (m:List Int) (n:Int):List Int×Int×Int:=
 if (4096:Int) < m.length then ([],0,10) else if 4096 - allAt m.length < n then ([],0,10) else (m++List.replicate (allAt m.length+n - m.length).toNat 0,allAt m.length,0)
theorem wrong_ok {L a s:Int} (h:wrongF L a s=0):(s=1∨s=2∨s=4)∧a%s=0∧a≤L∧s≤L - a:=by
 unfold wrongF at h
 by_cases h1:s=1∨s=2∨s=4
 ·rw[if_neg (fun h=>h h1)] at h
  by_cases h2:a%s=0
  ·rw[if_neg (fun h=>h h2)] at h
   by_cases h3:inF L a s=false
   ·rw[if_pos h3] at h;omega
   ·simp[inF] at h3
    exact ⟨h1,h2,h3.1,h3.2⟩
  ·rw[if_pos h2] at h;omega
 ·rw[if_pos h1] at h;omega
theorem bytes_take {xs:List Int} (h:bytesL xs) (n:Nat):bytesL (xs.take n):=fun x hx=>h x (List.mem_of_mem_take hx)
theorem bytes_drop {xs:List Int} (h:bytesL xs) (n:Nat):bytesL (xs.drop n):=fun x hx=>h x (List.mem_of_mem_drop hx)
theorem bytes_app {xs ys:List Int} (h:bytesL xs) (g:bytesL ys):bytesL (xs++ys):=fun x hx=>(List.mem_append.1 hx).elim (h x) (g x)
theorem beB_len:∀(n:Nat) (v:Int),(beB n v).length=n
 |0,_=>rfl
 |n+1,v=>by simp[beB,beB_len n]
theorem beB_bytes:∀(n:Nat) (v:Int),bytesL (beB n v)
 |0,_=>fun x hx=>by simp[beB] at hx
 |n+1,v=>by
  intro x hx
  simp only[beB,List.mem_append,List.mem_singleton] at hx
  rcases hx with hx|rfl
  ·exact beB_bytes n _ x hx
  ·omega
theorem beV_snoc (l:List Int) (b:Int):beV (l++[b])=beV l*256+b:=by simp[beV]
theorem sto_bytes {m:List Int} (h:bytesL m) (a s v:Int):bytesL (stoF m a s v).1:=by
 unfold stoF
 split
 ·exact bytes_app (bytes_app (bytes_take h _) (beB_bytes _ _)) (bytes_drop h _)
 ·intro x hx;simp at hx
theorem tex_bytes {m:List Int} (h:bytesL m) (a n:Int):bytesL (texF m a n).1:=by
 unfold texF
 split
 ·exact bytes_take (bytes_drop h _) _
 ·intro x hx;simp at hx
theorem put_bytes {m s:List Int} (h:bytesL m) (g:bytesL s) (a:Int):bytesL (putF m a s).1:=by
 unfold putF
 split
 ·exact bytes_app (bytes_app (bytes_take h _) g) (bytes_drop h _)
 ·intro x hx;simp at hx
theorem fil_bytes {m:List Int} (h:bytesL m) (a n v:Int):bytesL (filF m a n v).1:=by
 unfold filF
 split
 ·refine bytes_app (bytes_app (bytes_take h _) ?_) (bytes_drop h _)
  intro x hx
  rw[List.mem_replicate] at hx
  omega
 ·intro x hx;simp at hx
theorem all_bytes {m:List Int} (h:bytesL m) (n:Int):bytesL (allF m n).1:=by
 unfold allF
 split
 ·intro x hx;simp at hx
 ·split
  ·intro x hx;simp at hx
  ·refine bytes_app h ?_
   intro x hx
   rw[List.mem_replicate] at hx
   omega
end Go.Proofs.YtbamcchghecpeaaGreatDoor
