import Derived.WalkKit
import Derived.ProofKit
import Derived.OpenShut
import Derived.WalkLawsBesides
import Derived.Handy
import Derived.Deep.Light
import Derived.Deep.QuietTactic
import Derived.BigQuiet
import Derived.Deep.RegionWith
import Derived.Below
import Derived.Laws.AppendOwnNone
import Derived.ChangeSlices
import Derived.SizedLaws
import Derived.Laws.BytesArg
import Derived.Laws.OwnMore
import Derived.Lib.AppendStr
import Derived.Test.YtkkehbdahniiaaaGreatDoorProg
import Derived.ChangeArms
import Derived.Deep.RegionLaw
import Derived.Laws.ResultCell
import Derived.Laws.StructEq
set_option linter.unusedVariables false
set_option linter.unusedSimpArgs false
set_option maxRecDepth 100000
namespace Go.Proofs.YtkkehbdahniiaaaGreatDoor
open Go.ChangeShapes Go.WideShapes Go.ChangeAt Go.RowKit
theorem hid {p:Prop} (h:p):Hid p:=h
theorem ret_b {a b:Bool} (h:a=b):Ending.returned (.bool a)= .returned (.bool b):=by rw[h]
theorem below_cell {w w':World} (h:Below w.heap.size w w') {a:Addr} {v:Value} (hc:w.cell? a=some v):w'.cell? a=some v:=
 (h.cell (p:=a) (World.block_lt_of_cell? w a hc)).trans hc
theorem below_trans {a b c:World} (h:Below a.heap.size a b) (g:Below b.heap.size b c):Below a.heap.size a c:=
 h.trans (g.mono h.size)
theorem below_drewN {a b:World} (h:Below a.heap.size a b) (n:Nat):Below a.heap.size a (b.drewN n):=h.trans ⟨rfl,rfl,rfl,Nat.le_refl _,fun _ _=>rfl⟩
theorem below_grown {a b c:World} {row:Option Nat} (h:Below a.heap.size a b) (g:b.grownBy c row) (hr:∀k,row=some k→a.heap.size≤k):Below a.heap.size a c:=
 h.grown g h.size hr
def Rd (k:IntKind) (w:World) (v:Value) (xs:List Int):Prop:=
 (∃ao cap,v= .slice ao 0 cap∧(ao=none→cap=0)∧xs=[])∨
 ∃b off cap,v= .slice (some ⟨b,off,none⟩) xs.length cap∧0 < xs.length∧xs.length≤cap∧cap≤maxLen∧∀i,i < xs.length→w.cell? ⟨b,off+i,none⟩=some (.int k (xs.getD i 0))
theorem Rd.below {k:IntKind} {w w':World} {v:Value} {xs:List Int} (h:Rd k w v xs) (g:Below w.heap.size w w'):Rd k w' v xs:=by
 rcases h with h|⟨b,off,cap,rfl,h0,h1,h2,hc⟩
 ·exact Or.inl h
 ·exact Or.inr ⟨b,off,cap,rfl,h0,h1,h2,fun i hi=>below_cell g (hc i hi)⟩
theorem Rd_nil {k:IntKind} {w:World}:Rd k w (.slice none 0 0) []:=Or.inl ⟨none,0,rfl,fun _=>rfl,rfl⟩
theorem Rd_own {k:IntKind} {w:World} {base:Nat} {e:TypeId} {v:Value} {n:Nat} {xs:List Int} (h:w.ownsRow base e 1 v n (xs.map (Value.int k))):Rd k w v xs∧n=xs.length:=by
 obtain ⟨hl,h⟩:=h
 have hn:n=xs.length:=by simp at hl;omega
 refine ⟨?_,hn⟩
 rcases h with ⟨rfl,h0⟩|⟨g,cap,cur,rfl,hb,hg,hc,hm,hs,ht⟩
 ·have:xs=[]:=List.eq_nil_of_length_eq_zero (by omega)
  subst this
  exact Rd_nil
 ·rcases Nat.eq_zero_or_pos xs.length with h0|h0
  ·have:xs=[]:=List.eq_nil_of_length_eq_zero h0
   subst this
   exact Or.inl ⟨_,_,by rw[hn];rfl,(fun h=>by cases h),rfl⟩
  ·refine Or.inr ⟨g,0,cap,by rw[hn],h0,by omega,hm,fun i hi=> ?_⟩
   have e1:cur[i]? =some (.int k (xs.getD i 0)):=by
    have e2:(cur.toList.take (n*1))[i]? =some (.int k (xs.getD i 0)):=by
     rw[ht,List.getElem?_map,List.getElem?_eq_getElem hi]
     simp[List.getD_eq_getElem?_getD,List.getElem?_eq_getElem hi]
    rw[List.getElem?_take] at e2
    split at e2
    ·simpa using e2
    ·cases e2
   simp[World.cell?,hg,e1]
theorem wp_append_rd {P:Program} {w:World} {k:IntKind} {o:Oper} {a:Act} {K:Act→World→Prop} {Q:Exit→Act→World→Prop} (s x:Operand) (t:TypeId)
  (ho:o.op= .call {callee:= .builtin .append,args:=#[s,x],argTypes:=#[t,t]})
  (base:Nat) (e:TypeId) (i:TypeInfo) (bytes:Nat) (ht:P.underlying t=some (.slice e)) (hi:P.info? e=some i) (hz:i.zero=some (.int k 0)) (hsize:i.size=1) (hby:i.bytes=bytes)
  (v:Value) (ys:List Int) (hs:a.eval s=v) (hown:w.ownsRow base e 1 v ys.length (ys.map (Value.int k)))
  (vx:Value) (xs:List Int) (hx:a.eval x=vx) (hr:Rd k w vx xs)
  (h63:ys.length+xs.length≤maxLen) (hbytes:(ys.length+xs.length)*bytes≤140737488355328) (hbase:base≤w.heap.size)
  (h:∀v' w',w'.ownsRow base e 1 v' (ys++xs).length ((ys++xs).map (Value.int k))→w.grownBy w' v.ownBlock→K (a.put o.dst v') w'):o.wp P a w K Q:=by
 have h1:∀u∈xs.map (Value.int k),u.oneCell'=true:=by
  intro u hu
  simp only[List.mem_map] at hu
  obtain ⟨n,_,rfl⟩:=hu
  rfl
 rcases hr with ⟨ao,cap,rfl,hn,rfl⟩|⟨b,off,cap,rfl,h0,hc1,hc2,hc⟩
 ·cases ao with
  |none=>
   obtain rfl:=hn rfl
   have hrun:=run_append_owned_none (P:=P) (w:=w) base t o.type e i 1 ht hi v ys.length (ys.map (Value.int k)) hown
   unfold Oper.wp
   simp[execOp,ho,resolve,invoke,builtin,hs,hx,hrun,Result.andThen]
   exact h v w (by simpa using hown) ⟨rfl,rfl,rfl,Nat.le_refl _,fun _ _ _=>rfl⟩
  |some ad=>
   refine wp_append_own w s x t ho base e i (.int k 0) 1 bytes ht hi hz hsize hby rfl (by decide) v ys.length _ hs hown ad 0 cap [] hx rfl (by simp) (by simp) (by simpa using h63) (by simpa using hbytes) hbase ?_
   intro v' w' h2 h3 _
   exact h v' w' (by simpa using h2) h3
 ·refine wp_append_own w s x t ho base e i (.int k 0) 1 bytes ht hi hz hsize hby rfl (by decide) v ys.length _ hs hown ⟨b,off,none⟩ xs.length cap (xs.map (Value.int k)) hx (by simp) ?_ h1 h63 hbytes hbase ?_
  ·intro j u hj
   rw[List.getElem?_map] at hj
   cases hg:xs[j]? with
   |none=>rw[hg] at hj;cases hj
   |some n=>
    rw[hg] at hj
    simp at hj
    subst hj
    have hj2:j < xs.length:=by
     rcases Nat.lt_or_ge j xs.length with h|h
     ·exact h
     ·rw[List.getElem?_eq_none h] at hg;cases hg
    have:=hc j hj2
    rw[List.getD_eq_getElem?_getD,hg] at this
    simp at this
    by_cases hz:j=0
    ·subst hz;simpa [Addr.add] using this
    ·simpa [Addr.add,hz] using this
  ·intro v' w' h2 h3 _
   exact h v' w' (by simpa using h2) h3
theorem wpList_append_rd {P:Program} {w:World} {k:IntKind} {ops:Array Oper} {rest:List Oper} {o:Oper} {a:Act} {Q:Exit→Act→World→Prop} (hgd:o.guard=none) (s x:Operand) (t:TypeId)
  (ho:o.op= .call {callee:= .builtin .append,args:=#[s,x],argTypes:=#[t,t]})
  (base:Nat) (e:TypeId) (i:TypeInfo) (bytes:Nat) (ht:P.underlying t=some (.slice e)) (hi:P.info? e=some i) (hz:i.zero=some (.int k 0)) (hsize:i.size=1) (hby:i.bytes=bytes)
  (v:Value) (ys:List Int) (hs:a.eval s=v) (hown:w.ownsRow base e 1 v ys.length (ys.map (Value.int k)))
  (vx:Value) (xs:List Int) (hx:a.eval x=vx) (hr:Rd k w vx xs)
  (h63:ys.length+xs.length≤maxLen) (hbytes:(ys.length+xs.length)*bytes≤140737488355328) (hbase:base≤w.heap.size)
  (h:∀v' w',w'.ownsRow base e 1 v' (ys++xs).length ((ys++xs).map (Value.int k))→w.grownBy w' v.ownBlock→wpList P ops Q rest (a.put o.dst v') w'):wpList P ops Q (o::rest) a w:=
 wpList_plain hgd fun _ hK=>wp_append_rd s x t ho base e i bytes ht hi hz hsize hby v ys hs hown vx xs hx hr h63 hbytes hbase fun v' w' h2 h3=>hK _ _ (h v' w' h2 h3)
theorem rd_form {k:IntKind} {w:World} {v:Value} {xs:List Int} (h:Rd k w v xs):∃ao cap,v= .slice ao xs.length cap∧xs.length≤cap∧(ao=none→cap=0)∧
  (0 < xs.length→cap≤maxLen∧∃b off,ao=some ⟨b,off,none⟩∧∀i,i < xs.length→w.cell? ⟨b,off+i,none⟩=some (.int k (xs.getD i 0))):=by
 rcases h with ⟨ao,cap,rfl,h1,rfl⟩|⟨b,off,cap,rfl,h0,h1,h2,hc⟩
 ·exact ⟨ao,cap,rfl,Nat.zero_le _,h1,fun h=>by simp at h⟩
 ·exact ⟨_,cap,rfl,h1,(fun h=>by cases h),fun _=>⟨h2,b,off,rfl,hc⟩⟩
theorem rd_len {P:Program} {k:IntKind} {w:World} {v:Value} {xs:List Int} (h:Rd k w v xs) {t e:TypeId} (ht:P.underlying t=some (.slice e)) (ty:TypeId) (w':World):
  (Builtin.len_ #[t] ty #[v]).run P w'= .ok (.int .i64 xs.length) w':=by
 obtain ⟨ao,cap,rfl,_⟩:=rd_form h
 simp[Builtin.len_,run_underlying ht,goInt]
theorem rd_idx {P:Program} {k:IntKind} {w:World} {v:Value} {xs:List Int} (h:Rd k w v xs) {t:TypeId} (ht:P.underlying t=some (.slice (P.elem t))) (hs:∀w,(sizeOf (P.elem t)).run P w= .ok 1 w) (i:Int) (h0:0≤i) (h1:i < xs.length):
  ∃a:Addr,(∀w',(Instr.indexAt t v (.int .i64 i)).run P w'= .ok (.pointer (some a)) w')∧w.cell? a=some (.int k (xs.getD i.toNat 0)):=by
 obtain ⟨ao,cap,rfl,hc,hn,hx⟩:=rd_form h
 obtain ⟨hm,b,off,rfl,hcell⟩:=hx (by omega)
 refine ⟨⟨b,off+i.toNat,none⟩,fun w'=> ?_,hcell i.toNat (by omega)⟩
 rw[run_indexAt_slice (h:=ht),if_pos ⟨h0,h1⟩,hs]
 simp only[Result.andThen,Nat.mul_one]
 congr 3
 unfold Addr.add
 split
 ·rename_i hz;rw[hz];rfl
 ·rfl
theorem rd_one {k:IntKind} (w:World) (x:Int) (T:TypeId):Rd k (w.alloc (.cells #[.int k x] T)) (.slice (some ⟨w.heap.size,0,none⟩) 1 1) [x]:=
 Or.inr ⟨w.heap.size,0,1,rfl,by simp,by simp,by decide,fun i hi=>by
  have:i=0:=by simp at hi;omega
  subst this
  rw[World.cell?_alloc_new]
  rfl⟩
theorem rd_lit {k:IntKind} (w:World) (xs:List Int) (T:TypeId) (h0:0 < xs.length) (h1:xs.length≤maxLen):Rd k (w.alloc (.cells (xs.map (Value.int k)).toArray T)) (.slice (some ⟨w.heap.size,0,none⟩) xs.length xs.length) xs:=
 Or.inr ⟨w.heap.size,0,xs.length,rfl,h0,Nat.le_refl _,h1,fun i hi=>by
  rw[World.cell?_alloc_new]
  simp[List.getD_eq_getElem?_getD,List.getElem?_eq_getElem hi]⟩
theorem size_al (w:World) (o:Obj):(w.alloc o).heap.size=w.heap.size+1:=by unfold World.alloc;simp
theorem own_below {w w':World} {base:Nat} {e:TypeId} {v:Value} {n:Nat} {xs:List Value} (h:w.ownsRow base e 1 v n xs) (g:Below w.heap.size w w'):w'.ownsRow base e 1 v n xs:=by
 obtain ⟨hl,h⟩:=h
 refine ⟨hl, ?_⟩
 rcases h with h|⟨b,cap,cur,rfl,hb,hg,hc,hm,hs,ht⟩
 ·exact Or.inl h
 ·refine Or.inr ⟨b,cap,cur,rfl,hb, ?_,hc,hm,hs,ht⟩
  rw[g.block b (Array.getElem?_eq_some_iff.1 hg).1]
  exact hg
theorem box_below (w:World) (o:Obj):Below w.heap.size w (w.alloc o):=(Below.refl _ _).alloc (Nat.le_refl _) _
theorem rd_open {H:Type} {enc:TypeId×Value→H} {P:Program} {W:World} {t e:TypeId} {k:IntKind} {a:Option Addr} {len cap:Nat} {d:DataW H} {ps:List MemPlace}
  (ht:P.underlying t=some (.slice e)) (he:P.underlying e=some (.int k)) (hc:P.cellsOf e=1) (h:DataW.Trod enc P W 0 (fun _=>true) true t (.slice a len cap) d ps):
  ∃xs:List Int,Rd k W (.slice a len cap) xs∧(∀n∈xs,(Lit.int k n).wf=true)∧(xs=[]∨∃ys zs,d= .slice ys zs∧xs.length≤ys.length+zs.length):=by
 obtain ⟨fuel,hf⟩:=h
 rcases open_ints ht he hc hf with ⟨hcs,_⟩|⟨x,l,c,zs,hcs,_,hl,hm,hz,hd,hcell,hwz⟩
 ·simp[Value.cells] at hcs
  obtain ⟨rfl,rfl,rfl⟩:=hcs
  exact ⟨[],Rd_nil,fun n hn=>by simp at hn,Or.inl rfl⟩
 ·simp[Value.cells] at hcs
  obtain ⟨rfl,rfl,rfl⟩:=hcs
  have hz2:zs.length=cap:=by simpa using hz
  have hxl:(zs.take len).length=len:=by simp;omega
  refine ⟨zs.take len, ?_,fun n hn=>hwz n (List.mem_of_mem_take hn),Or.inr ⟨_,_,congrArg Prod.fst hd,by simp[lits]⟩⟩
  rcases Nat.eq_zero_or_pos len with h0|h0
  ·subst h0
   exact Or.inl ⟨some x,cap,rfl,(fun h=>by cases h),by simp⟩
  ·obtain ⟨b,off,spot⟩:=x
   have hc0:=hcell 0 (by omega)
   have hspot:spot=none:=by simpa [Addr.add] using World.cell?_spot hc0
   subst hspot
   refine Or.inr ⟨b,off,cap,by rw[hxl],by omega,by omega,hm,fun i hi=> ?_⟩
   have:=hcell i (by omega)
   have e1:(zs.take len).getD i 0=zs.getD i 0:=by
    rw[List.getD_eq_getElem?_getD,List.getD_eq_getElem?_getD,List.getElem?_take,if_pos (by omega)]
   rw[e1,←this]
   by_cases hi0:i=0
   ·subst hi0;simp[Addr.add]
   ·simp[Addr.add,hi0]
def LB (s:ByteArray):List Int:=s.data.toList.map fun c=>(c.toNat:Int)
def bytesL (xs:List Int):Prop:=∀x∈xs,0≤x∧x < 256
theorem LB_len (s:ByteArray):(LB s).length=s.size:=by simp[LB]
theorem LB_bytes (s:ByteArray):bytesL (LB s):=by
 intro x hx
 simp only[LB,List.mem_map] at hx
 obtain ⟨c,_,rfl⟩:=hx
 have:=c.toNat_lt
 omega
theorem LB_nums (xs:List Int) (h:bytesL xs):LB (strOfNums xs)=xs:=by
 simp only[LB,strOfNums_data,List.map_map]
 conv=>rhs;rw[←List.map_id xs]
 apply List.map_congr_left
 intro x hx
 have:=h x hx
 simp only[Function.comp,id]
 rw[UInt8.toNat_ofNat']
 omega
theorem nums_LB (s:ByteArray):strOfNums (LB s)=s:=by
 cases s with
 |mk d=>
  simp only[strOfNums,LB,List.map_map]
  congr 1
  rw[show ((fun n:Int=>UInt8.ofNat n.toNat) ∘ fun c:UInt8=>(c.toNat:Int))=id by funext c;simp]
  simp
theorem str_beq (A B:ByteArray):(A.toList==B.toList)=decide (A=B):=by
 rw[Bool.eq_iff_iff]
 simp only[beq_iff_eq,decide_eq_true_eq,ByteArray.toList_eq]
 constructor
 ·intro h
  cases A;cases B
  congr 1
  exact Array.ext' h
 ·intro h;rw[h]
theorem strCells_LB (s:ByteArray):Lib.strCells s=(LB s).map (Value.int .u8):=by simp[Lib.strCells,LB]
theorem rd_str {P:Program} {w:World} {v:Value} {xs:List Int} (h:Rd .u8 w v xs) {src dst e:TypeId} (hs:P.underlying src=some (.slice e)) (he:P.underlying e=some (.int .u8)) (hd:P.underlying dst=some .string):
  (convert src dst v).run P w= .ok (.string (strOfNums xs)) w:=by
 rcases h with ⟨ao,cap,rfl,hn,rfl⟩|⟨b,off,cap,rfl,h0,hc1,hc2,hc⟩
 ·cases ao with
  |none=>rw[run_convert_bytes_nil w src e hs he 0 cap dst hd];rfl
  |some a=>
   rw[run_convert_bytes_string w src dst e _ 0 cap hs he hd,run_bytesToString w a 0 cap [] (by simp[loadCells,loadCellsFrom])]
   rfl
 ·exact run_convert_bytes_arg w src e hs he b off xs.length cap xs rfl hc dst hd
theorem wpList_append_rds {P:Program} {w:World} {ops:Array Oper} {rest:List Oper} {o:Oper} {a:Act} {Q:Exit→Act→World→Prop} (hgd:o.guard=none) (s x:Operand) (t u:TypeId)
  (ho:o.op= .call {callee:= .builtin .append,args:=#[s,x],argTypes:=#[t,u]})
  (base:Nat) (e:TypeId) (i:TypeInfo) (ht:P.underlying t=some (.slice e)) (hu:P.underlying u=some .string) (hi:P.info? e=some i) (hz:i.zero=some (.int .u8 0)) (hsize:i.size=1) (hby:i.bytes=1)
  (v:Value) (ys:List Int) (hs:a.eval s=v) (hown:w.ownsRow base e 1 v ys.length (ys.map (Value.int .u8)))
  (S:ByteArray) (hx:a.eval x= .string S) (h63:ys.length+S.size≤maxLen) (hbytes:ys.length+S.size≤140737488355328) (hbase:base≤w.heap.size)
  (h:∀v' w',w'.ownsRow base e 1 v' (ys++LB S).length ((ys++LB S).map (Value.int .u8))→w.grownBy w' v.ownBlock→wpList P ops Q rest (a.put o.dst v') w'):wpList P ops Q (o::rest) a w:=by
 obtain ⟨v',w',hr,ho2,hg,_⟩:=Lib.run_append_own_string w base t u o.type e i ht hu hi hz hsize hby v ys.length _ hown S h63 hbytes hbase
 refine wpList_plain hgd fun _ hK=> ?_
 unfold Oper.wp
 simp[execOp,ho,resolve,invoke,builtin,hs,hx,hr,Result.andThen]
 refine hK _ _ (h v' w' ?_ hg)
 rw[strCells_LB] at ho2
 simpa [LB_len] using ho2
structure Tq where
 c:Int
 n:Int
 t:List Int
 o:Int
deriving DecidableEq
def bhF (c:Int):Nat:=
 if c=16 then 1 else if c=17∨c=195 then 2 else if c=18 then 3
 else if c=19∨c=20∨c=21∨c=22∨c=23∨c=24∨c=28∨c=198 then 4
 else if c=181 then 5 else if c=182∨c=202 then 6 else 0
def cdd (c:Int):Bool:=decide (c=0)||(decide (16≤c)&&decide (c≤4095))
def cbF (c:Int):List Int:=if c≤255 then [c] else [c / 256,c%256]
def offF (o:Int) (wide:Bool):Bool:=if wide then decide (-32768≤o)&&decide (o≤32767) else decide (-128≤o)&&decide (o≤127)
def nwF (n:Int):Bool:=decide (2048≤n)&&decide (n≤4095)
def okB (k:Nat) (t:Tq) (wide:Bool):Bool:=
 match k with
 |1=>decide (t.t=[])&&decide (t.o=0)
 |2=>decide (t.t=[])&&decide (t.o=0)&&cdd t.n
 |3=>decide (t.n=0)&&decide (t.o=0)&&decide (t.t.length≤255)
 |4=>decide (t.n=0)&&decide (t.t=[])&&offF t.o wide
 |5=>decide (t.t=[])&&decide (t.o=0)&&nwF t.n
 |6=>decide (t.o=0)&&decide (t.t.length≤31)&&nwF t.n
 |_=>decide (t.n=0)&&decide (t.t=[])&&decide (t.o=0)
def okQ (t:Tq) (wide:Bool):Bool:=cdd t.c&&okB (bhF t.c) t wide
def beQ (k:Nat) (t:Tq) (wide:Bool):List Int:=
 match k with
 |1=>[t.n / 16777216%256,t.n / 65536%256,t.n / 256%256,t.n%256]
 |2=>cbF t.n
 |3=>(t.t.length:Int)::t.t
 |4=>if wide then [t.o / 256%256,t.o%256] else [t.o%256]
 |5=>[t.n / 256%256,t.n%256]
 |6=>(t.t.length:Int)::(t.t++[t.n / 256%256,t.n%256])
 |_=>[]
def byQ (t:Tq) (wide:Bool):List Int:=cbF t.c++beQ (bhF t.c) t wide
theorem bh_le (c:Int):bhF c≤6:=by unfold bhF;split <;> (try split) <;> (try split) <;> (try split) <;> (try split) <;> (try split) <;> omega
def gQ (t:Tq):Prop:=0≤t.n∧t.n < 4294967296∧bytesL t.t
theorem cb_pos (c:Int):0 < (cbF c).length:=by unfold cbF;split <;> simp
theorem by_pos (t:Tq) (w:Bool):0 < (byQ t w).length:=by have:=cb_pos t.c;unfold byQ;rw[List.length_append];omega
theorem uB:Tryz.prog.underlying 29=some (.slice (Tryz.prog.elem 29)):=by kernel_rfl
theorem eB:Tryz.prog.elem 29=5:=by kernel_rfl
theorem zB (w:World):(sizeOf (Tryz.prog.elem 29)).run Tryz.prog w= .ok 1 w:=by rw[eB];exact Tryz.sizeOf5 w
theorem infoU8:(Tryz.prog.info? 5).map (fun i=>(i.zero,i.size,i.bytes))=some (some (.int .u8 0),1,1):=by kernel_rfl
theorem rd_strT {w:World} {v:Value} {xs:List Int} (h:Rd .u8 w v xs):(convert 29 9 v).run Tryz.prog w= .ok (.string (strOfNums xs)) w:=
 rd_str h Tryz.underlying29 Tryz.underlying5 Tryz.underlying9
def SlC (sz:Nat) (w:World) (v:Value) (rows:List (List Value)):Prop:=
 (∃ao cap,v= .slice ao 0 cap∧(ao=none→cap=0)∧rows=[])∨
 ∃b off cap,v= .slice (some ⟨b,off,none⟩) rows.length cap∧0 < rows.length∧rows.length≤cap∧cap≤maxLen∧
  ∀i,i < rows.length→(rows.getD i []).length=sz∧∀j,j < sz→w.cell? ⟨b,off+i*sz+j,none⟩=(rows.getD i [])[j]?
theorem SlC.below {sz:Nat} {w w':World} {v:Value} {rows:List (List Value)} (h:SlC sz w v rows) (g:Below w.heap.size w w'):SlC sz w' v rows:=by
 rcases h with h|⟨b,off,cap,rfl,h0,h1,h2,hc⟩
 ·exact Or.inl h
 ·refine Or.inr ⟨b,off,cap,rfl,h0,h1,h2,fun i hi=>⟨(hc i hi).1,fun j hj=> ?_⟩⟩
  have hl:=(hc i hi).1
  have e:=(hc i hi).2 j hj
  rw[List.getElem?_eq_getElem (by omega)] at e ⊢
  exact below_cell g e
theorem SlC.form {sz:Nat} {w:World} {v:Value} {rows:List (List Value)} (h:SlC sz w v rows):∃ao cap,v= .slice ao rows.length cap∧rows.length≤cap∧(ao=none→cap=0)∧
  (0 < rows.length→cap≤maxLen∧∃b off,ao=some ⟨b,off,none⟩∧∀i,i < rows.length→(rows.getD i []).length=sz∧∀j,j < sz→w.cell? ⟨b,off+i*sz+j,none⟩=(rows.getD i [])[j]?):=by
 rcases h with ⟨ao,cap,rfl,h1,rfl⟩|⟨b,off,cap,rfl,h0,h1,h2,hc⟩
 ·exact ⟨ao,cap,rfl,Nat.zero_le _,h1,fun h=>by simp at h⟩
 ·exact ⟨_,cap,rfl,h1,(fun h=>by cases h),fun _=>⟨h2,b,off,rfl,hc⟩⟩
def SlR {α:Type} (sz:Nat) (R:World→List Value→α→Prop) (w:World) (v:Value) (xs:List α):Prop:=
 ∃rows,SlC sz w v rows∧rows.length=xs.length∧∀i (h:i < xs.length),R w (rows.getD i []) xs[i]
theorem SlR.below {α:Type} {sz:Nat} {R:World→List Value→α→Prop} {w w':World} {v:Value} {xs:List α} (h:SlR sz R w v xs) (g:Below w.heap.size w w') (hR:∀cs x,R w cs x→R w' cs x):SlR sz R w' v xs:=by
 obtain ⟨rows,h1,h2,h3⟩:=h
 exact ⟨rows,h1.below g,h2,fun i hi=>hR _ _ (h3 i hi)⟩
theorem SlR.nil {α:Type} {sz:Nat} {R:World→List Value→α→Prop} {w:World}:SlR sz R w (.slice none 0 0) ([]:List α):=
 ⟨[],Or.inl ⟨none,0,rfl,fun _=>rfl,rfl⟩,rfl,fun i h=>by simp at h⟩
theorem slr_len {α:Type} {P:Program} {sz:Nat} {R:World→List Value→α→Prop} {w:World} {v:Value} {xs:List α} (h:SlR sz R w v xs) {t e:TypeId} (ht:P.underlying t=some (.slice e)) (ty:TypeId) (w':World):
  (Builtin.len_ #[t] ty #[v]).run P w'= .ok (.int .i64 xs.length) w':=by
 obtain ⟨rows,h1,h2,h3⟩:=h
 obtain ⟨ao,cap,rfl,_⟩:=h1.form
 simp[Builtin.len_,run_underlying ht,goInt,h2]
theorem slr_max {α:Type} {sz:Nat} {R:World→List Value→α→Prop} {w:World} {v:Value} {xs:List α} (h:SlR sz R w v xs):xs.length≤maxLen:=by
 obtain ⟨rows,h1,h2,h3⟩:=h
 rcases h1 with ⟨ao,cap,rfl,_,rfl⟩|⟨b,off,cap,rfl,h0,h1,h2',hc⟩
 ·simp at h2;omega
 ·omega
def lenOf:Value→Nat| .slice _ n _=>n|_=>0
theorem wpList_append_row {P:Program} {w:World} {ops:Array Oper} {rest:List Oper} {o:Oper} {a:Act} {Q:Exit→Act→World→Prop} (hgd:o.guard=none) (s x:Operand) (t:TypeId)
  (ho:o.op= .call {callee:= .builtin .append,args:=#[s,x],argTypes:=#[t,t]})
  (base:Nat) (e:TypeId) (i:TypeInfo) (z:Value) (sz bytes:Nat) (ht:P.underlying t=some (.slice e)) (hi:P.info? e=some i) (hz:i.zero=some z) (hsize:i.size=sz) (hby:i.bytes=bytes) (hzs:z.cells.size=sz) (hsz:0 < sz)
  (v:Value) (n:Nat) (cs:List Value) (hs:a.eval s=v) (hown:w.ownsRow base e sz v n cs)
  (b:Nat) (row:List Value) (hx:a.eval x= .slice (some ⟨b,0,none⟩) 1 1) (hl:row.length=sz) (hc:∀j u,row[j]? =some u→w.cell? ⟨b,j,none⟩=some u) (h1:∀u∈row,u.oneCell'=true)
  (h63:n+1≤maxLen) (hbytes:(n+1)*bytes≤140737488355328) (hbase:base≤w.heap.size)
  (h:∀v' w',w'.ownsRow base e sz v' (n+1) (cs++row)→w.grownBy w' v.ownBlock→wpList P ops Q rest (a.put o.dst v') w'):wpList P ops Q (o::rest) a w:=by
 refine wpList_plain hgd fun _ hK=> ?_
 refine wp_append_own w s x t ho base e i z sz bytes ht hi hz hsize hby hzs hsz v n cs hs hown ⟨b,0,none⟩ 1 1 row hx (by omega) ?_ h1 h63 hbytes hbase ?_
 ·intro j u hj
  have:=hc j u hj
  by_cases hz:j=0
  ·subst hz;simpa [Addr.add] using this
  ·simpa [Addr.add,hz] using this
 ·intro v' w' h2 h3 _
  exact hK _ _ (h v' w' h2 h3)
theorem alloc_row (w:World) (row:List Value) (T:TypeId):∀j u,row[j]? =some u→(w.alloc (.cells row.toArray T)).cell? ⟨w.heap.size,j,none⟩=some u:=by
 intro j u h
 rw[World.cell?_alloc_new]
 simpa using h
theorem slr_rows {α:Type} {R:World→List Value→α→Prop} {w:World} {base:Nat} {e:TypeId} {v:Value} {n sz:Nat} {xs:List α} (f:α→List Value) (hf:∀x∈xs,(f x).length=sz) (hsz:0 < sz) (h:w.ownsRow base e sz v n (xs.flatMap f)) (hR:∀x∈xs,R w (f x) x):SlR sz R w v xs:=by
 obtain ⟨hl,h⟩:=h
 have hlen:∀ys:List α,(∀x∈ys,(f x).length=sz)→(ys.flatMap f).length=ys.length*sz:=by
  intro ys
  induction ys with
  |nil=>intro _;simp
  |cons y ys ih=>
   intro hy
   rw[List.flatMap_cons,List.length_append,ih (fun x hx=>hy x (by simp[hx])),hy y (by simp),List.length_cons,Nat.add_mul,Nat.one_mul]
   omega
 have hn:n=xs.length:=by
  rw[hlen xs hf] at hl
  exact (Nat.eq_of_mul_eq_mul_right hsz hl).symm
 have hat:∀(ys:List α) (i:Nat) (hi:i < ys.length),(∀x∈ys,(f x).length=sz)→∀j,j < sz→(ys.flatMap f)[i*sz+j]? =(f ys[i])[j]? :=by
  intro ys
  induction ys with
  |nil=>intro i hi;simp at hi
  |cons y ys ih=>
   intro i hi hy j hj
   have hy0:=hy y (by simp)
   rw[List.flatMap_cons]
   cases i with
   |zero=>
    rw[List.getElem?_append_left (by omega)]
    simp
   |succ i=>
    rw[Nat.add_mul,Nat.one_mul,List.getElem?_append_right (by omega),show i*sz+sz+j - (f y).length=i*sz+j by omega]
    exact ih i (by simpa using hi) (fun x hx=>hy x (by simp[hx])) j hj
 refine ⟨xs.map f, ?_,by simp,fun i hi=> ?_⟩
 ·rcases h with ⟨rfl,h0⟩|⟨g,cap,cur,rfl,hb,hg,hc,hm,hs,ht⟩
  ·have:xs=[]:=List.eq_nil_of_length_eq_zero (by omega)
   subst this
   exact Or.inl ⟨none,0,rfl,fun _=>rfl,rfl⟩
  ·rcases Nat.eq_zero_or_pos xs.length with h0|h0
   ·have:xs=[]:=List.eq_nil_of_length_eq_zero h0
    subst this
    exact Or.inl ⟨_,_,by rw[hn];rfl,(fun h=>by cases h),rfl⟩
   ·refine Or.inr ⟨g,0,cap,by rw[hn,List.length_map],by rw[List.length_map];exact h0,by rw[List.length_map];omega,hm,fun i hi=> ?_⟩
    have hi2:i < xs.length:=by simpa using hi
    have e1:(xs.map f).getD i []=f xs[i]:=by simp[List.getD_eq_getElem?_getD,List.getElem?_eq_getElem hi2]
    rw[e1]
    refine ⟨hf _ (List.getElem_mem hi2),fun j hj=> ?_⟩
    have e2:=hat xs i hi2 hf j hj
    have hlt:i*sz+j < n*sz:=by
     have:(i+1)*sz≤n*sz:=Nat.mul_le_mul_right _ (by omega)
     rw[Nat.add_mul,Nat.one_mul] at this
     omega
    rw[←ht,List.getElem?_take,if_pos hlt] at e2
    rw[←e2]
    simp[World.cell?,hg]
 ·have e1:(xs.map f).getD i []=f xs[i]:=by simp[List.getD_eq_getElem?_getD,List.getElem?_eq_getElem hi]
  rw[e1]
  exact hR _ (List.getElem_mem hi)
theorem own_le {w:World} {b b':Nat} {e:TypeId} {sz:Nat} {v:Value} {n:Nat} {cs:List Value} (h:b≤b') (o:w.ownsRow b' e sz v n cs):w.ownsRow b e sz v n cs:=by
 obtain ⟨hl,o⟩:=o
 refine ⟨hl, ?_⟩
 rcases o with o|⟨g,cap,cur,rfl,hb,o⟩
 ·exact Or.inl o
 ·exact Or.inr ⟨g,cap,cur,rfl,by omega,o⟩
theorem own_form {w:World} {b:Nat} {e:TypeId} {sz:Nat} {v:Value} {n:Nat} {cs:List Value} (o:w.ownsRow b e sz v n cs):∃ao cap,v= .slice ao n cap:=by
 obtain ⟨hl,o⟩:=o
 rcases o with ⟨rfl,h0⟩|⟨g,cap,cur,rfl,o⟩
 ·exact ⟨none,0,by rw[h0]⟩
 ·exact ⟨_,_,rfl⟩
theorem alloc_row2 (w:World) (A:Obj) (row:List Value) (T:TypeId):∀j u,row[j]? =some u→((w.alloc A).alloc (.cells row.toArray T)).cell? ⟨w.heap.size+1,j,none⟩=some u:=by
 intro j u h
 have:=alloc_row (w.alloc A) row T j u h
 rwa [size_al] at this
def Stands (w:World) (b:Nat) (cs:Array Value) (T:TypeId):Prop:=w.heap[b]? =some (.cells cs T (0,0))
theorem stands_new (w:World) (cs:Array Value) (T:TypeId):Stands (w.alloc (.cells cs T)) w.heap.size cs T:=heap_alloc_new w _
theorem Stands.below {w w':World} {b:Nat} {cs:Array Value} {T:TypeId} (h:Stands w b cs T) (g:Below w.heap.size w w'):Stands w' b cs T:=by
 unfold Stands at h ⊢
 rw[g.block b (Array.getElem?_eq_some_iff.1 h).1]
 exact h
theorem Stands.cell {w:World} {b:Nat} {cs:Array Value} {T:TypeId} (h:Stands w b cs T) (j:Nat) (u:Value) (hj:cs[j]? =some u):w.cell? ⟨b,j,none⟩=some u:=by
 unfold Stands at h
 simp[World.cell?,h,hj]
theorem Stands.free {w:World} {b:Nat} {cs:Array Value} {T:TypeId} (h:Stands w b cs T) (j:Nat):w.frozen? ⟨b,j,none⟩=false:=by
 unfold Stands at h
 simp[World.frozen?,h]
theorem Stands.set {w:World} {b:Nat} {cs:Array Value} {T:TypeId} (h:Stands w b cs T) (j:Nat) (u:Value):Stands (w.setCell ⟨b,j,none⟩ u) b (cs.setIfInBounds j u) T:=by
 unfold Stands at h ⊢
 have hb:=(Array.getElem?_eq_some_iff.1 h).1
 have e:w.heap[b]= .cells cs T (0,0):=(Array.getElem?_eq_some_iff.1 h).2
 simp only[World.setCell]
 rw[Array.getElem?_modify,if_pos rfl,Array.getElem?_eq_getElem hb,e]
 rfl
theorem Stands.other {w:World} {b b':Nat} {cs:Array Value} {T:TypeId} (h:Stands w b cs T) (j:Nat) (u:Value) (hb:b≠b'):Stands (w.setCell ⟨b',j,none⟩ u) b cs T:=by
 unfold Stands at h ⊢
 simp only[World.setCell]
 rw[Array.getElem?_modify,if_neg (by omega)]
 exact h
theorem below_set {w w':World} (h:Below w.heap.size w w') (g j:Nat) (u:Value) (hg:w.heap.size≤g):Below w.heap.size w (w'.setCell ⟨g,j,none⟩ u):=by
 refine ⟨h.os,h.tape,h.output,by simpa [World.setCell] using h.size,fun k hk=> ?_⟩
 rw[←h.block k hk]
 simp only[World.setCell]
 rw[Array.getElem?_modify,if_neg (by omega)]
theorem stands_apart {w:World} {b:Nat} {cs:Array Value} {T:TypeId} {base:Nat} {e:TypeId} {v:Value} {n sz:Nat} {xs:List Value} (h:Stands w b cs T) (o:w.ownsRow base e sz v n xs) (ht:¬e=T):some b≠v.ownBlock:=by
 obtain ⟨hl,o⟩:=o
 rcases o with ⟨rfl,h0⟩|⟨g,cap,cur,rfl,hb,hg,o⟩
 ·simp[Value.ownBlock]
 ·intro hh
  simp[Value.ownBlock] at hh
  subst hh
  unfold Stands at h
  rw[h] at hg
  simp at hg
  exact ht hg.2.symm
theorem Stands.grown {w w':World} {b:Nat} {cs:Array Value} {T:TypeId} {row:Option Nat} (h:Stands w b cs T) (g:w.grownBy w' row) (hr:some b≠row):Stands w' b cs T:=by
 unfold Stands at h ⊢
 rw[g.block b (Array.getElem?_eq_some_iff.1 h).1 hr]
 exact h
def Kept (T:TypeId) (w w':World):Prop:=∃row,w.grownBy w' row∧∀g,row=some g→∃cur fr,w.heap[g]? =some (.cells cur T fr)
theorem grown_none {w w':World} (h:Below w.heap.size w w'):w.grownBy w' none:=⟨h.os,h.tape,h.output,h.size,fun k hk _=>h.block k hk⟩
theorem Kept.below {T:TypeId} {w w':World} (h:Below w.heap.size w w'):Kept T w w':=⟨none,grown_none h,fun g hg=>by cases hg⟩
theorem Kept.own {base:Nat} {e:TypeId} {sz:Nat} {w w':World} {v:Value} {n:Nat} {cs:List Value} (o:w.ownsRow base e sz v n cs) (g:w.grownBy w' v.ownBlock):Kept e w w':=by
 refine ⟨_,g,fun k hk=> ?_⟩
 obtain ⟨_,o⟩:=o
 rcases o with ⟨rfl,_⟩|⟨k',cap,cur,rfl,_,h1,_⟩
 ·simp[Value.ownBlock] at hk
 ·simp[Value.ownBlock] at hk
  subst hk
  exact ⟨cur,_,h1⟩
theorem Kept.stands {b:Nat} {cs:Array Value} {T:TypeId} {w w':World} (h:Stands w b cs T) (g:w.grownBy w' (some b)):Kept T w w':=
 ⟨_,g,fun k hk=>by cases hk;exact ⟨cs,_,h⟩⟩
def Apt {α:Type} (T:TypeId) (O:World→List Value→α→Prop):Prop:=∀w w' cs x,Kept T w w'→O w cs x→O w' cs x
theorem own_kept {T:TypeId} {w w':World} (k:Kept T w w') {base:Nat} {e:TypeId} {sz:Nat} {v:Value} {n:Nat} {cs:List Value} (hne:¬e=T) (o:w.ownsRow base e sz v n cs):w'.ownsRow base e sz v n cs:=by
 obtain ⟨row,g,hr⟩:=k
 obtain ⟨hl,o⟩:=o
 refine ⟨hl, ?_⟩
 rcases o with o|⟨b,cap,cur,rfl,hb,h1,o⟩
 ·exact Or.inl o
 ·refine Or.inr ⟨b,cap,cur,rfl,hb, ?_,o⟩
  rw[g.block b (Array.getElem?_eq_some_iff.1 h1).1 (fun e0=> ?_)]
  ·exact h1
  ·obtain ⟨cur',fr,h2⟩:=hr b e0.symm
   rw[h1] at h2
   simp at h2
   exact hne h2.2.1
theorem stands_kept {T:TypeId} {w w':World} (k:Kept T w w') {b:Nat} {cs:Array Value} {e:TypeId} (hne:¬e=T) (h:Stands w b cs e):Stands w' b cs e:=by
 obtain ⟨row,g,hr⟩:=k
 unfold Stands at h ⊢
 rw[g.block b (Array.getElem?_eq_some_iff.1 h).1 (fun e0=> ?_)]
 ·exact h
 ·obtain ⟨cur',fr,h2⟩:=hr b e0.symm
  rw[h] at h2
  simp at h2
  exact hne h2.2.1
def OwnR {α:Type} (e:TypeId) (sz:Nat) (O:World→List Value→α→Prop) (base:Nat) (w:World) (v:Value) (xs:List α):Prop:=
 ∃rows:List (List Value),rows.length=xs.length∧(∀r∈rows,r.length=sz)∧w.ownsRow base e sz v xs.length rows.flatten∧∀i (h:i < xs.length),O w (rows.getD i []) xs[i]
theorem OwnR.nil {α:Type} (e:TypeId) (sz:Nat) (O:World→List Value→α→Prop) (base:Nat) (w:World):OwnR e sz O base w (.slice none 0 0) ([]:List α):=⟨[],rfl,by simp,World.ownsRow_nil _ _ _ _,fun i hi=>by simp at hi⟩
theorem OwnR.row {α:Type} {e:TypeId} {sz:Nat} {O:World→List Value→α→Prop} {base:Nat} {w:World} {v:Value} {xs:List α} (h:OwnR e sz O base w v xs):∃cs,w.ownsRow base e sz v xs.length cs:=by
 obtain ⟨rows,_,_,h3,_⟩:=h
 exact ⟨_,h3⟩
theorem OwnR.read {α:Type} {e:TypeId} {sz:Nat} {O R:World→List Value→α→Prop} {base:Nat} {w:World} {v:Value} {xs:List α} (hsz:0 < sz) (h:OwnR e sz O base w v xs) (hR:∀cs x,O w cs x→R w cs x):SlR sz R w v xs:=by
 obtain ⟨rows,h1,h2,h3,h4⟩:=h
 have h5:SlR sz (fun _ cs (r:List Value)=>cs=r) w v rows:=slr_rows (n:=xs.length) (e:=e) (base:=base) id h2 hsz (by simpa [List.flatMap_id] using h3) (fun _ _=>rfl)
 obtain ⟨rows',k1,k2,k3⟩:=h5
 have e0:rows'=rows:=by
  apply List.ext_getElem k2
  intro i hi hj
  have:=k3 i hj
  rw[List.getD_eq_getElem?_getD,List.getElem?_eq_getElem hi] at this
  simpa using this
 subst e0
 exact ⟨rows',k1,h1,fun i hi=>hR _ _ (h4 i hi)⟩
theorem OwnR.kept {α:Type} {T e:TypeId} {sz:Nat} {O:World→List Value→α→Prop} {base:Nat} {w w':World} {v:Value} {xs:List α} (h:OwnR e sz O base w v xs) (k:Kept T w w') (hne:¬e=T) (ha:Apt T O):OwnR e sz O base w' v xs:=by
 obtain ⟨rows,h1,h2,h3,h4⟩:=h
 exact ⟨rows,h1,h2,own_kept k hne h3,fun i hi=>ha _ _ _ _ k (h4 i hi)⟩
theorem OwnR.below {α:Type} {e:TypeId} {sz:Nat} {O:World→List Value→α→Prop} {base:Nat} {w w':World} {v:Value} {xs:List α} (h:OwnR e sz O base w v xs) (g:Below w.heap.size w w') (hO:∀cs x,O w cs x→O w' cs x):OwnR e sz O base w' v xs:=by
 obtain ⟨rows,h1,h2,⟨hl,h3⟩,h4⟩:=h
 refine ⟨rows,h1,h2,⟨hl, ?_⟩,fun i hi=>hO _ _ (h4 i hi)⟩
 rcases h3 with h|⟨b,cap,cur,rfl,hb,hg,hc⟩
 ·exact Or.inl h
 ·refine Or.inr ⟨b,cap,cur,rfl,hb, ?_,hc⟩
  rw[g.block b (Array.getElem?_eq_some_iff.1 hg).1]
  exact hg
theorem OwnR.le {α:Type} {e:TypeId} {sz:Nat} {O O':World→List Value→α→Prop} {base base':Nat} {w:World} {v:Value} {xs:List α} (hb:base'≤base) (h:OwnR e sz O base w v xs) (hO:∀cs x,O w cs x→O' w cs x):OwnR e sz O' base' w v xs:=by
 obtain ⟨rows,h1,h2,h3,h4⟩:=h
 exact ⟨rows,h1,h2,own_le hb h3,fun i hi=>hO _ _ (h4 i hi)⟩
theorem flat_set {α:Type}:∀(rows:List (List α)) (sz i j:Nat) (u:α),(∀r∈rows,r.length=sz)→i < rows.length→j < sz→rows.flatten.set (i*sz+j) u=(rows.set i ((rows.getD i []).set j u)).flatten
 |[],sz,i,j,u,_,hi,_=>by simp at hi
 |r::rows,sz,0,j,u,h,hi,hj=>by
  have hr:=h r (by simp)
  simp only[List.flatten_cons,Nat.zero_mul,Nat.zero_add,List.set_cons_zero,List.getD_cons_zero]
  rw[List.set_append_left _ _ (by omega)]
 |r::rows,sz,i+1,j,u,h,hi,hj=>by
  have hr:=h r (by simp)
  have ih:=flat_set rows sz i j u (fun x hx=>h x (by simp[hx])) (by simpa using hi) hj
  simp only[List.flatten_cons,List.set_cons_succ,List.getD_cons_succ]
  rw[List.set_append_right _ _ (by rw[hr,Nat.add_mul];omega),hr,show (i+1)*sz+j - sz=i*sz+j by rw[Nat.add_mul];omega,ih]
theorem OwnR.set {α:Type} {e:TypeId} {sz:Nat} {O:World→List Value→α→Prop} {base:Nat} {w:World} {g n cap:Nat} {xs:List α} {rows:List (List Value)} (ha:Apt e O) (h1:rows.length=xs.length) (h2:∀r∈rows,r.length=sz) (h3:w.ownsRow base e sz (.slice (some ⟨g,0,none⟩) n cap) xs.length rows.flatten) (h4:∀i (h:i < xs.length),O w (rows.getD i []) xs[i])
  (i j:Nat) (hi:i < xs.length) (hj:j < sz) (u:Value) (x:α) (hx:O (w.setCell ⟨g,i*sz+j,none⟩ u) ((rows.getD i []).set j u) x):OwnR e sz O base (w.setCell ⟨g,i*sz+j,none⟩ u) (.slice (some ⟨g,0,none⟩) n cap) (xs.set i x)∧Kept e w (w.setCell ⟨g,i*sz+j,none⟩ u):=by
 have hn:n=xs.length:=by
  obtain ⟨_,h3⟩:=h3
  rcases h3 with ⟨h,_⟩|⟨g',cap',cur,h,_⟩
  ·simp at h
  ·simp at h;exact h.2.1
 subst hn
 obtain ⟨s1,s2⟩:=h3.stored (i*sz+j) u
 have k:Kept e w (w.setCell ⟨g,i*sz+j,none⟩ u):=Kept.own (v:= .slice (some ⟨g,0,none⟩) xs.length cap) h3 (by simpa [Value.ownBlock] using s2)
 rw[flat_set rows sz i j u h2 (by omega) hj] at s1
 refine ⟨⟨rows.set i ((rows.getD i []).set j u),by simp[h1],fun r hm=> ?_,by simpa using s1,fun m hm=> ?_⟩,k⟩
 ·rcases List.mem_or_eq_of_mem_set hm with hm|rfl
  ·exact h2 r hm
  ·rw[List.length_set,List.getD_eq_getElem?_getD,List.getElem?_eq_getElem (by omega)]
   exact h2 _ (List.getElem_mem _)
 ·rw[List.length_set] at hm
  rw[List.getElem_set]
  by_cases him:i=m
  ·subst him
   rw[if_pos rfl,List.getD_eq_getElem?_getD,List.getElem?_set_self (by omega)]
   exact hx
  ·rw[if_neg him,List.getD_eq_getElem?_getD,List.getElem?_set_ne him,←List.getD_eq_getElem?_getD]
   exact ha _ _ _ _ k (h4 m hm)
theorem flat_get {α:Type}:∀(rows:List (List α)) (sz i j:Nat),(∀r∈rows,r.length=sz)→i < rows.length→j < sz→rows.flatten[i*sz+j]? =(rows.getD i [])[j]?
 |[],sz,i,j,_,hi,_=>by simp at hi
 |r::rows,sz,0,j,h,hi,hj=>by
  have hr:=h r (by simp)
  simp only[List.flatten_cons,Nat.zero_mul,Nat.zero_add,List.getD_cons_zero]
  rw[List.getElem?_append_left (by omega)]
 |r::rows,sz,i+1,j,h,hi,hj=>by
  have hr:=h r (by simp)
  have ih:=flat_get rows sz i j (fun x hx=>h x (by simp[hx])) (by simpa using hi) hj
  simp only[List.flatten_cons,List.getD_cons_succ]
  rw[List.getElem?_append_right (by rw[hr,Nat.add_mul];omega),hr,show (i+1)*sz+j - sz=i*sz+j by rw[Nat.add_mul];omega,ih]
theorem flat_len {α:Type} (rows:List (List α)) (sz:Nat) (h:∀r∈rows,r.length=sz):rows.flatten.length=rows.length*sz:=by
 induction rows with
 |nil=>simp
 |cons r rows ih=>
  rw[List.flatten_cons,List.length_append,ih (fun x hx=>h x (by simp[hx])),h r (by simp),List.length_cons,Nat.add_mul]
  omega
theorem wp_append_rows {P:Program} {w:World} {o:Oper} {a:Act} {K:Act→World→Prop} {Q:Exit→Act→World→Prop} (s x:Operand) (t:TypeId)
  (ho:o.op= .call {callee:= .builtin .append,args:=#[s,x],argTypes:=#[t,t]})
  (base:Nat) (e:TypeId) (i:TypeInfo) (z:Value) (sz bytes:Nat) (ht:P.underlying t=some (.slice e)) (hi:P.info? e=some i) (hz:i.zero=some z) (hsize:i.size=sz) (hby:i.bytes=bytes) (hzs:z.cells.size=sz) (hsz:0 < sz)
  (v:Value) (n:Nat) (cs:List Value) (hs:a.eval s=v) (hown:w.ownsRow base e sz v n cs)
  (vx:Value) (rows:List (List Value)) (hx:a.eval x=vx) (hr:SlC sz w vx rows) (h1:∀r∈rows,∀u∈r,u.oneCell'=true)
  (h63:n+rows.length≤maxLen) (hbytes:(n+rows.length)*bytes≤140737488355328) (hbase:base≤w.heap.size)
  (h:∀v' w',w'.ownsRow base e sz v' (n+rows.length) (cs++rows.flatten)→w.grownBy w' v.ownBlock→K (a.put o.dst v') w'):o.wp P a w K Q:=by
 rcases hr with ⟨ao,cap,rfl,hn,rfl⟩|⟨b,off,cap,rfl,h0,hc1,hc2,hc⟩
 ·cases ao with
  |none=>
   obtain rfl:=hn rfl
   have hrun:=run_append_owned_none (P:=P) (w:=w) base t o.type e i sz ht hi v n cs hown
   unfold Oper.wp
   simp[execOp,ho,resolve,invoke,builtin,hs,hx,hrun,Result.andThen]
   exact h v w (by simpa using hown) ⟨rfl,rfl,rfl,Nat.le_refl _,fun _ _ _=>rfl⟩
  |some ad=>
   refine wp_append_own w s x t ho base e i z sz bytes ht hi hz hsize hby hzs hsz v n _ hs hown ad 0 cap [] hx (by simp) (by simp) (by simp) (by simpa using h63) (by simpa using hbytes) hbase ?_
   intro v' w' h2 h3 _
   exact h v' w' (by simpa using h2) h3
 ·have hlen:∀r∈rows,r.length=sz:=by
   intro r hr
   obtain ⟨k,hk,rfl⟩:=List.getElem_of_mem hr
   have:=(hc k hk).1
   rwa [List.getD_eq_getElem?_getD,List.getElem?_eq_getElem hk] at this
  refine wp_append_own w s x t ho base e i z sz bytes ht hi hz hsize hby hzs hsz v n _ hs hown ⟨b,off,none⟩ rows.length cap rows.flatten hx (flat_len rows sz hlen) ?_ (fun u hu=> ?_) h63 hbytes hbase ?_
  ·intro j u hj
   have hjl:j < rows.length*sz:=by
    rw[←flat_len rows sz hlen]
    rcases Nat.lt_or_ge j rows.flatten.length with g|g
    ·exact g
    ·rw[List.getElem?_eq_none g] at hj;cases hj
   have hdm:=Nat.div_add_mod j sz
   have hq:j / sz < rows.length:=(Nat.div_lt_iff_lt_mul hsz).2 hjl
   have hm:=Nat.mod_lt j hsz
   have e1:=flat_get rows sz (j / sz) (j%sz) hlen hq hm
   have e2:j / sz*sz+j%sz=j:=by rw[Nat.mul_comm];exact hdm
   rw[e2,hj] at e1
   have e3:=(hc (j / sz) hq).2 (j%sz) hm
   rw[←e1,Nat.add_assoc,e2] at e3
   by_cases hz:j=0
   ·subst hz;simpa [Addr.add] using e3
   ·simpa [Addr.add,hz] using e3
  ·rw[List.mem_flatten] at hu
   obtain ⟨r,hr,hu⟩:=hu
   exact h1 r hr u hu
  ·intro v' w' h2 h3 _
   exact h v' w' h2 h3
theorem wpList_append_rows {P:Program} {w:World} {ops:Array Oper} {rest:List Oper} {o:Oper} {a:Act} {Q:Exit→Act→World→Prop} (hgd:o.guard=none) (s x:Operand) (t:TypeId)
  (ho:o.op= .call {callee:= .builtin .append,args:=#[s,x],argTypes:=#[t,t]})
  (base:Nat) (e:TypeId) (i:TypeInfo) (z:Value) (sz bytes:Nat) (ht:P.underlying t=some (.slice e)) (hi:P.info? e=some i) (hz:i.zero=some z) (hsize:i.size=sz) (hby:i.bytes=bytes) (hzs:z.cells.size=sz) (hsz:0 < sz)
  (v:Value) (n:Nat) (cs:List Value) (hs:a.eval s=v) (hown:w.ownsRow base e sz v n cs)
  (vx:Value) (rows:List (List Value)) (hx:a.eval x=vx) (hr:SlC sz w vx rows) (h1:∀r∈rows,∀u∈r,u.oneCell'=true)
  (h63:n+rows.length≤maxLen) (hbytes:(n+rows.length)*bytes≤140737488355328) (hbase:base≤w.heap.size)
  (h:∀v' w',w'.ownsRow base e sz v' (n+rows.length) (cs++rows.flatten)→w.grownBy w' v.ownBlock→wpList P ops Q rest (a.put o.dst v') w'):wpList P ops Q (o::rest) a w:=
 wpList_plain hgd fun _ hK=>wp_append_rows s x t ho base e i z sz bytes ht hi hz hsize hby hzs hsz v n cs hs hown vx rows hx hr h1 h63 hbytes hbase fun v' w' h2 h3=>hK _ _ (h v' w' h2 h3)
theorem slc_one (w:World) (row:List Value) (T:TypeId) (sz:Nat) (h:row.length=sz):SlC sz (w.alloc (.cells row.toArray T)) (.slice (some ⟨w.heap.size,0,none⟩) 1 1) [row]:=by
 refine Or.inr ⟨w.heap.size,0,1,rfl,by simp,by simp,by decide,fun i hi=> ?_⟩
 have:i=0:=by simp at hi;omega
 subst this
 refine ⟨by simpa using h,fun j hj=> ?_⟩
 rw[World.cell?_alloc_new]
 simp
theorem slr_idxN {α:Type} {P:Program} {R:World→List Value→α→Prop} {w:World} {v:Value} {xs:List α} {sz:Nat} (h:SlR sz R w v xs) {t:TypeId} (ht:P.underlying t=some (.slice (P.elem t))) (hs:∀w,(sizeOf (P.elem t)).run P w= .ok sz w) (i:Nat) (h1:i < xs.length):
  ∃(b o:Nat) (cs:List Value),(∀w',(Instr.indexAt t v (.int .i64 (i:Int))).run P w'= .ok (.pointer (some ⟨b,o,none⟩)) w')∧cs.length=sz∧(∀j,j < sz→w.cell? ⟨b,o+j,none⟩=cs[j]?)∧R w cs xs[i]:=by
 obtain ⟨rows,g1,g2,g3⟩:=h
 obtain ⟨ao,cap,rfl,hc,hn,hx⟩:=g1.form
 obtain ⟨hm,b,off,rfl,hcell⟩:=hx (by omega)
 obtain ⟨l1,l2⟩:=hcell i (by omega)
 refine ⟨b,off+i*sz,rows.getD i [],fun w'=> ?_,l1,fun j hj=>l2 j hj,g3 i h1⟩
 rw[run_indexAt_slice (h:=ht),if_pos ⟨by omega,by omega⟩,hs]
 simp only[Result.andThen,Int.toNat_natCast]
 congr 3
 unfold Addr.add
 split
 ·rename_i hz;rw[hz];rfl
 ·rfl
theorem slr_slice {α:Type} {R:World→List Value→α→Prop} {sz:Nat} {w:World} {v:Value} {xs:List α} (h:SlR sz R w v xs):∃ao cap,v= .slice ao xs.length cap:=by
 obtain ⟨rows,h1,h2,_⟩:=h
 obtain ⟨ao,cap,rfl,_⟩:=h1.form
 exact ⟨ao,cap,by rw[h2]⟩
theorem set_kept {w:World} {b:Nat} {cs:Array Value} {T:TypeId} (h:Stands w b cs T) (j:Nat) (u:Value):Kept T w (w.setCell ⟨b,j,none⟩ u):=by
 refine Kept.stands h ⟨rfl,rfl,rfl,by simp,fun k hk hne=> ?_⟩
 exact Below.heap_setCell _ _ _ k (fun e=>hne (by rw[e]))
theorem own_some {w:World} {base:Nat} {e:TypeId} {sz:Nat} {v:Value} {n:Nat} {cs:List Value} (o:w.ownsRow base e sz v n cs) (h:0 < n):∃g cap,v= .slice (some ⟨g,0,none⟩) n cap:=by
 rcases o.2 with ⟨_,h0⟩|⟨g,cap,cur,hv,_⟩
 ·omega
 ·exact ⟨g,cap,hv⟩
theorem own_cell {w:World} {base:Nat} {e:TypeId} {sz g n cap:Nat} {cs:List Value} (o:w.ownsRow base e sz (.slice (some ⟨g,0,none⟩) n cap) n cs) (j:Nat) (u:Value) (h:cs[j]? =some u):w.cell? ⟨g,j,none⟩=some u:=by
 have h1:=o.cells (g:=g) rfl j u h
 have e1:(⟨g,0,none⟩:Addr).add j=⟨g,j,none⟩:=by
  unfold Addr.add
  split
  ·rename_i hz;rw[hz]
  ·simp
 rwa [e1] at h1
theorem grown_below {w w':World} {r:Option Nat} (g:w.grownBy w' r) {e:TypeId} {sz base:Nat} {v:Value} {n:Nat} {cs:List Value} (o:w.ownsRow base e sz v n cs) (hne:∀k,v.ownBlock=some k→r≠some k):w'.ownsRow base e sz v n cs:=by
 obtain ⟨hl,o⟩:=o
 refine ⟨hl, ?_⟩
 rcases o with h|⟨b,cap,cur,rfl,h1,h2,h3⟩
 ·exact Or.inl h
 ·refine Or.inr ⟨b,cap,cur,rfl,h1, ?_,h3⟩
  rw[g.block b (Array.getElem?_eq_some_iff.1 h2).1 (fun e=>hne b rfl e.symm)]
  exact h2
theorem gb_refl (w:World) (r:Option Nat):w.grownBy w r:=⟨rfl,rfl,rfl,Nat.le_refl _,fun _ _ _=>rfl⟩
theorem gb_below {a b c:World} {r:Option Nat} (h:a.grownBy b r) (g:Below b.heap.size b c):a.grownBy c r:=
 ⟨g.os.trans h.os,g.tape.trans h.tape,g.output.trans h.output,Nat.le_trans h.size g.size,fun k hk hne=>(g.block k (Nat.lt_of_lt_of_le hk h.size)).trans (h.block k hk hne)⟩
theorem gb_set {a b:World} {g:Nat} (h:a.grownBy b (some g)) (j:Nat) (u:Value):a.grownBy (b.setCell ⟨g,j,none⟩ u) (some g):=
 ⟨h.os,h.tape,h.output,by simpa [World.setCell] using h.size,fun k hk hne=>(Below.heap_setCell _ _ _ k (fun e=>hne (by rw[e]))).trans (h.block k hk hne)⟩
theorem slr_tail {α:Type} {P:Program} {R:World→List Value→α→Prop} {w:World} {v:Value} {xs:List α} {sz:Nat} (h:SlR sz R w v xs) {t:TypeId} (ht:P.underlying t=some (.slice (P.elem t))) (hs:∀w,(sizeOf (P.elem t)).run P w= .ok sz w) (n:Nat) (hn:n≤xs.length):
  ∃v',(∀w',(Instr.slice t v (some (.int .i64 (n:Int))) none none).run P w'= .ok v' w')∧SlR sz R w v' (xs.drop n):=by
 obtain ⟨rows,h1,h2,h3⟩:=h
 obtain ⟨ao,cap,rfl,hc,hno,hx⟩:=h1.form
 refine ⟨sliced ao n rows.length cap sz,fun w'=> ?_,rows.drop n, ?_,by simp[h2],fun i hi=> ?_⟩
 ·rw[run_slice_l w' t ao rows.length cap ht .i64 (n:Int) (by omega) (by omega),hs]
  simp[Result.andThen]
 ·rcases Nat.eq_zero_or_pos (rows.length - n) with h0|h0
  ·refine Or.inl ⟨if cap=n then ao else ao.map (·.add (n*sz)),cap - n,by rw[sliced,h0], ?_, ?_⟩
   ·intro he
    by_cases hcl:cap=n
    ·omega
    ·rw[if_neg hcl] at he
     cases ao with
     |none=>have:=hno rfl;omega
     |some a=>cases he
   ·apply List.eq_nil_of_length_eq_zero
    rw[List.length_drop]
    exact h0
  ·obtain ⟨hm,b,off,rfl,hcell⟩:=hx (by omega)
   have hl:(rows.drop n).length=rows.length - n:=by simp
   refine Or.inr ⟨b,off+n*sz,cap - n, ?_,by omega,by omega,by omega,fun i hi=> ?_⟩
   ·rw[sliced,hl,if_neg (by omega)]
    simp[Addr.add]
   ·rw[hl] at hi
    have e:(rows.drop n).getD i []=rows.getD (n+i) []:=by
     rw[List.getD_eq_getElem?_getD,List.getD_eq_getElem?_getD,List.getElem?_drop]
    rw[e]
    have:=hcell (n+i) (by omega)
    rw[show off+n*sz+i*sz=off+(n+i)*sz by rw[Nat.add_mul];omega]
    exact this
 ·have hi2:n+i < xs.length:=by simp at hi;omega
  have e:(rows.drop n).getD i []=rows.getD (n+i) []:=by
   rw[List.getD_eq_getElem?_getD,List.getD_eq_getElem?_getD,List.getElem?_drop]
  rw[e,List.getElem_drop]
  exact h3 (n+i) hi2
theorem own_belowN {w w':World} {base:Nat} {e:TypeId} {sz:Nat} {v:Value} {n:Nat} {cs:List Value} (o:w.ownsRow base e sz v n cs) (g:Below w.heap.size w w'):w'.ownsRow base e sz v n cs:=by
 obtain ⟨hl,h3⟩:=o
 refine ⟨hl, ?_⟩
 rcases h3 with h|⟨b,cap,cur,rfl,hb,hg,hc⟩
 ·exact Or.inl h
 ·refine Or.inr ⟨b,cap,cur,rfl,hb, ?_,hc⟩
  rw[g.block b (Array.getElem?_eq_some_iff.1 hg).1]
  exact hg
theorem res_row2 {P:Program} {fn:Func} {p a:Tmp} {ty:TypeId} (h:fn.results=#[.cell p ty, .tmp a]) (tmps:Array Value) (w:World) (g:Nat) (t:TypeId) (cs:Array Value) (fr:Nat×Nat) (d:TypeDesc)
  (hp:tmps.getD p undef= .pointer (some ⟨g,0,none⟩)) (hg:w.heap[g]? =some (.cells cs t fr))
  (hu:P.underlying ty=some d) (hd:(match d with| .struct _| .array _ _=>true|_=>false)=true) (hi:(P.info? ty).map (·.size)=some cs.size):
  (results fn tmps).run P w= .ok (.tuple #[.agg cs,tmps.getD a undef]) w:=by
 have hp':tmps[p]?.getD undef= .pointer (some ⟨g,0,none⟩):=by simpa using hp
 simp[results,h,hp',asAddr,run_loadVar_row w g t ty cs fr d hg hu hd hi]
theorem res_row3 {P:Program} {fn:Func} {p a b:Tmp} {ty:TypeId} (h:fn.results=#[.cell p ty, .tmp a, .tmp b]) (tmps:Array Value) (w:World) (g:Nat) (t:TypeId) (cs:Array Value) (fr:Nat×Nat) (d:TypeDesc)
  (hp:tmps.getD p undef= .pointer (some ⟨g,0,none⟩)) (hg:w.heap[g]? =some (.cells cs t fr))
  (hu:P.underlying ty=some d) (hd:(match d with| .struct _| .array _ _=>true|_=>false)=true) (hi:(P.info? ty).map (·.size)=some cs.size):
  (results fn tmps).run P w= .ok (.tuple #[.agg cs,tmps.getD a undef,tmps.getD b undef]) w:=by
 have hp':tmps[p]?.getD undef= .pointer (some ⟨g,0,none⟩):=by simpa using hp
 simp[results,h,hp',asAddr,run_loadVar_row w g t ty cs fr d hg hu hd hi]
structure Agr (K:TypeId→Bool) (D:Nat→Prop) (w w':World):Prop where
 os:w'.os=w.os
 tape:w'.tape=w.tape
 output:w'.output=w.output
 size:w.heap.size≤w'.heap.size
 block:∀(k:Nat) cs T fr,w.heap[k]? =some (Obj.cells cs T fr)→K T=false→¬D k→w'.heap[k]? =w.heap[k]?
theorem Agr.refl (K:TypeId→Bool) (D:Nat→Prop) (w:World):Agr K D w w:=⟨rfl,rfl,rfl,Nat.le_refl _,fun _ _ _ _ _ _ _=>rfl⟩
theorem Agr.trans {K:TypeId→Bool} {D:Nat→Prop} {a b c:World} (h:Agr K D a b) (g:Agr K D b c):Agr K D a c:=
 ⟨g.os.trans h.os,g.tape.trans h.tape,g.output.trans h.output,Nat.le_trans h.size g.size,fun k cs T fr e t d=>by
  have e1:=h.block k cs T fr e t d
  rw[g.block k cs T fr (by rw[e1];exact e) t d,e1]⟩
theorem heap_lt' {w:World} {k:Nat} {o:Obj} (h:w.heap[k]? =some o):k < w.heap.size:=(Array.getElem?_eq_some_iff.1 h).1
theorem Agr.below {K:TypeId→Bool} {D:Nat→Prop} {w w':World} (h:Below w.heap.size w w'):Agr K D w w':=⟨h.os,h.tape,h.output,h.size,fun k cs T fr e _ _=>h.block k (heap_lt' e)⟩
theorem Agr.kept {K:TypeId→Bool} {D:Nat→Prop} {T:TypeId} {w w':World} (k:Kept T w w') (hT:K T=true):Agr K D w w':=by
 obtain ⟨row,g,hr⟩:=k
 refine ⟨g.os,g.tape,g.output,g.size,fun k cs T' fr e t _=>g.block k (heap_lt' e) (fun e2=> ?_)⟩
 obtain ⟨cur,fr',e3⟩:=hr k e2.symm
 rw[e] at e3
 injection e3 with e3
 injection e3 with _ e4
 rw[e4,hT] at t
 cases t
theorem Agr.grown {K:TypeId→Bool} {D:Nat→Prop} {w w':World} {r:Option Nat} (g:w.grownBy w' r) (hr:∀k,r=some k→D k):Agr K D w w':=
 ⟨g.os,g.tape,g.output,g.size,fun k cs T fr e t d=>g.block k (heap_lt' e) (fun e2=>d (hr k e2.symm))⟩
theorem Agr.mono {K K':TypeId→Bool} {D D':Nat→Prop} {w w':World} (h:Agr K D w w') (hK:∀T,K' T=false→K T=false) (hD:∀k,k < w.heap.size→D k→D' k):Agr K' D' w w':=
 ⟨h.os,h.tape,h.output,h.size,fun k cs T fr e t d=>h.block k cs T fr e (hK T t) (fun q=>d (hD k (heap_lt' e) q))⟩
theorem Agr.set {K:TypeId→Bool} {D:Nat→Prop} (w:World) (q j:Nat) (u:Value) (hq:D q):Agr K D w (w.setCell ⟨q,j,none⟩ u):=
 ⟨rfl,rfl,rfl,by simp[World.setCell],fun k cs T fr e t d=>Below.heap_setCell _ _ _ k (fun e2=>d (by have e3:k=q:=e2;rw[e3];exact hq))⟩
def Stb (K:TypeId→Bool) (D:Nat→Prop) (w:World) (φ:World→Prop):Prop:=∀w',Agr K D w w'→φ w'
theorem Stb.agr {K:TypeId→Bool} {D:Nat→Prop} {w w':World} {φ:World→Prop} (h:Stb K D w φ) (g:Agr K D w w'):Stb K D w' φ:=fun w2 g2=>h w2 (g.trans g2)
theorem Stb.below {K:TypeId→Bool} {D:Nat→Prop} {w w':World} {φ:World→Prop} (h:Stb K D w φ) (g:Below w.heap.size w w'):Stb K D w' φ:=h.agr (Agr.below g)
theorem Stb.mono {K K':TypeId→Bool} {D D':Nat→Prop} {w:World} {φ:World→Prop} (h:Stb K D w φ) (hK:∀T,K T=false→K' T=false) (hD:∀k,k < w.heap.size→D' k→D k):Stb K' D' w φ:=
 fun w' g=>h w' (g.mono hK hD)
def Nw (B:Nat) (e:TypeId) (w:World) (v:Value):Prop:=∀k,v.ownBlock=some k→B≤k∧∃cs fr,w.heap[k]? =some (.cells cs e fr)
theorem Nw.nil (B:Nat) (e:TypeId) (w:World):Nw B e w (.slice none 0 0):=fun k hk=>by cases hk
theorem Nw.own {B:Nat} {e:TypeId} {sz:Nat} {w:World} {v:Value} {n:Nat} {cs:List Value} (o:w.ownsRow B e sz v n cs):Nw B e w v:=by
 intro k hk
 obtain ⟨_,o⟩:=o
 rcases o with ⟨rfl,_⟩|⟨g,cap,cur,rfl,hb,h1,_⟩
 ·cases hk
 ·simp[Value.ownBlock] at hk
  subst hk
  exact ⟨hb,cur,_,h1⟩
theorem Nw.below {B:Nat} {e:TypeId} {w w':World} {v:Value} (h:Nw B e w v) (g:Below w.heap.size w w'):Nw B e w' v:=by
 intro k hk
 obtain ⟨h1,cs,fr,h2⟩:=h k hk
 exact ⟨h1,cs,fr,by rw[g.block k (heap_lt' h2)];exact h2⟩
theorem Nw.le {B B':Nat} {e:TypeId} {w:World} {v:Value} (h:Nw B e w v) (hb:B'≤B):Nw B' e w v:=fun k hk=>⟨Nat.le_trans hb (h k hk).1,(h k hk).2⟩
theorem own_agr {K:TypeId→Bool} {D:Nat→Prop} {B:Nat} {e:TypeId} {sz:Nat} {w w':World} {v:Value} {n:Nat} {cs:List Value} (g:Agr K D w w') (hK:K e=false) (hD:∀b,v.ownBlock=some b→¬D b) (o:w.ownsRow B e sz v n cs):w'.ownsRow B e sz v n cs:=by
 obtain ⟨hl,o⟩:=o
 refine ⟨hl, ?_⟩
 rcases o with h|⟨b,cap,cur,rfl,h1,h2,h3⟩
 ·exact Or.inl h
 ·exact Or.inr ⟨b,cap,cur,rfl,h1,by rw[g.block b _ _ _ h2 hK (hD b rfl)];exact h2,h3⟩
theorem OwnR.agr {α:Type} {K:TypeId→Bool} {D:Nat→Prop} {e:TypeId} {sz:Nat} {O:World→List Value→α→Prop} {base:Nat} {w w':World} {v:Value} {xs:List α} (h:OwnR e sz O base w v xs) (g:Agr K D w w') (hK:K e=false) (hD:∀b,D b→b < base) (hO:∀cs x,O w cs x→O w' cs x):OwnR e sz O base w' v xs:=by
 obtain ⟨rows,h1,h2,h3,h4⟩:=h
 exact ⟨rows,h1,h2,own_agr g hK (fun b hb d=>by have:=(h3.lt b hb).1;have:=hD b d;omega) h3,fun i hi=>hO _ _ (h4 i hi)⟩
theorem Stands.agr {K:TypeId→Bool} {D:Nat→Prop} {w w':World} {b:Nat} {cs:Array Value} {T:TypeId} (h:Stands w b cs T) (g:Agr K D w w') (hK:K T=false) (hD:¬D b):Stands w' b cs T:=by
 unfold Stands at h ⊢
 rw[g.block b _ _ _ h hK hD]
 exact h
def tqC (t:Tq):List Value:=[.int .i64 t.c, .int .u32 t.n, .string (strOfNums t.t), .int .i64 t.o]
def tqR (_:World) (cs:List Value) (t:Tq):Prop:=cs=tqC t
theorem tqR_below {w w':World} (cs:List Value) (x:Tq) (h:tqR w cs x):tqR w' cs x:=h
theorem uQ:Tryz.prog.underlying 23=some (.slice (Tryz.prog.elem 23)):=by kernel_rfl
theorem eQ:Tryz.prog.elem 23=40:=by kernel_rfl
theorem zQ (w:World):(sizeOf (Tryz.prog.elem 23)).run Tryz.prog w= .ok 4 w:=by rw[eQ];exact Tryz.sizeOf40 w
theorem infoTq:(Tryz.prog.info? 40).map (fun i=>(i.zero,i.size,i.bytes))=some (some (.agg #[.int .i64 0, .int .u32 0, .string ⟨#[]⟩, .int .i64 0]),4,40):=by kernel_rfl
theorem slr_idx4 {α:Type} {P:Program} {R:World→List Value→α→Prop} {w:World} {v:Value} {xs:List α} (h:SlR 4 R w v xs) {t:TypeId} (ht:P.underlying t=some (.slice (P.elem t))) (hs:∀w,(sizeOf (P.elem t)).run P w= .ok 4 w) (i:Nat) (h1:i < xs.length):
  ∃(b o:Nat) (c0 c1 c2 c3:Value),(∀w',(Instr.indexAt t v (.int .i64 (i:Int))).run P w'= .ok (.pointer (some ⟨b,o,none⟩)) w')∧w.cell? ⟨b,o,none⟩=some c0∧w.cell? ⟨b,o+1,none⟩=some c1∧w.cell? ⟨b,o+2,none⟩=some c2∧w.cell? ⟨b,o+3,none⟩=some c3∧R w [c0,c1,c2,c3] xs[i]:=by
 obtain ⟨rows,g1,g2,g3⟩:=h
 obtain ⟨ao,cap,rfl,hc,hn,hx⟩:=g1.form
 obtain ⟨hm,b,off,rfl,hcell⟩:=hx (by omega)
 obtain ⟨l1,l2⟩:=hcell i (by omega)
 have e0:=l2 0 (by omega)
 have e1:=l2 1 (by omega)
 have e2:=l2 2 (by omega)
 have e3:=l2 3 (by omega)
 have hr:=g3 i h1
 match hrow:rows.getD i [],l1 with
 |[c0,c1,c2,c3],_=>
  rw[hrow] at e0 e1 e2 e3 hr
  refine ⟨b,off+i*4,c0,c1,c2,c3,fun w'=> ?_,by simpa using e0,by simpa using e1,by simpa using e2,by simpa using e3,hr⟩
  rw[run_indexAt_slice (h:=ht),if_pos ⟨by omega,by omega⟩,hs]
  simp only[Result.andThen,Int.toNat_natCast]
  congr 3
  unfold Addr.add
  split
  ·rename_i hz;rw[hz];rfl
  ·rfl
theorem tq_at {w:World} {v:Value} {xs:List Tq} (h:SlR 4 tqR w v xs) (i:Nat) (h1:i < xs.length):
  ∃(b o:Nat) (C N O:Int) (T:ByteArray),(∀w',(Instr.indexAt 23 v (.int .i64 (i:Int))).run Tryz.prog w'= .ok (.pointer (some ⟨b,o,none⟩)) w')∧w.cell? ⟨b,o,none⟩=some (.int .i64 C)∧w.cell? ⟨b,o+1,none⟩=some (.int .u32 N)∧w.cell? ⟨b,o+2,none⟩=some (.string T)∧w.cell? ⟨b,o+3,none⟩=some (.int .i64 O)∧xs[i].c=C∧xs[i].n=N∧strOfNums xs[i].t=T∧xs[i].o=O:=by
 obtain ⟨b,o,c0,c1,c2,c3,r,e0,e1,e2,e3,hR⟩:=slr_idx4 h uQ zQ i h1
 simp only[tqR,tqC,List.cons.injEq] at hR
 obtain ⟨rfl,rfl,rfl,rfl,_⟩:=hR
 exact ⟨b,o,_,_,_,_,r,e0,e1,e2,e3,rfl,rfl,rfl,rfl⟩
theorem tq_str:Tryz.prog.underlying 40=some (.struct (Tryz.prog.fieldsOf 40)):=by kernel_rfl
theorem tq_held:Tryz.prog.stoodInHeld 40=false:=by kernel_rfl
theorem tq_guard:Tryz.prog.eqGuardType Tryz.prog.depth 40=false:=by kernel_rfl
theorem tq_neq (w:World) (c1 n1 o1 c2 n2 o2:Int) (T1 T2:ByteArray):(binOp .neq 40 (.agg #[.int .i64 c1, .int .u32 n1, .string T1, .int .i64 o1]) (.agg #[.int .i64 c2, .int .u32 n2, .string T2, .int .i64 o2])).run Tryz.prog w= .ok (.bool (!(c1==c2&&(n1==n2&&(T1.toList==T2.toList&&o1==o2))))) w:=by
 rw[run_neq_struct,run_equalIn_agg w _ _ _ _ tq_str tq_held]
 cases h1:(c1==c2) <;> cases h2:(n1==n2) <;> cases h3:(T1.toList==T2.toList) <;> cases h4:(o1==o2)
 all_goals simp[go_sem,h1,h2,h3,h4]
theorem tq_eql (w:World) (c1 n1 o1 c2 n2 o2:Int) (T1 T2:ByteArray):(binOp .eql 40 (.agg #[.int .i64 c1, .int .u32 n1, .string T1, .int .i64 o1]) (.agg #[.int .i64 c2, .int .u32 n2, .string T2, .int .i64 o2])).run Tryz.prog w= .ok (.bool (c1==c2&&(n1==n2&&(T1.toList==T2.toList&&o1==o2)))) w:=by
 rw[run_eql_struct,run_equalIn_agg w _ _ _ _ tq_str tq_held]
 cases h1:(c1==c2) <;> cases h2:(n1==n2) <;> cases h3:(T1.toList==T2.toList) <;> cases h4:(o1==o2)
 all_goals simp[go_sem,h1,h2,h3,h4]
theorem LB_eq (A B:ByteArray):(A=B)=(LB A=LB B):=by
 apply propext
 constructor
 ·intro h;rw[h]
 ·intro h;rw[←nums_LB A,←nums_LB B,h]
theorem nil_beq (S:ByteArray):(S.toList==(⟨#[]⟩:ByteArray).toList)=decide (LB S=[]):=by
 rw[str_beq]
 simp only[LB_eq]
 rfl
theorem nil_emp (S:ByteArray):S.toList.isEmpty=decide (LB S=[]):=by
 rw[←nil_beq,Bool.eq_iff_iff]
 have:(⟨#[]⟩:ByteArray).toList=[]:=by decide+kernel
 rw[this]
 simp
end Go.Proofs.YtkkehbdahniiaaaGreatDoor
