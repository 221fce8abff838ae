import Derived.WalkKit
import Derived.ProofKit
import Derived.OpenShut
import Derived.WalkLawsBesides
import Derived.Handy
import Derived.Deep.Light
import Derived.Deep.QuietTactic
import Derived.BigQuiet
import Derived.Deep.RegionWith
import Derived.Below
import Derived.Laws.AppendOwnNone
import Derived.ChangeSlices
import Derived.SizedLaws
import Derived.Laws.BytesArg
import Derived.Laws.OwnMore
import Derived.Lib.AppendStr
import Derived.Test.YtkkehbdahniiaaaGreatDoorProg
import Derived.ChangeArms
import Derived.Deep.RegionLaw
set_option linter.unusedVariables false
set_option linter.unusedSimpArgs false
set_option maxRecDepth 100000
namespace Go.Proofs.YtkkehbdahniiaaaGreatDoor
open Go.ChangeShapes Go.WideShapes Go.ChangeAt Go.RowKit
theorem hid {p:Prop} (h:p):Hid p:=h
theorem ret_b {a b:Bool} (h:a=b):Ending.returned (.bool a)= .returned (.bool b):=by rw[h]
theorem below_cell {w w':World} (h:Below w.heap.size w w') {a:Addr} {v:Value} (hc:w.cell? a=some v):w'.cell? a=some v:=
 (h.cell (p:=a) (World.block_lt_of_cell? w a hc)).trans hc
theorem below_trans {a b c:World} (h:Below a.heap.size a b) (g:Below b.heap.size b c):Below a.heap.size a c:=
 h.trans (g.mono h.size)
theorem below_drewN {a b:World} (h:Below a.heap.size a b) (n:Nat):Below a.heap.size a (b.drewN n):=h.trans ⟨rfl,rfl,rfl,Nat.le_refl _,fun _ _=>rfl⟩
theorem below_grown {a b c:World} {row:Option Nat} (h:Below a.heap.size a b) (g:b.grownBy c row) (hr:∀k,row=some k→a.heap.size≤k):Below a.heap.size a c:=
 h.grown g h.size hr
def Rd (k:IntKind) (w:World) (v:Value) (xs:List Int):Prop:=
 (∃ao cap,v= .slice ao 0 cap∧(ao=none→cap=0)∧xs=[])∨
 ∃b off cap,v= .slice (some ⟨b,off,none⟩) xs.length cap∧0 < xs.length∧xs.length≤cap∧cap≤maxLen∧∀i,i < xs.length→w.cell? ⟨b,off+i,none⟩=some (.int k (xs.getD i 0))
theorem Rd.below {k:IntKind} {w w':World} {v:Value} {xs:List Int} (h:Rd k w v xs) (g:Below w.heap.size w w'):Rd k w' v xs:=by
 rcases h with h|⟨b,off,cap,rfl,h0,h1,h2,hc⟩
 ·exact Or.inl h
 ·exact Or.inr ⟨b,off,cap,rfl,h0,h1,h2,fun i hi=>below_cell g (hc i hi)⟩
theorem Rd_nil {k:IntKind} {w:World}:Rd k w (.slice none 0 0) []:=Or.inl ⟨none,0,rfl,fun _=>rfl,rfl⟩
theorem Rd_own {k:IntKind} {w:World} {base:Nat} {e:TypeId} {v:Value} {n:Nat} {xs:List Int} (h:w.ownsRow base e 1 v n (xs.map (Value.int k))):Rd k w v xs∧n=xs.length:=by
 obtain ⟨hl,h⟩:=h
 have hn:n=xs.length:=by simp at hl;omega
 refine ⟨?_,hn⟩
 rcases h with ⟨rfl,h0⟩|⟨g,cap,cur,rfl,hb,hg,hc,hm,hs,ht⟩
 ·have:xs=[]:=List.eq_nil_of_length_eq_zero (by omega)
  subst this
  exact Rd_nil
 ·rcases Nat.eq_zero_or_pos xs.length with h0|h0
  ·have:xs=[]:=List.eq_nil_of_length_eq_zero h0
   subst this
   exact Or.inl ⟨_,_,by rw[hn];rfl,(fun h=>by cases h),rfl⟩
  ·refine Or.inr ⟨g,0,cap,by rw[hn],h0,by omega,hm,fun i hi=> ?_⟩
   have e1:cur[i]? =some (.int k (xs.getD i 0)):=by
    have e2:(cur.toList.take (n*1))[i]? =some (.int k (xs.getD i 0)):=by
     rw[ht,List.getElem?_map,List.getElem?_eq_getElem hi]
     simp[List.getD_eq_getElem?_getD,List.getElem?_eq_getElem hi]
    rw[List.getElem?_take] at e2
    split at e2
    ·simpa using e2
    ·cases e2
   simp[World.cell?,hg,e1]
theorem wp_append_rd {P:Program} {w:World} {k:IntKind} {o:Oper} {a:Act} {K:Act→World→Prop} {Q:Exit→Act→World→Prop} (s x:Operand) (t:TypeId)
  (ho:o.op= .call {callee:= .builtin .append,args:=#[s,x],argTypes:=#[t,t]})
  (base:Nat) (e:TypeId) (i:TypeInfo) (bytes:Nat) (ht:P.underlying t=some (.slice e)) (hi:P.info? e=some i) (hz:i.zero=some (.int k 0)) (hsize:i.size=1) (hby:i.bytes=bytes)
  (v:Value) (ys:List Int) (hs:a.eval s=v) (hown:w.ownsRow base e 1 v ys.length (ys.map (Value.int k)))
  (vx:Value) (xs:List Int) (hx:a.eval x=vx) (hr:Rd k w vx xs)
  (h63:ys.length+xs.length≤maxLen) (hbytes:(ys.length+xs.length)*bytes≤140737488355328) (hbase:base≤w.heap.size)
  (h:∀v' w',w'.ownsRow base e 1 v' (ys++xs).length ((ys++xs).map (Value.int k))→w.grownBy w' v.ownBlock→K (a.put o.dst v') w'):o.wp P a w K Q:=by
 have h1:∀u∈xs.map (Value.int k),u.oneCell'=true:=by
  intro u hu
  simp only[List.mem_map] at hu
  obtain ⟨n,_,rfl⟩:=hu
  rfl
 rcases hr with ⟨ao,cap,rfl,hn,rfl⟩|⟨b,off,cap,rfl,h0,hc1,hc2,hc⟩
 ·cases ao with
  |none=>
   obtain rfl:=hn rfl
   have hrun:=run_append_owned_none (P:=P) (w:=w) base t o.type e i 1 ht hi v ys.length (ys.map (Value.int k)) hown
   unfold Oper.wp
   simp[execOp,ho,resolve,invoke,builtin,hs,hx,hrun,Result.andThen]
   exact h v w (by simpa using hown) ⟨rfl,rfl,rfl,Nat.le_refl _,fun _ _ _=>rfl⟩
  |some ad=>
   refine wp_append_own w s x t ho base e i (.int k 0) 1 bytes ht hi hz hsize hby rfl (by decide) v ys.length _ hs hown ad 0 cap [] hx rfl (by simp) (by simp) (by simpa using h63) (by simpa using hbytes) hbase ?_
   intro v' w' h2 h3 _
   exact h v' w' (by simpa using h2) h3
 ·refine wp_append_own w s x t ho base e i (.int k 0) 1 bytes ht hi hz hsize hby rfl (by decide) v ys.length _ hs hown ⟨b,off,none⟩ xs.length cap (xs.map (Value.int k)) hx (by simp) ?_ h1 h63 hbytes hbase ?_
  ·intro j u hj
   rw[List.getElem?_map] at hj
   cases hg:xs[j]? with
   |none=>rw[hg] at hj;cases hj
   |some n=>
    rw[hg] at hj
    simp at hj
    subst hj
    have hj2:j < xs.length:=by
     rcases Nat.lt_or_ge j xs.length with h|h
     ·exact h
     ·rw[List.getElem?_eq_none h] at hg;cases hg
    have:=hc j hj2
    rw[List.getD_eq_getElem?_getD,hg] at this
    simp at this
    by_cases hz:j=0
    ·subst hz;simpa [Addr.add] using this
    ·simpa [Addr.add,hz] using this
  ·intro v' w' h2 h3 _
   exact h v' w' (by simpa using h2) h3
theorem wpList_append_rd {P:Program} {w:World} {k:IntKind} {ops:Array Oper} {rest:List Oper} {o:Oper} {a:Act} {Q:Exit→Act→World→Prop} (hgd:o.guard=none) (s x:Operand) (t:TypeId)
  (ho:o.op= .call {callee:= .builtin .append,args:=#[s,x],argTypes:=#[t,t]})
  (base:Nat) (e:TypeId) (i:TypeInfo) (bytes:Nat) (ht:P.underlying t=some (.slice e)) (hi:P.info? e=some i) (hz:i.zero=some (.int k 0)) (hsize:i.size=1) (hby:i.bytes=bytes)
  (v:Value) (ys:List Int) (hs:a.eval s=v) (hown:w.ownsRow base e 1 v ys.length (ys.map (Value.int k)))
  (vx:Value) (xs:List Int) (hx:a.eval x=vx) (hr:Rd k w vx xs)
  (h63:ys.length+xs.length≤maxLen) (hbytes:(ys.length+xs.length)*bytes≤140737488355328) (hbase:base≤w.heap.size)
  (h:∀v' w',w'.ownsRow base e 1 v' (ys++xs).length ((ys++xs).map (Value.int k))→w.grownBy w' v.ownBlock→wpList P ops Q rest (a.put o.dst v') w'):wpList P ops Q (o::rest) a w:=
 wpList_plain hgd fun _ hK=>wp_append_rd s x t ho base e i bytes ht hi hz hsize hby v ys hs hown vx xs hx hr h63 hbytes hbase fun v' w' h2 h3=>hK _ _ (h v' w' h2 h3)
theorem rd_form {k:IntKind} {w:World} {v:Value} {xs:List Int} (h:Rd k w v xs):∃ao cap,v= .slice ao xs.length cap∧xs.length≤cap∧(ao=none→cap=0)∧
  (0 < xs.length→cap≤maxLen∧∃b off,ao=some ⟨b,off,none⟩∧∀i,i < xs.length→w.cell? ⟨b,off+i,none⟩=some (.int k (xs.getD i 0))):=by
 rcases h with ⟨ao,cap,rfl,h1,rfl⟩|⟨b,off,cap,rfl,h0,h1,h2,hc⟩
 ·exact ⟨ao,cap,rfl,Nat.zero_le _,h1,fun h=>by simp at h⟩
 ·exact ⟨_,cap,rfl,h1,(fun h=>by cases h),fun _=>⟨h2,b,off,rfl,hc⟩⟩
theorem rd_len {P:Program} {k:IntKind} {w:World} {v:Value} {xs:List Int} (h:Rd k w v xs) {t e:TypeId} (ht:P.underlying t=some (.slice e)) (ty:TypeId) (w':World):
  (Builtin.len_ #[t] ty #[v]).run P w'= .ok (.int .i64 xs.length) w':=by
 obtain ⟨ao,cap,rfl,_⟩:=rd_form h
 simp[Builtin.len_,run_underlying ht,goInt]
theorem rd_cut {P:Program} {k:IntKind} {w:World} {v:Value} {xs:List Int} (h:Rd k w v xs) {t:TypeId} (ht:P.underlying t=some (.slice (P.elem t))) (hs:∀w,(sizeOf (P.elem t)).run P w= .ok 1 w) (lo hi:Nat) (h1:lo≤hi) (h2:hi≤xs.length):
  ∃v',Rd k w v' ((xs.drop lo).take (hi - lo))∧(∀w',(Instr.slice t v (some (.int .i64 (lo:Int))) (some (.int .i64 (hi:Int))) none).run P w'= .ok v' w')∧
   (lo=0→∀w',(Instr.slice t v none (some (.int .i64 (hi:Int))) none).run P w'= .ok v' w')∧(hi=xs.length→∀w',(Instr.slice t v (some (.int .i64 (lo:Int))) none none).run P w'= .ok v' w'):=by
 obtain ⟨ao,cap,rfl,hc,hn,hx⟩:=rd_form h
 refine ⟨sliced ao lo hi cap 1, ?_,fun w'=> ?_,fun h0 w'=> ?_,fun h0 w'=> ?_⟩
 ·have hl:((xs.drop lo).take (hi - lo)).length=hi - lo:=by simp;omega
  rcases Nat.eq_zero_or_pos (hi - lo) with hz|hz
  ·refine Or.inl ⟨if cap=lo then ao else ao.map (·.add (lo*1)),cap - lo,by rw[sliced,hz], ?_,by rw[hz];simp⟩
   intro he
   by_cases hcl:cap=lo
   ·omega
   ·rw[if_neg hcl] at he
    cases ao with
    |none=>have:=hn rfl;omega
    |some a=>cases he
  ·obtain ⟨hm,b,off,rfl,hcell⟩:=hx (by omega)
   refine Or.inr ⟨b,off+lo,cap - lo, ?_,by omega,by omega,by omega,fun i hi2=> ?_⟩
   ·rw[sliced,hl,if_neg (by omega)]
    congr 1
    simp[Addr.add]
   ·rw[hl] at hi2
    have:=hcell (lo+i) (by omega)
    rw[show off+lo+i=off+(lo+i) by omega,this]
    simp only[List.getD_eq_getElem?_getD,List.getElem?_take,List.getElem?_drop]
    rw[if_pos hi2]
 ·rw[run_slice_lh w' t ao xs.length cap ht .i64 .i64 (lo:Int) (hi:Int) (by omega) (by omega) (by omega),hs]
  simp[Result.andThen]
 ·subst h0
  rw[run_slice_h w' t ao xs.length cap ht .i64 (hi:Int) (by omega) (by omega),hs]
  simp[Result.andThen]
 ·subst h0
  rw[run_slice_l w' t ao xs.length cap ht .i64 (lo:Int) (by omega) (by omega),hs]
  simp[Result.andThen]
theorem rd_cutI {P:Program} {k:IntKind} {w:World} {v:Value} {xs:List Int} (h:Rd k w v xs) {t:TypeId} (ht:P.underlying t=some (.slice (P.elem t))) (hs:∀w,(sizeOf (P.elem t)).run P w= .ok 1 w) (lo hi:Int) (h0:0≤lo) (h1:lo≤hi) (h2:hi≤xs.length):
  ∃v',Rd k w v' ((xs.drop lo.toNat).take (hi - lo).toNat)∧(∀w',(Instr.slice t v (some (.int .i64 lo)) (some (.int .i64 hi)) none).run P w'= .ok v' w')∧
   (lo=0→∀w',(Instr.slice t v none (some (.int .i64 hi)) none).run P w'= .ok v' w')∧(hi=xs.length→∀w',(Instr.slice t v (some (.int .i64 lo)) none none).run P w'= .ok v' w'):=by
 obtain ⟨l,rfl⟩:=Int.eq_ofNat_of_zero_le h0
 obtain ⟨m,rfl⟩:=Int.eq_ofNat_of_zero_le (show 0≤hi by omega)
 obtain ⟨v',r,a,b,c⟩:=rd_cut h ht hs l m (by omega) (by omega)
 refine ⟨v', ?_,a,fun h=>b (by omega),fun h=>c (by omega)⟩
 rw[show ((l:Int)).toNat=l by omega,show ((m:Int) - (l:Int)).toNat=m - l by omega]
 exact r
theorem rd_idx {P:Program} {k:IntKind} {w:World} {v:Value} {xs:List Int} (h:Rd k w v xs) {t:TypeId} (ht:P.underlying t=some (.slice (P.elem t))) (hs:∀w,(sizeOf (P.elem t)).run P w= .ok 1 w) (i:Int) (h0:0≤i) (h1:i < xs.length):
  ∃a:Addr,(∀w',(Instr.indexAt t v (.int .i64 i)).run P w'= .ok (.pointer (some a)) w')∧w.cell? a=some (.int k (xs.getD i.toNat 0)):=by
 obtain ⟨ao,cap,rfl,hc,hn,hx⟩:=rd_form h
 obtain ⟨hm,b,off,rfl,hcell⟩:=hx (by omega)
 refine ⟨⟨b,off+i.toNat,none⟩,fun w'=> ?_,hcell i.toNat (by omega)⟩
 rw[run_indexAt_slice (h:=ht),if_pos ⟨h0,h1⟩,hs]
 simp only[Result.andThen,Nat.mul_one]
 congr 3
 unfold Addr.add
 split
 ·rename_i hz;rw[hz];rfl
 ·rfl
theorem rd_one {k:IntKind} (w:World) (x:Int) (T:TypeId):Rd k (w.alloc (.cells #[.int k x] T)) (.slice (some ⟨w.heap.size,0,none⟩) 1 1) [x]:=
 Or.inr ⟨w.heap.size,0,1,rfl,by simp,by simp,by decide,fun i hi=>by
  have:i=0:=by simp at hi;omega
  subst this
  rw[World.cell?_alloc_new]
  rfl⟩
theorem rd_lit {k:IntKind} (w:World) (xs:List Int) (T:TypeId) (h0:0 < xs.length) (h1:xs.length≤maxLen):Rd k (w.alloc (.cells (xs.map (Value.int k)).toArray T)) (.slice (some ⟨w.heap.size,0,none⟩) xs.length xs.length) xs:=
 Or.inr ⟨w.heap.size,0,xs.length,rfl,h0,Nat.le_refl _,h1,fun i hi=>by
  rw[World.cell?_alloc_new]
  simp[List.getD_eq_getElem?_getD,List.getElem?_eq_getElem hi]⟩
theorem size_al (w:World) (o:Obj):(w.alloc o).heap.size=w.heap.size+1:=by unfold World.alloc;simp
theorem own_below {w w':World} {base:Nat} {e:TypeId} {v:Value} {n:Nat} {xs:List Value} (h:w.ownsRow base e 1 v n xs) (g:Below w.heap.size w w'):w'.ownsRow base e 1 v n xs:=by
 obtain ⟨hl,h⟩:=h
 refine ⟨hl, ?_⟩
 rcases h with h|⟨b,cap,cur,rfl,hb,hg,hc,hm,hs,ht⟩
 ·exact Or.inl h
 ·refine Or.inr ⟨b,cap,cur,rfl,hb, ?_,hc,hm,hs,ht⟩
  rw[g.block b (Array.getElem?_eq_some_iff.1 hg).1]
  exact hg
theorem box_below (w:World) (o:Obj):Below w.heap.size w (w.alloc o):=(Below.refl _ _).alloc (Nat.le_refl _) _
def LB (s:ByteArray):List Int:=s.data.toList.map fun c=>(c.toNat:Int)
def bytesL (xs:List Int):Prop:=∀x∈xs,0≤x∧x < 256
theorem LB_len (s:ByteArray):(LB s).length=s.size:=by simp[LB]
theorem LB_bytes (s:ByteArray):bytesL (LB s):=by
 intro x hx
 simp only[LB,List.mem_map] at hx
 obtain ⟨c,_,rfl⟩:=hx
 have:=c.toNat_lt
 omega
theorem LB_nums (xs:List Int) (h:bytesL xs):LB (strOfNums xs)=xs:=by
 simp only[LB,strOfNums_data,List.map_map]
 conv=>rhs;rw[←List.map_id xs]
 apply List.map_congr_left
 intro x hx
 have:=h x hx
 simp only[Function.comp,id]
 rw[UInt8.toNat_ofNat']
 omega
theorem nums_LB (s:ByteArray):strOfNums (LB s)=s:=by
 cases s with
 |mk d=>
  simp only[strOfNums,LB,List.map_map]
  congr 1
  rw[show ((fun n:Int=>UInt8.ofNat n.toNat) ∘ fun c:UInt8=>(c.toNat:Int))=id by funext c;simp]
  simp
theorem nums_eq (xs ys:List Int) (hx:bytesL xs) (hy:bytesL ys):(strOfNums xs=strOfNums ys)=(xs=ys):=by
 apply propext
 constructor
 ·intro h
  rw[←LB_nums xs hx,←LB_nums ys hy,h]
 ·intro h
  rw[h]
theorem str_beq (A B:ByteArray):(A.toList==B.toList)=decide (A=B):=by
 rw[Bool.eq_iff_iff]
 simp only[beq_iff_eq,decide_eq_true_eq,ByteArray.toList_eq]
 constructor
 ·intro h
  cases A;cases B
  congr 1
  exact Array.ext' h
 ·intro h;rw[h]
theorem strCells_LB (s:ByteArray):Lib.strCells s=(LB s).map (Value.int .u8):=by simp[Lib.strCells,LB]
theorem rd_str {P:Program} {w:World} {v:Value} {xs:List Int} (h:Rd .u8 w v xs) {src dst e:TypeId} (hs:P.underlying src=some (.slice e)) (he:P.underlying e=some (.int .u8)) (hd:P.underlying dst=some .string):
  (convert src dst v).run P w= .ok (.string (strOfNums xs)) w:=by
 rcases h with ⟨ao,cap,rfl,hn,rfl⟩|⟨b,off,cap,rfl,h0,hc1,hc2,hc⟩
 ·cases ao with
  |none=>rw[run_convert_bytes_nil w src e hs he 0 cap dst hd];rfl
  |some a=>
   rw[run_convert_bytes_string w src dst e _ 0 cap hs he hd,run_bytesToString w a 0 cap [] (by simp[loadCells,loadCellsFrom])]
   rfl
 ·exact run_convert_bytes_arg w src e hs he b off xs.length cap xs rfl hc dst hd
theorem wpList_append_rds {P:Program} {w:World} {ops:Array Oper} {rest:List Oper} {o:Oper} {a:Act} {Q:Exit→Act→World→Prop} (hgd:o.guard=none) (s x:Operand) (t u:TypeId)
  (ho:o.op= .call {callee:= .builtin .append,args:=#[s,x],argTypes:=#[t,u]})
  (base:Nat) (e:TypeId) (i:TypeInfo) (ht:P.underlying t=some (.slice e)) (hu:P.underlying u=some .string) (hi:P.info? e=some i) (hz:i.zero=some (.int .u8 0)) (hsize:i.size=1) (hby:i.bytes=1)
  (v:Value) (ys:List Int) (hs:a.eval s=v) (hown:w.ownsRow base e 1 v ys.length (ys.map (Value.int .u8)))
  (S:ByteArray) (hx:a.eval x= .string S) (h63:ys.length+S.size≤maxLen) (hbytes:ys.length+S.size≤140737488355328) (hbase:base≤w.heap.size)
  (h:∀v' w',w'.ownsRow base e 1 v' (ys++LB S).length ((ys++LB S).map (Value.int .u8))→w.grownBy w' v.ownBlock→wpList P ops Q rest (a.put o.dst v') w'):wpList P ops Q (o::rest) a w:=by
 obtain ⟨v',w',hr,ho2,hg,_⟩:=Lib.run_append_own_string w base t u o.type e i ht hu hi hz hsize hby v ys.length _ hown S h63 hbytes hbase
 refine wpList_plain hgd fun _ hK=> ?_
 unfold Oper.wp
 simp[execOp,ho,resolve,invoke,builtin,hs,hx,hr,Result.andThen]
 refine hK _ _ (h v' w' ?_ hg)
 rw[strCells_LB] at ho2
 simpa [LB_len] using ho2
structure Tq where
 c:Int
 n:Int
 t:List Int
 o:Int
deriving DecidableEq
def bhF (c:Int):Nat:=
 if c=16 then 1 else if c=17∨c=195 then 2 else if c=18 then 3
 else if c=19∨c=20∨c=21∨c=22∨c=23∨c=24∨c=28∨c=198 then 4
 else if c=181 then 5 else if c=182∨c=202 then 6 else 0
def cdd (c:Int):Bool:=decide (c=0)||(decide (16≤c)&&decide (c≤4095))
def cbF (c:Int):List Int:=if c≤255 then [c] else [c / 256,c%256]
def offF (o:Int) (wide:Bool):Bool:=if wide then decide (-32768≤o)&&decide (o≤32767) else decide (-128≤o)&&decide (o≤127)
def nwF (n:Int):Bool:=decide (2048≤n)&&decide (n≤4095)
def okB (k:Nat) (t:Tq) (wide:Bool):Bool:=
 match k with
 |1=>decide (t.t=[])&&decide (t.o=0)
 |2=>decide (t.t=[])&&decide (t.o=0)&&cdd t.n
 |3=>decide (t.n=0)&&decide (t.o=0)&&decide (t.t.length≤255)
 |4=>decide (t.n=0)&&decide (t.t=[])&&offF t.o wide
 |5=>decide (t.t=[])&&decide (t.o=0)&&nwF t.n
 |6=>decide (t.o=0)&&decide (t.t.length≤31)&&nwF t.n
 |_=>decide (t.n=0)&&decide (t.t=[])&&decide (t.o=0)
def okQ (t:Tq) (wide:Bool):Bool:=cdd t.c&&okB (bhF t.c) t wide
def beQ (k:Nat) (t:Tq) (wide:Bool):List Int:=
 match k with
 |1=>[t.n / 16777216%256,t.n / 65536%256,t.n / 256%256,t.n%256]
 |2=>cbF t.n
 |3=>(t.t.length:Int)::t.t
 |4=>if wide then [t.o / 256%256,t.o%256] else [t.o%256]
 |5=>[t.n / 256%256,t.n%256]
 |6=>(t.t.length:Int)::(t.t++[t.n / 256%256,t.n%256])
 |_=>[]
def byQ (t:Tq) (wide:Bool):List Int:=cbF t.c++beQ (bhF t.c) t wide
def wdF (wide:Bool) (c:Int):Bool:=wide||decide (c=204)
def allB:List Tq→Bool→Option (List Int)
 |[],_=>some []
 |t::l,w=>if okQ t w then (allB l (wdF w t.c)).map (byQ t w++·) else none
def finF (B:List Int) (l:List Tq) (w:Bool):List Int×Int:=
 match allB l w with
 |none=>([],16)
 |some b=>if 8192 < (B++b).length then ([],3) else (B++b,0)
def encF (l:List Tq) (w:Bool):List Int×Int:=finF [] l w
theorem fin_end (B:List Int) (w:Bool):finF B [] w=if 8192 < B.length then ([],3) else (B,0):=by simp[finF,allB]
theorem fin_no (B:List Int) (t:Tq) (l:List Tq) (w:Bool) (h:okQ t w=false):finF B (t::l) w=([],16):=by simp[finF,allB,h]
theorem fin_ok (B:List Int) (t:Tq) (l:List Tq) (w:Bool) (h:okQ t w=true):finF B (t::l) w=finF (B++byQ t w) l (wdF w t.c):=by
 simp only[finF,allB,h,if_true]
 cases allB l (wdF w t.c) with
 |none=>rfl
 |some b=>simp
theorem fin_long (B:List Int) (t:Tq) (l:List Tq) (w:Bool) (h:okQ t w=true) (hB:8192 < B.length):finF B (t::l) w=finF B l (wdF w t.c):=by
 simp only[finF,allB,h,if_true]
 cases allB l (wdF w t.c) with
 |none=>rfl
 |some b=>
  simp only[Option.map_some]
  rw[if_pos (by simp only[List.length_append];omega),if_pos (by simp only[List.length_append];omega)]
def cdP:List Int→Option (Int×List Int)
 |[]=>none
 |a::r=>if a=0∨16≤a then some (a,r) else
  match r with
  |[]=>none
  |b::r=>some (a*256+b,r)
def txP:List Int→Option (List Int×List Int)
 |[]=>none
 |k::r=>if k≤r.length then some (r.take k.toNat,r.drop k.toNat) else none
def twP:List Int→Option (Int×List Int)
 |a::b::r=>some (a*256+b,r)
 |_=>none
def fuP:List Int→Option (Int×List Int)
 |a::b::c::d::r=>some (a*16777216+b*65536+c*256+d,r)
 |_=>none
def sgF (half n:Int):Int:=if half≤n then n - 2*half else n
def ofP (wide:Bool) (l:List Int):Option (Int×List Int):=
 if wide then (twP l).map fun x=>(sgF 32768 x.1,x.2) else
 match l with
 |[]=>none
 |a::r=>some (sgF 128 a,r)
def bePn (k:Nat) (c:Int) (wide:Bool) (r:List Int):Option (Tq×List Int):=
 match k with
 |1=>(fuP r).map fun x=>(⟨c,x.1,[],0⟩,x.2)
 |2=>(cdP r).map fun x=>(⟨c,x.1,[],0⟩,x.2)
 |3=>(txP r).map fun x=>(⟨c,0,x.1,0⟩,x.2)
 |4=>(ofP wide r).map fun x=>(⟨c,0,[],x.1⟩,x.2)
 |5=>(twP r).map fun x=>(⟨c,x.1,[],0⟩,x.2)
 |6=>(txP r).bind fun y=>(twP y.2).map fun x=>(⟨c,x.1,y.1,0⟩,x.2)
 |_=>some (⟨c,0,[],0⟩,r)
def oneP (b:List Int) (wide:Bool):Option (Tq×List Int):=(cdP b).bind fun x=>bePn (bhF x.1) x.1 wide x.2
def oneF (b:List Int) (wide:Bool):Option (Tq×List Int):=(oneP b wide).bind fun x=>if okQ x.1 wide then some x else none
def decG:Nat→List Int→Bool→Option (List Tq)
 |_,[],_=>some []
 |0,_::_,_=>none
 |n+1,a::b,w=>(oneF (a::b) w).bind fun x=>(decG n x.2 (wdF w x.1.c)).map (x.1::·)
def decF (b:List Int) (w:Bool):List Tq×Int:=
 if 8192 < b.length then ([],3) else
 match decG b.length b w with
 |none=>([],16)
 |some l=>(l,0)
theorem bh_le (c:Int):bhF c≤6:=by unfold bhF;split <;> (try split) <;> (try split) <;> (try split) <;> (try split) <;> (try split) <;> omega
theorem cd_by (c:Int) (h:cdd c=true) (r:List Int):cdP (cbF c++r)=some (c,r):=by
 simp only[cdd,Bool.or_eq_true,Bool.and_eq_true,decide_eq_true_eq] at h
 unfold cbF
 split
 ·simp only[List.cons_append,List.nil_append,cdP]
  rw[if_pos (by omega)]
 ·simp only[List.cons_append,List.nil_append,cdP]
  rw[if_neg (by omega)]
  congr 2
  omega
theorem by_cd (b:List Int) (hb:bytesL b) (c:Int) (r:List Int) (h:cdP b=some (c,r)):cdd c=true∧b=cbF c++r:=by
 match b with
 |[]=>simp[cdP] at h
 |a::s=>
  have ha:=hb a (by simp)
  simp only[cdP] at h
  by_cases h1:a=0∨16≤a
  ·rw[if_pos h1] at h
   injection h with h;injection h with h2 h3
   subst h2 h3
   exact ⟨by simp[cdd];omega,by unfold cbF;rw[if_pos (by omega)];rfl⟩
  ·rw[if_neg h1] at h
   match s with
   |[]=>simp at h
   |d::s=>
    have hd:=hb d (by simp)
    injection h with h;injection h with h2 h3
    subst h2 h3
    refine ⟨by simp[cdd];omega, ?_⟩
    unfold cbF
    rw[if_neg (by omega)]
    simp
    omega
theorem tw_by (n:Int) (h0:0≤n) (h1:n < 65536) (r:List Int):twP (n / 256%256::n%256::r)=some (n,r):=by
 simp only[twP]
 congr 2
 omega
theorem fu_by (n:Int) (h0:0≤n) (h1:n < 4294967296) (r:List Int):fuP (n / 16777216%256::n / 65536%256::n / 256%256::n%256::r)=some (n,r):=by
 simp only[fuP]
 congr 2
 omega
theorem tx_by (t r:List Int):txP ((t.length:Int)::(t++r))=some (t,r):=by
 simp only[txP]
 rw[if_pos (by simp only[List.length_append];omega)]
 simp
theorem of_by (o:Int) (wide:Bool) (h:offF o wide=true) (r:List Int):ofP wide ((if wide then [o / 256%256,o%256] else [o%256])++r)=some (o,r):=by
 cases wide with
 |true=>
  simp[offF] at h
  simp only[if_true,ofP,List.cons_append,List.nil_append,twP,Option.map_some]
  congr 2
  unfold sgF
  split <;> omega
 |false=>
  simp[offF] at h
  simp only[Bool.false_eq_true,if_false,ofP,List.cons_append,List.nil_append]
  congr 2
  unfold sgF
  split <;> omega
def gQ (t:Tq):Prop:=0≤t.n∧t.n < 4294967296∧bytesL t.t
theorem be_by (k:Nat) (hk:k≤6) (t:Tq) (wide:Bool) (g:gQ t) (h:okB k t wide=true) (r:List Int):bePn k t.c wide (beQ k t wide++r)=some (t,r):=by
 obtain ⟨c,n,s,o⟩:=t
 obtain ⟨g1,g2,g3⟩:=g
 simp only at g1 g2 g3
 match k,hk with
 |0,_=>simp[okB] at h;obtain ⟨⟨rfl,rfl⟩,rfl⟩:=h;simp[bePn,beQ]
 |1,_=>simp[okB] at h;obtain ⟨rfl,rfl⟩:=h;simp only[bePn,beQ,List.cons_append,List.nil_append];rw[fu_by n g1 g2];rfl
 |2,_=>simp[okB] at h;obtain ⟨⟨rfl,rfl⟩,h⟩:=h;simp only[bePn,beQ];rw[cd_by n h];rfl
 |3,_=>simp[okB] at h;obtain ⟨⟨rfl,rfl⟩,h⟩:=h;simp only[bePn,beQ,List.cons_append];rw[tx_by];rfl
 |4,_=>simp[okB] at h;obtain ⟨⟨rfl,rfl⟩,h⟩:=h;simp only[bePn,beQ];rw[of_by o wide h];rfl
 |5,_=>simp[okB,nwF] at h;obtain ⟨⟨rfl,rfl⟩,h⟩:=h;simp only[bePn,beQ,List.cons_append,List.nil_append];rw[tw_by n g1 (by omega)];rfl
 |6,_=>simp[okB,nwF] at h;obtain ⟨⟨rfl,h2⟩,h⟩:=h;simp only[bePn,beQ,List.cons_append,List.append_assoc];rw[tx_by];simp only[Option.bind_some,List.cons_append,List.nil_append];rw[tw_by n g1 (by omega)];rfl
theorem one_by (t:Tq) (wide:Bool) (g:gQ t) (h:okQ t wide=true) (r:List Int):oneF (byQ t wide++r) wide=some (t,r):=by
 have h2:=h
 simp only[okQ,Bool.and_eq_true] at h
 unfold oneF oneP byQ
 rw[List.append_assoc,cd_by t.c h.1]
 simp only[Option.bind_some]
 rw[be_by _ (bh_le _) t wide g h.2]
 simp[h2]
theorem by_tw (b:List Int) (hb:bytesL b) (n:Int) (r:List Int) (h:twP b=some (n,r)):0≤n∧n < 65536∧b=n / 256%256::n%256::r:=by
 match b with
 |[]=>simp[twP] at h
 |[a]=>simp[twP] at h
 |a::d::s=>
  have ha:=hb a (by simp)
  have hd:=hb d (by simp)
  simp only[twP] at h
  injection h with h;injection h with h2 h3
  subst h2 h3
  refine ⟨by omega,by omega, ?_⟩
  congr 1
  ·omega
  ·congr 1
   omega
theorem by_fu (b:List Int) (hb:bytesL b) (n:Int) (r:List Int) (h:fuP b=some (n,r)):0≤n∧n < 4294967296∧b=n / 16777216%256::n / 65536%256::n / 256%256::n%256::r:=by
 match b with
 |[]=>simp[fuP] at h
 |[a]=>simp[fuP] at h
 |[a,c]=>simp[fuP] at h
 |[a,c,d]=>simp[fuP] at h
 |a::c::d::e::s=>
  have ha:=hb a (by simp)
  have hc:=hb c (by simp)
  have hd:=hb d (by simp)
  have he:=hb e (by simp)
  simp only[fuP] at h
  injection h with h;injection h with h2 h3
  subst h2 h3
  refine ⟨by omega,by omega, ?_⟩
  have e1:(a*16777216+c*65536+d*256+e) / 16777216%256=a:=by omega
  have e2:(a*16777216+c*65536+d*256+e) / 65536%256=c:=by omega
  have e3:(a*16777216+c*65536+d*256+e) / 256%256=d:=by omega
  have e4:(a*16777216+c*65536+d*256+e)%256=e:=by omega
  rw[e1,e2,e3,e4]
theorem by_tx (b:List Int) (hb:bytesL b) (t r:List Int) (h:txP b=some (t,r)):b=(t.length:Int)::(t++r):=by
 match b with
 |[]=>simp[txP] at h
 |k::s=>
  have hk:=hb k (by simp)
  simp only[txP] at h
  by_cases h1:k≤s.length
  ·rw[if_pos h1] at h
   injection h with h;injection h with h2 h3
   subst h2 h3
   rw[List.take_append_drop,List.length_take]
   congr 1
   omega
  ·rw[if_neg h1] at h
   cases h
theorem by_of (b:List Int) (hb:bytesL b) (wide:Bool) (o:Int) (r:List Int) (h:ofP wide b=some (o,r)):b=(if wide then [o / 256%256,o%256] else [o%256])++r:=by
 cases wide with
 |true=>
  simp only[ofP,if_true,Option.map_eq_some_iff] at h
  obtain ⟨⟨n,s⟩,h1,h2⟩:=h
  obtain ⟨n0,n1,h3⟩:=by_tw b hb n s h1
  injection h2 with h4 h5
  subst h5 h3
  simp only[if_true,List.cons_append,List.nil_append]
  simp only[sgF] at h4
  split at h4
  ·congr 1
   ·omega
   ·congr 1;omega
  ·congr 1
   ·omega
   ·congr 1;omega
 |false=>
  simp only[ofP,Bool.false_eq_true,if_false] at h
  match b with
  |[]=>simp at h
  |a::s=>
   have ha:=hb a (by simp)
   injection h with h;injection h with h4 h5
   subst h5
   simp only[Bool.false_eq_true,if_false,List.cons_append,List.nil_append]
   simp only[sgF] at h4
   split at h4
   ·congr 1;omega
   ·congr 1;omega
theorem by_be (k:Nat) (hk:k≤6) (c:Int) (wide:Bool) (b:List Int) (hb:bytesL b) (t:Tq) (r:List Int) (h:bePn k c wide b=some (t,r)):t.c=c∧b=beQ k t wide++r∧gQ t:=by
 have tk:∀(l:List Int) (m:List Int),l++m=b→bytesL l:=fun l m e x hx=>hb x (by rw[←e];simp[hx])
 have nil:bytesL []:=fun x hx=>by simp at hx
 match k,hk with
 |0,_=>simp only[bePn] at h;injection h with h;injection h with h1 h2;subst h1 h2;exact ⟨rfl,rfl,by simp,by simp,nil⟩
 |1,_=>
  simp only[bePn,Option.map_eq_some_iff] at h
  obtain ⟨⟨n,s⟩,h1,h2⟩:=h
  obtain ⟨q1,q2,q3⟩:=by_fu b hb n s h1
  injection h2 with h3 h4
  subst h3 h4
  exact ⟨rfl,by simpa [beQ] using q3,q1,q2,nil⟩
 |2,_=>
  simp only[bePn,Option.map_eq_some_iff] at h
  obtain ⟨⟨n,s⟩,h1,h2⟩:=h
  obtain ⟨q1,q2⟩:=by_cd b hb n s h1
  injection h2 with h3 h4
  subst h3 h4
  simp only[cdd,Bool.or_eq_true,Bool.and_eq_true,decide_eq_true_eq] at q1
  exact ⟨rfl,by simpa [beQ] using q2,by show 0≤n;omega,by show n < 4294967296;omega,nil⟩
 |3,_=>
  simp only[bePn,Option.map_eq_some_iff] at h
  obtain ⟨⟨n,s⟩,h1,h2⟩:=h
  have q:=by_tx b hb n s h1
  injection h2 with h3 h4
  subst h3 h4
  exact ⟨rfl,by simpa [beQ] using q,by simp,by simp,fun x hx=>hb x (by rw[q];simp[hx])⟩
 |4,_=>
  simp only[bePn,Option.map_eq_some_iff] at h
  obtain ⟨⟨n,s⟩,h1,h2⟩:=h
  have q:=by_of b hb wide n s h1
  injection h2 with h3 h4
  subst h3 h4
  exact ⟨rfl,by simpa [beQ] using q,by simp,by simp,nil⟩
 |5,_=>
  simp only[bePn,Option.map_eq_some_iff] at h
  obtain ⟨⟨n,s⟩,h1,h2⟩:=h
  obtain ⟨q1,q2,q3⟩:=by_tw b hb n s h1
  injection h2 with h3 h4
  subst h3 h4
  exact ⟨rfl,by simpa [beQ] using q3,q1,by show n < 4294967296;omega,nil⟩
 |6,_=>
  simp only[bePn,Option.bind_eq_some_iff,Option.map_eq_some_iff] at h
  obtain ⟨⟨t1,s1⟩,h0,⟨n,s⟩,h1,h2⟩:=h
  have q:=by_tx b hb t1 s1 h0
  have hb2:bytesL s1:=fun x hx=>hb x (by rw[q];simp[hx])
  obtain ⟨q1,q2,q3⟩:=by_tw s1 hb2 n s h1
  injection h2 with h3 h4
  subst h3 h4
  refine ⟨rfl, ?_,q1,by show n < 4294967296;omega,fun x hx=>hb x (by rw[q];simp at hx ⊢;simp[hx])⟩
  simp only[beQ,List.cons_append,List.append_assoc,List.nil_append]
  rw[q,q3]
theorem by_one (b:List Int) (hb:bytesL b) (wide:Bool) (t:Tq) (r:List Int) (h:oneF b wide=some (t,r)):okQ t wide=true∧b=byQ t wide++r∧gQ t∧bytesL r:=by
 simp only[oneF,oneP,Option.bind_eq_some_iff] at h
 obtain ⟨⟨t1,r1⟩,⟨⟨c,s⟩,h1,h2⟩,h3⟩:=h
 obtain ⟨q1,q2⟩:=by_cd b hb c s h1
 have hs:bytesL s:=fun x hx=>hb x (by rw[q2];simp[hx])
 obtain ⟨p1,p2,p3⟩:=by_be _ (bh_le c) c wide s hs t1 r1 h2
 by_cases ho:okQ t1 wide=true
 ·simp only[ho,if_true] at h3
  injection h3 with h3;injection h3 with h4 h5
  subst h4 h5
  refine ⟨ho, ?_,p3,fun x hx=>hs x (by rw[p2];simp[hx])⟩
  rw[q2,byQ,p1,List.append_assoc,←p2]
 ·simp only[ho] at h3
  simp at h3
theorem cb_pos (c:Int):0 < (cbF c).length:=by unfold cbF;split <;> simp
theorem by_pos (t:Tq) (w:Bool):0 < (byQ t w).length:=by have:=cb_pos t.c;unfold byQ;rw[List.length_append];omega
theorem dec_step (n:Nat) (t:Tq) (w:Bool) (g:gQ t) (h:okQ t w=true) (r:List Int):decG (n+1) (byQ t w++r) w=(decG n r (wdF w t.c)).map (t::·):=by
 have hp:=by_pos t w
 have e:=one_by t w g h r
 match hb:byQ t w++r with
 |[]=>have:=congrArg List.length hb;simp only[List.length_append,List.length_nil] at this;omega
 |a::b=>
  rw[hb] at e
  simp only[decG,e,Option.bind_some]
theorem dec_app:∀(x:List Tq) (w:Bool) (a b:List Int) (n:Nat),(∀t∈x,gQ t)→allB x w=some a→(∀t∈x,¬t.c=204)→decG (x.length+n) (a++b) w=(decG n b w).map (x++·)
 |[],w,a,b,n,_,h,_=>by
  simp[allB] at h
  subst h
  simp
 |t::x,w,a,b,n,g,h,hc=>by
  simp only[allB] at h
  by_cases ho:okQ t w=true
  ·simp only[ho,if_true,Option.map_eq_some_iff] at h
   obtain ⟨a',h1,rfl⟩:=h
   have hw:wdF w t.c=w:=by simp[wdF,hc t (by simp)]
   rw[hw] at h1
   have ih:=dec_app x w a' b n (fun u hu=>g u (by simp[hu])) h1 (fun u hu=>hc u (by simp[hu]))
   rw[show (t::x).length+n=(x.length+n)+1 by simp;omega,List.append_assoc,dec_step _ t w (g t (by simp)) ho,hw,ih]
   cases decG n b w <;> simp
  ·simp only[ho] at h
   simp at h
theorem dec_all:∀(x:List Tq) (w:Bool) (a:List Int) (n:Nat),(∀t∈x,gQ t)→allB x w=some a→decG (x.length+n) a w=some x
 |[],w,a,n,_,h=>by
  simp[allB] at h
  subst h
  cases n <;> simp[decG]
 |t::x,w,a,n,g,h=>by
  simp only[allB] at h
  by_cases ho:okQ t w=true
  ·simp only[ho,if_true,Option.map_eq_some_iff] at h
   obtain ⟨a',h1,rfl⟩:=h
   have ih:=dec_all x (wdF w t.c) a' n (fun u hu=>g u (by simp[hu])) h1
   rw[show (t::x).length+n=(x.length+n)+1 by simp;omega,dec_step _ t w (g t (by simp)) ho,ih]
   rfl
  ·simp only[ho] at h
   simp at h
theorem one_lt (b:List Int) (hb:bytesL b) (w:Bool) (t:Tq) (r:List Int) (h:oneF b w=some (t,r)):r.length < b.length:=by
 obtain ⟨_,q,_,_⟩:=by_one b hb w t r h
 have:=by_pos t w
 rw[q,List.length_append]
 omega
theorem dec_fuel:∀(n m:Nat) (b:List Int) (w:Bool),bytesL b→b.length≤n→b.length≤m→decG n b w=decG m b w
 |n,m,[],w,_,_,_=>by cases n <;> cases m <;> rfl
 |0,_,a::b,w,_,h,_=>by simp at h
 |_+1,0,a::b,w,_,_,h=>by simp at h
 |n+1,m+1,a::b,w,hb,h1,h2=>by
  simp only[decG]
  cases h:oneF (a::b) w with
  |none=>rfl
  |some x=>
   obtain ⟨t,r⟩:=x
   have hl:=one_lt _ hb w t r h
   have hr:=(by_one _ hb w t r h).2.2.2
   simp only[List.length_cons] at hl h1 h2
   simp only[Option.bind_some]
   rw[dec_fuel n m r _ hr (by omega) (by omega)]
theorem all_len:∀(x:List Tq) (w:Bool) (a:List Int),allB x w=some a→x.length≤a.length
 |[],_,_,_=>by simp
 |t::x,w,a,h=>by
  simp only[allB] at h
  by_cases ho:okQ t w=true
  ·simp only[ho,if_true,Option.map_eq_some_iff] at h
   obtain ⟨a',h1,rfl⟩:=h
   have:=all_len x _ a' h1
   have:=by_pos t w
   simp only[List.length_cons,List.length_append]
   omega
  ·simp only[ho] at h
   simp at h
theorem bytes_by (t:Tq) (w:Bool) (g:gQ t) (h:okQ t w=true):bytesL (byQ t w):=by
 obtain ⟨c,n,s,o⟩:=t
 obtain ⟨g1,g2,g3⟩:=g
 simp only at g1 g2 g3
 have hcb:∀c,cdd c=true→bytesL (cbF c):=by
  intro c hc x hx
  simp only[cdd,Bool.or_eq_true,Bool.and_eq_true,decide_eq_true_eq] at hc
  unfold cbF at hx
  split at hx <;> simp at hx <;> omega
 simp only[okQ,Bool.and_eq_true] at h
 intro x hx
 simp only[byQ,List.mem_append] at hx
 rcases hx with hx|hx
 ·exact hcb _ h.1 x hx
 ·have hk:=bh_le c
  have h2:=h.2
  revert hx h2
  generalize bhF c=k at hk
  intro hx h2
  match k,hk with
  |0,_=>simp[beQ] at hx
  |1,_=>simp[beQ] at hx;omega
  |2,_=>simp[okB] at h2;exact hcb _ h2.2 x hx
  |3,_=>
   simp[okB] at h2;simp[beQ] at hx;rcases hx with rfl|hx;·omega
   ·exact g3 x hx
  |4,_=>simp only[beQ] at hx;split at hx <;> simp at hx <;> omega
  |5,_=>simp[beQ] at hx;omega
  |6,_=>
   simp[okB] at h2;simp[beQ] at hx;rcases hx with rfl|hx|hx
   ·omega
   ·exact g3 x hx
   ·omega
theorem enc_cases (l:List Tq) (w:Bool):(∃b,allB l w=some b∧b.length≤8192∧encF l w=(b,0))∨(encF l w).1=[]∧((encF l w).2=3∨(encF l w).2=16):=by
 unfold encF finF
 cases h:allB l w with
 |none=>exact Or.inr ⟨rfl,Or.inr rfl⟩
 |some b=>
  simp only[List.nil_append]
  by_cases hl:8192 < b.length
  ·rw[if_pos hl];exact Or.inr ⟨rfl,Or.inl rfl⟩
  ·rw[if_neg hl];exact Or.inl ⟨b,rfl,by omega,rfl⟩
theorem back_law (l:List Tq) (w:Bool) (g:∀t∈l,gQ t) (h:(encF l w).2=0):decF (encF l w).1 w=(l,0):=by
 rcases enc_cases l w with ⟨b,h1,h2,h3⟩|⟨_,h3⟩
 ·rw[h3]
  have hl:=all_len l w b h1
  have:=dec_all l w b (b.length - l.length) g h1
  rw[show l.length+(b.length - l.length)=b.length by omega] at this
  simp only[decF]
  rw[if_neg (by omega),this]
 ·omega
def beV (l:List Int):Int:=l.foldl (fun v b=>v*256+b) 0
def beB:Nat→Int→List Int
 |0,_=>[]
 |n+1,v=>beB n (v / 256)++[v%256]
theorem bytes_take {xs:List Int} (h:bytesL xs) (n:Nat):bytesL (xs.take n):=fun x hx=>h x (List.mem_of_mem_take hx)
theorem bytes_drop {xs:List Int} (h:bytesL xs) (n:Nat):bytesL (xs.drop n):=fun x hx=>h x (List.mem_of_mem_drop hx)
theorem bytes_app {xs ys:List Int} (h:bytesL xs) (g:bytesL ys):bytesL (xs++ys):=fun x hx=>(List.mem_append.1 hx).elim (h x) (g x)
theorem beB_len:∀(n:Nat) (v:Int),(beB n v).length=n
 |0,_=>rfl
 |n+1,v=>by simp[beB,beB_len n]
theorem uB:Tryz.prog.underlying 29=some (.slice (Tryz.prog.elem 29)):=by kernel_rfl
theorem eB:Tryz.prog.elem 29=5:=by kernel_rfl
theorem zB (w:World):(sizeOf (Tryz.prog.elem 29)).run Tryz.prog w= .ok 1 w:=by rw[eB];exact Tryz.sizeOf5 w
theorem infoU8:(Tryz.prog.info? 5).map (fun i=>(i.zero,i.size,i.bytes))=some (some (.int .u8 0),1,1):=by kernel_rfl
theorem rd_strT {w:World} {v:Value} {xs:List Int} (h:Rd .u8 w v xs):(convert 29 9 v).run Tryz.prog w= .ok (.string (strOfNums xs)) w:=
 rd_str h Tryz.underlying29 Tryz.underlying5 Tryz.underlying9
def SlC (sz:Nat) (w:World) (v:Value) (rows:List (List Value)):Prop:=
 (∃ao cap,v= .slice ao 0 cap∧(ao=none→cap=0)∧rows=[])∨
 ∃b off cap,v= .slice (some ⟨b,off,none⟩) rows.length cap∧0 < rows.length∧rows.length≤cap∧cap≤maxLen∧
  ∀i,i < rows.length→(rows.getD i []).length=sz∧∀j,j < sz→w.cell? ⟨b,off+i*sz+j,none⟩=(rows.getD i [])[j]?
theorem SlC.below {sz:Nat} {w w':World} {v:Value} {rows:List (List Value)} (h:SlC sz w v rows) (g:Below w.heap.size w w'):SlC sz w' v rows:=by
 rcases h with h|⟨b,off,cap,rfl,h0,h1,h2,hc⟩
 ·exact Or.inl h
 ·refine Or.inr ⟨b,off,cap,rfl,h0,h1,h2,fun i hi=>⟨(hc i hi).1,fun j hj=> ?_⟩⟩
  have hl:=(hc i hi).1
  have e:=(hc i hi).2 j hj
  rw[List.getElem?_eq_getElem (by omega)] at e ⊢
  exact below_cell g e
theorem SlC.form {sz:Nat} {w:World} {v:Value} {rows:List (List Value)} (h:SlC sz w v rows):∃ao cap,v= .slice ao rows.length cap∧rows.length≤cap∧(ao=none→cap=0)∧
  (0 < rows.length→cap≤maxLen∧∃b off,ao=some ⟨b,off,none⟩∧∀i,i < rows.length→(rows.getD i []).length=sz∧∀j,j < sz→w.cell? ⟨b,off+i*sz+j,none⟩=(rows.getD i [])[j]?):=by
 rcases h with ⟨ao,cap,rfl,h1,rfl⟩|⟨b,off,cap,rfl,h0,h1,h2,hc⟩
 ·exact ⟨ao,cap,rfl,Nat.zero_le _,h1,fun h=>by simp at h⟩
 ·exact ⟨_,cap,rfl,h1,(fun h=>by cases h),fun _=>⟨h2,b,off,rfl,hc⟩⟩
def SlR {α:Type} (sz:Nat) (R:World→List Value→α→Prop) (w:World) (v:Value) (xs:List α):Prop:=
 ∃rows,SlC sz w v rows∧rows.length=xs.length∧∀i (h:i < xs.length),R w (rows.getD i []) xs[i]
theorem SlR.below {α:Type} {sz:Nat} {R:World→List Value→α→Prop} {w w':World} {v:Value} {xs:List α} (h:SlR sz R w v xs) (g:Below w.heap.size w w') (hR:∀cs x,R w cs x→R w' cs x):SlR sz R w' v xs:=by
 obtain ⟨rows,h1,h2,h3⟩:=h
 exact ⟨rows,h1.below g,h2,fun i hi=>hR _ _ (h3 i hi)⟩
theorem SlR.nil {α:Type} {sz:Nat} {R:World→List Value→α→Prop} {w:World}:SlR sz R w (.slice none 0 0) ([]:List α):=
 ⟨[],Or.inl ⟨none,0,rfl,fun _=>rfl,rfl⟩,rfl,fun i h=>by simp at h⟩
theorem slr_len {α:Type} {P:Program} {sz:Nat} {R:World→List Value→α→Prop} {w:World} {v:Value} {xs:List α} (h:SlR sz R w v xs) {t e:TypeId} (ht:P.underlying t=some (.slice e)) (ty:TypeId) (w':World):
  (Builtin.len_ #[t] ty #[v]).run P w'= .ok (.int .i64 xs.length) w':=by
 obtain ⟨rows,h1,h2,h3⟩:=h
 obtain ⟨ao,cap,rfl,_⟩:=h1.form
 simp[Builtin.len_,run_underlying ht,goInt,h2]
theorem slr_max {α:Type} {sz:Nat} {R:World→List Value→α→Prop} {w:World} {v:Value} {xs:List α} (h:SlR sz R w v xs):xs.length≤maxLen:=by
 obtain ⟨rows,h1,h2,h3⟩:=h
 rcases h1 with ⟨ao,cap,rfl,_,rfl⟩|⟨b,off,cap,rfl,h0,h1,h2',hc⟩
 ·simp at h2;omega
 ·omega
def lenOf:Value→Nat| .slice _ n _=>n|_=>0
theorem wpList_append_row {P:Program} {w:World} {ops:Array Oper} {rest:List Oper} {o:Oper} {a:Act} {Q:Exit→Act→World→Prop} (hgd:o.guard=none) (s x:Operand) (t:TypeId)
  (ho:o.op= .call {callee:= .builtin .append,args:=#[s,x],argTypes:=#[t,t]})
  (base:Nat) (e:TypeId) (i:TypeInfo) (z:Value) (sz bytes:Nat) (ht:P.underlying t=some (.slice e)) (hi:P.info? e=some i) (hz:i.zero=some z) (hsize:i.size=sz) (hby:i.bytes=bytes) (hzs:z.cells.size=sz) (hsz:0 < sz)
  (v:Value) (n:Nat) (cs:List Value) (hs:a.eval s=v) (hown:w.ownsRow base e sz v n cs)
  (b:Nat) (row:List Value) (hx:a.eval x= .slice (some ⟨b,0,none⟩) 1 1) (hl:row.length=sz) (hc:∀j u,row[j]? =some u→w.cell? ⟨b,j,none⟩=some u) (h1:∀u∈row,u.oneCell'=true)
  (h63:n+1≤maxLen) (hbytes:(n+1)*bytes≤140737488355328) (hbase:base≤w.heap.size)
  (h:∀v' w',w'.ownsRow base e sz v' (n+1) (cs++row)→w.grownBy w' v.ownBlock→wpList P ops Q rest (a.put o.dst v') w'):wpList P ops Q (o::rest) a w:=by
 refine wpList_plain hgd fun _ hK=> ?_
 refine wp_append_own w s x t ho base e i z sz bytes ht hi hz hsize hby hzs hsz v n cs hs hown ⟨b,0,none⟩ 1 1 row hx (by omega) ?_ h1 h63 hbytes hbase ?_
 ·intro j u hj
  have:=hc j u hj
  by_cases hz:j=0
  ·subst hz;simpa [Addr.add] using this
  ·simpa [Addr.add,hz] using this
 ·intro v' w' h2 h3 _
  exact hK _ _ (h v' w' h2 h3)
theorem step_append_rd {P:Program} {ops:Array Oper} {w:World} {k:IntKind} {o:Oper} {a:Act} {K:Act→World→Prop} {Q:Exit→Act→World→Prop} {E:Prop} (hgd:o.guard=none) (s x:Operand) (t:TypeId)
  (ho:o.op= .call {callee:= .builtin .append,args:=#[s,x],argTypes:=#[t,t]})
  (base:Nat) (e:TypeId) (i:TypeInfo) (bytes:Nat) (ht:P.underlying t=some (.slice e)) (hi:P.info? e=some i) (hz:i.zero=some (.int k 0)) (hsize:i.size=1) (hby:i.bytes=bytes)
  (v:Value) (ys:List Int) (hs:a.eval s=v) (hown:w.ownsRow base e 1 v ys.length (ys.map (Value.int k)))
  (vx:Value) (xs:List Int) (hx:a.eval x=vx) (hr:Rd k w vx xs)
  (h63:ys.length+xs.length≤maxLen) (hbytes:(ys.length+xs.length)*bytes≤140737488355328) (hbase:base≤w.heap.size)
  (h:∀v' w',w'.ownsRow base e 1 v' (ys++xs).length ((ys++xs).map (Value.int k))→w.grownBy w' v.ownBlock→K (a.put o.dst v') w'):
  if Region.wanted o (yielded ops a.tmps)=true then Oper.wp P o a w K Q else E:=by
 rw[if_pos (by simp[Region.wanted,hgd])]
 exact wp_append_rd s x t ho base e i bytes ht hi hz hsize hby v ys hs hown vx xs hx hr h63 hbytes hbase h
theorem alloc_row (w:World) (row:List Value) (T:TypeId):∀j u,row[j]? =some u→(w.alloc (.cells row.toArray T)).cell? ⟨w.heap.size,j,none⟩=some u:=by
 intro j u h
 rw[World.cell?_alloc_new]
 simpa using h
theorem slr_rows {α:Type} {R:World→List Value→α→Prop} {w:World} {base:Nat} {e:TypeId} {v:Value} {n sz:Nat} {xs:List α} (f:α→List Value) (hf:∀x∈xs,(f x).length=sz) (hsz:0 < sz) (h:w.ownsRow base e sz v n (xs.flatMap f)) (hR:∀x∈xs,R w (f x) x):SlR sz R w v xs:=by
 obtain ⟨hl,h⟩:=h
 have hlen:∀ys:List α,(∀x∈ys,(f x).length=sz)→(ys.flatMap f).length=ys.length*sz:=by
  intro ys
  induction ys with
  |nil=>intro _;simp
  |cons y ys ih=>
   intro hy
   rw[List.flatMap_cons,List.length_append,ih (fun x hx=>hy x (by simp[hx])),hy y (by simp),List.length_cons,Nat.add_mul,Nat.one_mul]
   omega
 have hn:n=xs.length:=by
  rw[hlen xs hf] at hl
  exact (Nat.eq_of_mul_eq_mul_right hsz hl).symm
 have hat:∀(ys:List α) (i:Nat) (hi:i < ys.length),(∀x∈ys,(f x).length=sz)→∀j,j < sz→(ys.flatMap f)[i*sz+j]? =(f ys[i])[j]? :=by
  intro ys
  induction ys with
  |nil=>intro i hi;simp at hi
  |cons y ys ih=>
   intro i hi hy j hj
   have hy0:=hy y (by simp)
   rw[List.flatMap_cons]
   cases i with
   |zero=>
    rw[List.getElem?_append_left (by omega)]
    simp
   |succ i=>
    rw[Nat.add_mul,Nat.one_mul,List.getElem?_append_right (by omega),show i*sz+sz+j - (f y).length=i*sz+j by omega]
    exact ih i (by simpa using hi) (fun x hx=>hy x (by simp[hx])) j hj
 refine ⟨xs.map f, ?_,by simp,fun i hi=> ?_⟩
 ·rcases h with ⟨rfl,h0⟩|⟨g,cap,cur,rfl,hb,hg,hc,hm,hs,ht⟩
  ·have:xs=[]:=List.eq_nil_of_length_eq_zero (by omega)
   subst this
   exact Or.inl ⟨none,0,rfl,fun _=>rfl,rfl⟩
  ·rcases Nat.eq_zero_or_pos xs.length with h0|h0
   ·have:xs=[]:=List.eq_nil_of_length_eq_zero h0
    subst this
    exact Or.inl ⟨_,_,by rw[hn];rfl,(fun h=>by cases h),rfl⟩
   ·refine Or.inr ⟨g,0,cap,by rw[hn,List.length_map],by rw[List.length_map];exact h0,by rw[List.length_map];omega,hm,fun i hi=> ?_⟩
    have hi2:i < xs.length:=by simpa using hi
    have e1:(xs.map f).getD i []=f xs[i]:=by simp[List.getD_eq_getElem?_getD,List.getElem?_eq_getElem hi2]
    rw[e1]
    refine ⟨hf _ (List.getElem_mem hi2),fun j hj=> ?_⟩
    have e2:=hat xs i hi2 hf j hj
    have hlt:i*sz+j < n*sz:=by
     have:(i+1)*sz≤n*sz:=Nat.mul_le_mul_right _ (by omega)
     rw[Nat.add_mul,Nat.one_mul] at this
     omega
    rw[←ht,List.getElem?_take,if_pos hlt] at e2
    rw[←e2]
    simp[World.cell?,hg]
 ·have e1:(xs.map f).getD i []=f xs[i]:=by simp[List.getD_eq_getElem?_getD,List.getElem?_eq_getElem hi]
  rw[e1]
  exact hR _ (List.getElem_mem hi)
theorem own_le {w:World} {b b':Nat} {e:TypeId} {sz:Nat} {v:Value} {n:Nat} {cs:List Value} (h:b≤b') (o:w.ownsRow b' e sz v n cs):w.ownsRow b e sz v n cs:=by
 obtain ⟨hl,o⟩:=o
 refine ⟨hl, ?_⟩
 rcases o with o|⟨g,cap,cur,rfl,hb,o⟩
 ·exact Or.inl o
 ·exact Or.inr ⟨g,cap,cur,rfl,by omega,o⟩
theorem own_form {w:World} {b:Nat} {e:TypeId} {sz:Nat} {v:Value} {n:Nat} {cs:List Value} (o:w.ownsRow b e sz v n cs):∃ao cap,v= .slice ao n cap:=by
 obtain ⟨hl,o⟩:=o
 rcases o with ⟨rfl,h0⟩|⟨g,cap,cur,rfl,o⟩
 ·exact ⟨none,0,by rw[h0]⟩
 ·exact ⟨_,_,rfl⟩
theorem alloc_row2 (w:World) (A:Obj) (row:List Value) (T:TypeId):∀j u,row[j]? =some u→((w.alloc A).alloc (.cells row.toArray T)).cell? ⟨w.heap.size+1,j,none⟩=some u:=by
 intro j u h
 have:=alloc_row (w.alloc A) row T j u h
 rwa [size_al] at this
def Stands (w:World) (b:Nat) (cs:Array Value) (T:TypeId):Prop:=w.heap[b]? =some (.cells cs T (0,0))
theorem stands_new (w:World) (cs:Array Value) (T:TypeId):Stands (w.alloc (.cells cs T)) w.heap.size cs T:=heap_alloc_new w _
theorem Stands.below {w w':World} {b:Nat} {cs:Array Value} {T:TypeId} (h:Stands w b cs T) (g:Below w.heap.size w w'):Stands w' b cs T:=by
 unfold Stands at h ⊢
 rw[g.block b (Array.getElem?_eq_some_iff.1 h).1]
 exact h
theorem Stands.cell {w:World} {b:Nat} {cs:Array Value} {T:TypeId} (h:Stands w b cs T) (j:Nat) (u:Value) (hj:cs[j]? =some u):w.cell? ⟨b,j,none⟩=some u:=by
 unfold Stands at h
 simp[World.cell?,h,hj]
theorem Stands.free {w:World} {b:Nat} {cs:Array Value} {T:TypeId} (h:Stands w b cs T) (j:Nat):w.frozen? ⟨b,j,none⟩=false:=by
 unfold Stands at h
 simp[World.frozen?,h]
theorem Stands.set {w:World} {b:Nat} {cs:Array Value} {T:TypeId} (h:Stands w b cs T) (j:Nat) (u:Value):Stands (w.setCell ⟨b,j,none⟩ u) b (cs.setIfInBounds j u) T:=by
 unfold Stands at h ⊢
 have hb:=(Array.getElem?_eq_some_iff.1 h).1
 have e:w.heap[b]= .cells cs T (0,0):=(Array.getElem?_eq_some_iff.1 h).2
 simp only[World.setCell]
 rw[Array.getElem?_modify,if_pos rfl,Array.getElem?_eq_getElem hb,e]
 rfl
theorem Stands.other {w:World} {b b':Nat} {cs:Array Value} {T:TypeId} (h:Stands w b cs T) (j:Nat) (u:Value) (hb:b≠b'):Stands (w.setCell ⟨b',j,none⟩ u) b cs T:=by
 unfold Stands at h ⊢
 simp only[World.setCell]
 rw[Array.getElem?_modify,if_neg (by omega)]
 exact h
theorem below_set {w w':World} (h:Below w.heap.size w w') (g j:Nat) (u:Value) (hg:w.heap.size≤g):Below w.heap.size w (w'.setCell ⟨g,j,none⟩ u):=by
 refine ⟨h.os,h.tape,h.output,by simpa [World.setCell] using h.size,fun k hk=> ?_⟩
 rw[←h.block k hk]
 simp only[World.setCell]
 rw[Array.getElem?_modify,if_neg (by omega)]
theorem stands_apart {w:World} {b:Nat} {cs:Array Value} {T:TypeId} {base:Nat} {e:TypeId} {v:Value} {n sz:Nat} {xs:List Value} (h:Stands w b cs T) (o:w.ownsRow base e sz v n xs) (ht:¬e=T):some b≠v.ownBlock:=by
 obtain ⟨hl,o⟩:=o
 rcases o with ⟨rfl,h0⟩|⟨g,cap,cur,rfl,hb,hg,o⟩
 ·simp[Value.ownBlock]
 ·intro hh
  simp[Value.ownBlock] at hh
  subst hh
  unfold Stands at h
  rw[h] at hg
  simp at hg
  exact ht hg.2.symm
theorem Stands.grown {w w':World} {b:Nat} {cs:Array Value} {T:TypeId} {row:Option Nat} (h:Stands w b cs T) (g:w.grownBy w' row) (hr:some b≠row):Stands w' b cs T:=by
 unfold Stands at h ⊢
 rw[g.block b (Array.getElem?_eq_some_iff.1 h).1 hr]
 exact h
def Kept (T:TypeId) (w w':World):Prop:=∃row,w.grownBy w' row∧∀g,row=some g→∃cur fr,w.heap[g]? =some (.cells cur T fr)
theorem grown_none {w w':World} (h:Below w.heap.size w w'):w.grownBy w' none:=⟨h.os,h.tape,h.output,h.size,fun k hk _=>h.block k hk⟩
theorem Kept.below {T:TypeId} {w w':World} (h:Below w.heap.size w w'):Kept T w w':=⟨none,grown_none h,fun g hg=>by cases hg⟩
theorem Kept.own {base:Nat} {e:TypeId} {sz:Nat} {w w':World} {v:Value} {n:Nat} {cs:List Value} (o:w.ownsRow base e sz v n cs) (g:w.grownBy w' v.ownBlock):Kept e w w':=by
 refine ⟨_,g,fun k hk=> ?_⟩
 obtain ⟨_,o⟩:=o
 rcases o with ⟨rfl,_⟩|⟨k',cap,cur,rfl,_,h1,_⟩
 ·simp[Value.ownBlock] at hk
 ·simp[Value.ownBlock] at hk
  subst hk
  exact ⟨cur,_,h1⟩
theorem Kept.stands {b:Nat} {cs:Array Value} {T:TypeId} {w w':World} (h:Stands w b cs T) (g:w.grownBy w' (some b)):Kept T w w':=
 ⟨_,g,fun k hk=>by cases hk;exact ⟨cs,_,h⟩⟩
def Apt {α:Type} (T:TypeId) (O:World→List Value→α→Prop):Prop:=∀w w' cs x,Kept T w w'→O w cs x→O w' cs x
theorem own_kept {T:TypeId} {w w':World} (k:Kept T w w') {base:Nat} {e:TypeId} {sz:Nat} {v:Value} {n:Nat} {cs:List Value} (hne:¬e=T) (o:w.ownsRow base e sz v n cs):w'.ownsRow base e sz v n cs:=by
 obtain ⟨row,g,hr⟩:=k
 obtain ⟨hl,o⟩:=o
 refine ⟨hl, ?_⟩
 rcases o with o|⟨b,cap,cur,rfl,hb,h1,o⟩
 ·exact Or.inl o
 ·refine Or.inr ⟨b,cap,cur,rfl,hb, ?_,o⟩
  rw[g.block b (Array.getElem?_eq_some_iff.1 h1).1 (fun e0=> ?_)]
  ·exact h1
  ·obtain ⟨cur',fr,h2⟩:=hr b e0.symm
   rw[h1] at h2
   simp at h2
   exact hne h2.2.1
theorem stands_kept {T:TypeId} {w w':World} (k:Kept T w w') {b:Nat} {cs:Array Value} {e:TypeId} (hne:¬e=T) (h:Stands w b cs e):Stands w' b cs e:=by
 obtain ⟨row,g,hr⟩:=k
 unfold Stands at h ⊢
 rw[g.block b (Array.getElem?_eq_some_iff.1 h).1 (fun e0=> ?_)]
 ·exact h
 ·obtain ⟨cur',fr,h2⟩:=hr b e0.symm
  rw[h] at h2
  simp at h2
  exact hne h2.2.1
def OwnR {α:Type} (e:TypeId) (sz:Nat) (O:World→List Value→α→Prop) (base:Nat) (w:World) (v:Value) (xs:List α):Prop:=
 ∃rows:List (List Value),rows.length=xs.length∧(∀r∈rows,r.length=sz)∧w.ownsRow base e sz v xs.length rows.flatten∧∀i (h:i < xs.length),O w (rows.getD i []) xs[i]
theorem OwnR.nil {α:Type} (e:TypeId) (sz:Nat) (O:World→List Value→α→Prop) (base:Nat) (w:World):OwnR e sz O base w (.slice none 0 0) ([]:List α):=⟨[],rfl,by simp,World.ownsRow_nil _ _ _ _,fun i hi=>by simp at hi⟩
theorem OwnR.row {α:Type} {e:TypeId} {sz:Nat} {O:World→List Value→α→Prop} {base:Nat} {w:World} {v:Value} {xs:List α} (h:OwnR e sz O base w v xs):∃cs,w.ownsRow base e sz v xs.length cs:=by
 obtain ⟨rows,_,_,h3,_⟩:=h
 exact ⟨_,h3⟩
theorem OwnR.read {α:Type} {e:TypeId} {sz:Nat} {O R:World→List Value→α→Prop} {base:Nat} {w:World} {v:Value} {xs:List α} (hsz:0 < sz) (h:OwnR e sz O base w v xs) (hR:∀cs x,O w cs x→R w cs x):SlR sz R w v xs:=by
 obtain ⟨rows,h1,h2,h3,h4⟩:=h
 have h5:SlR sz (fun _ cs (r:List Value)=>cs=r) w v rows:=slr_rows (n:=xs.length) (e:=e) (base:=base) id h2 hsz (by simpa [List.flatMap_id] using h3) (fun _ _=>rfl)
 obtain ⟨rows',k1,k2,k3⟩:=h5
 have e0:rows'=rows:=by
  apply List.ext_getElem k2
  intro i hi hj
  have:=k3 i hj
  rw[List.getD_eq_getElem?_getD,List.getElem?_eq_getElem hi] at this
  simpa using this
 subst e0
 exact ⟨rows',k1,h1,fun i hi=>hR _ _ (h4 i hi)⟩
theorem OwnR.kept {α:Type} {T e:TypeId} {sz:Nat} {O:World→List Value→α→Prop} {base:Nat} {w w':World} {v:Value} {xs:List α} (h:OwnR e sz O base w v xs) (k:Kept T w w') (hne:¬e=T) (ha:Apt T O):OwnR e sz O base w' v xs:=by
 obtain ⟨rows,h1,h2,h3,h4⟩:=h
 exact ⟨rows,h1,h2,own_kept k hne h3,fun i hi=>ha _ _ _ _ k (h4 i hi)⟩
theorem OwnR.below {α:Type} {e:TypeId} {sz:Nat} {O:World→List Value→α→Prop} {base:Nat} {w w':World} {v:Value} {xs:List α} (h:OwnR e sz O base w v xs) (g:Below w.heap.size w w') (hO:∀cs x,O w cs x→O w' cs x):OwnR e sz O base w' v xs:=by
 obtain ⟨rows,h1,h2,⟨hl,h3⟩,h4⟩:=h
 refine ⟨rows,h1,h2,⟨hl, ?_⟩,fun i hi=>hO _ _ (h4 i hi)⟩
 rcases h3 with h|⟨b,cap,cur,rfl,hb,hg,hc⟩
 ·exact Or.inl h
 ·refine Or.inr ⟨b,cap,cur,rfl,hb, ?_,hc⟩
  rw[g.block b (Array.getElem?_eq_some_iff.1 hg).1]
  exact hg
theorem OwnR.le {α:Type} {e:TypeId} {sz:Nat} {O O':World→List Value→α→Prop} {base base':Nat} {w:World} {v:Value} {xs:List α} (hb:base'≤base) (h:OwnR e sz O base w v xs) (hO:∀cs x,O w cs x→O' w cs x):OwnR e sz O' base' w v xs:=by
 obtain ⟨rows,h1,h2,h3,h4⟩:=h
 exact ⟨rows,h1,h2,own_le hb h3,fun i hi=>hO _ _ (h4 i hi)⟩
theorem flat_set {α:Type}:∀(rows:List (List α)) (sz i j:Nat) (u:α),(∀r∈rows,r.length=sz)→i < rows.length→j < sz→rows.flatten.set (i*sz+j) u=(rows.set i ((rows.getD i []).set j u)).flatten
 |[],sz,i,j,u,_,hi,_=>by simp at hi
 |r::rows,sz,0,j,u,h,hi,hj=>by
  have hr:=h r (by simp)
  simp only[List.flatten_cons,Nat.zero_mul,Nat.zero_add,List.set_cons_zero,List.getD_cons_zero]
  rw[List.set_append_left _ _ (by omega)]
 |r::rows,sz,i+1,j,u,h,hi,hj=>by
  have hr:=h r (by simp)
  have ih:=flat_set rows sz i j u (fun x hx=>h x (by simp[hx])) (by simpa using hi) hj
  simp only[List.flatten_cons,List.set_cons_succ,List.getD_cons_succ]
  rw[List.set_append_right _ _ (by rw[hr,Nat.add_mul];omega),hr,show (i+1)*sz+j - sz=i*sz+j by rw[Nat.add_mul];omega,ih]
theorem OwnR.set {α:Type} {e:TypeId} {sz:Nat} {O:World→List Value→α→Prop} {base:Nat} {w:World} {g n cap:Nat} {xs:List α} {rows:List (List Value)} (ha:Apt e O) (h1:rows.length=xs.length) (h2:∀r∈rows,r.length=sz) (h3:w.ownsRow base e sz (.slice (some ⟨g,0,none⟩) n cap) xs.length rows.flatten) (h4:∀i (h:i < xs.length),O w (rows.getD i []) xs[i])
  (i j:Nat) (hi:i < xs.length) (hj:j < sz) (u:Value) (x:α) (hx:O (w.setCell ⟨g,i*sz+j,none⟩ u) ((rows.getD i []).set j u) x):OwnR e sz O base (w.setCell ⟨g,i*sz+j,none⟩ u) (.slice (some ⟨g,0,none⟩) n cap) (xs.set i x)∧Kept e w (w.setCell ⟨g,i*sz+j,none⟩ u):=by
 have hn:n=xs.length:=by
  obtain ⟨_,h3⟩:=h3
  rcases h3 with ⟨h,_⟩|⟨g',cap',cur,h,_⟩
  ·simp at h
  ·simp at h;exact h.2.1
 subst hn
 obtain ⟨s1,s2⟩:=h3.stored (i*sz+j) u
 have k:Kept e w (w.setCell ⟨g,i*sz+j,none⟩ u):=Kept.own (v:= .slice (some ⟨g,0,none⟩) xs.length cap) h3 (by simpa [Value.ownBlock] using s2)
 rw[flat_set rows sz i j u h2 (by omega) hj] at s1
 refine ⟨⟨rows.set i ((rows.getD i []).set j u),by simp[h1],fun r hm=> ?_,by simpa using s1,fun m hm=> ?_⟩,k⟩
 ·rcases List.mem_or_eq_of_mem_set hm with hm|rfl
  ·exact h2 r hm
  ·rw[List.length_set,List.getD_eq_getElem?_getD,List.getElem?_eq_getElem (by omega)]
   exact h2 _ (List.getElem_mem _)
 ·rw[List.length_set] at hm
  rw[List.getElem_set]
  by_cases him:i=m
  ·subst him
   rw[if_pos rfl,List.getD_eq_getElem?_getD,List.getElem?_set_self (by omega)]
   exact hx
  ·rw[if_neg him,List.getD_eq_getElem?_getD,List.getElem?_set_ne him,←List.getD_eq_getElem?_getD]
   exact ha _ _ _ _ k (h4 m hm)
theorem flat_get {α:Type}:∀(rows:List (List α)) (sz i j:Nat),(∀r∈rows,r.length=sz)→i < rows.length→j < sz→rows.flatten[i*sz+j]? =(rows.getD i [])[j]?
 |[],sz,i,j,_,hi,_=>by simp at hi
 |r::rows,sz,0,j,h,hi,hj=>by
  have hr:=h r (by simp)
  simp only[List.flatten_cons,Nat.zero_mul,Nat.zero_add,List.getD_cons_zero]
  rw[List.getElem?_append_left (by omega)]
 |r::rows,sz,i+1,j,h,hi,hj=>by
  have hr:=h r (by simp)
  have ih:=flat_get rows sz i j (fun x hx=>h x (by simp[hx])) (by simpa using hi) hj
  simp only[List.flatten_cons,List.getD_cons_succ]
  rw[List.getElem?_append_right (by rw[hr,Nat.add_mul];omega),hr,show (i+1)*sz+j - sz=i*sz+j by rw[Nat.add_mul];omega,ih]
theorem flat_len {α:Type} (rows:List (List α)) (sz:Nat) (h:∀r∈rows,r.length=sz):rows.flatten.length=rows.length*sz:=by
 induction rows with
 |nil=>simp
 |cons r rows ih=>
  rw[List.flatten_cons,List.length_append,ih (fun x hx=>h x (by simp[hx])),h r (by simp),List.length_cons,Nat.add_mul]
  omega
theorem slr_idxN {α:Type} {P:Program} {R:World→List Value→α→Prop} {w:World} {v:Value} {xs:List α} {sz:Nat} (h:SlR sz R w v xs) {t:TypeId} (ht:P.underlying t=some (.slice (P.elem t))) (hs:∀w,(sizeOf (P.elem t)).run P w= .ok sz w) (i:Nat) (h1:i < xs.length):
  ∃(b o:Nat) (cs:List Value),(∀w',(Instr.indexAt t v (.int .i64 (i:Int))).run P w'= .ok (.pointer (some ⟨b,o,none⟩)) w')∧cs.length=sz∧(∀j,j < sz→w.cell? ⟨b,o+j,none⟩=cs[j]?)∧R w cs xs[i]:=by
 obtain ⟨rows,g1,g2,g3⟩:=h
 obtain ⟨ao,cap,rfl,hc,hn,hx⟩:=g1.form
 obtain ⟨hm,b,off,rfl,hcell⟩:=hx (by omega)
 obtain ⟨l1,l2⟩:=hcell i (by omega)
 refine ⟨b,off+i*sz,rows.getD i [],fun w'=> ?_,l1,fun j hj=>l2 j hj,g3 i h1⟩
 rw[run_indexAt_slice (h:=ht),if_pos ⟨by omega,by omega⟩,hs]
 simp only[Result.andThen,Int.toNat_natCast]
 congr 3
 unfold Addr.add
 split
 ·rename_i hz;rw[hz];rfl
 ·rfl
end Go.Proofs.YtkkehbdahniiaaaGreatDoor
