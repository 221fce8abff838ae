import Derived.WalkKit
import Derived.ProofKit
import Derived.OpenShut
import Derived.WalkLawsBesides
import Derived.Handy
import Derived.Deep.Light
import Derived.Deep.QuietTactic
import Derived.BigQuiet
import Derived.Deep.RegionWith
import Derived.Below
import Derived.Laws.AppendOwnNone
import Derived.ChangeSlices
import Derived.SizedLaws
import Derived.Laws.BytesArg
import Derived.Laws.OwnMore
import Derived.Lib.AppendStr
import Derived.Lib.Strings
set_option linter.unusedVariables false
set_option linter.unusedSimpArgs false
set_option maxRecDepth 100000
namespace Go.Proofs.YtlokhciaaepenaaGreatDoor
open Go.ChangeShapes Go.WideShapes Go.ChangeAt Go.RowKit
theorem hid {p:Prop} (h:p):Hid p:=h
theorem ret_b {a b:Bool} (h:a=b):Ending.returned (.bool a)= .returned (.bool b):=by rw[h]
theorem below_cell {w w':World} (h:Below w.heap.size w w') {a:Addr} {v:Value} (hc:w.cell? a=some v):w'.cell? a=some v:=
 (h.cell (p:=a) (World.block_lt_of_cell? w a hc)).trans hc
theorem below_trans {a b c:World} (h:Below a.heap.size a b) (g:Below b.heap.size b c):Below a.heap.size a c:=
 h.trans (g.mono h.size)
theorem below_drewN {a b:World} (h:Below a.heap.size a b) (n:Nat):Below a.heap.size a (b.drewN n):=h.trans ⟨rfl,rfl,rfl,Nat.le_refl _,fun _ _=>rfl⟩
theorem below_grown {a b c:World} {row:Option Nat} (h:Below a.heap.size a b) (g:b.grownBy c row) (hr:∀k,row=some k→a.heap.size≤k):Below a.heap.size a c:=
 h.grown g h.size hr
def Rd (k:IntKind) (w:World) (v:Value) (xs:List Int):Prop:=
 (∃ao cap,v= .slice ao 0 cap∧(ao=none→cap=0)∧xs=[])∨
 ∃b off cap,v= .slice (some ⟨b,off,none⟩) xs.length cap∧0 < xs.length∧xs.length≤cap∧cap≤maxLen∧∀i,i < xs.length→w.cell? ⟨b,off+i,none⟩=some (.int k (xs.getD i 0))
theorem Rd.below {k:IntKind} {w w':World} {v:Value} {xs:List Int} (h:Rd k w v xs) (g:Below w.heap.size w w'):Rd k w' v xs:=by
 rcases h with h|⟨b,off,cap,rfl,h0,h1,h2,hc⟩
 ·exact Or.inl h
 ·exact Or.inr ⟨b,off,cap,rfl,h0,h1,h2,fun i hi=>below_cell g (hc i hi)⟩
theorem Rd_nil {k:IntKind} {w:World}:Rd k w (.slice none 0 0) []:=Or.inl ⟨none,0,rfl,fun _=>rfl,rfl⟩
theorem Rd_own {k:IntKind} {w:World} {base:Nat} {e:TypeId} {v:Value} {n:Nat} {xs:List Int} (h:w.ownsRow base e 1 v n (xs.map (Value.int k))):Rd k w v xs∧n=xs.length:=by
 obtain ⟨hl,h⟩:=h
 have hn:n=xs.length:=by simp at hl;omega
 refine ⟨?_,hn⟩
 rcases h with ⟨rfl,h0⟩|⟨g,cap,cur,rfl,hb,hg,hc,hm,hs,ht⟩
 ·have:xs=[]:=List.eq_nil_of_length_eq_zero (by omega)
  subst this
  exact Rd_nil
 ·rcases Nat.eq_zero_or_pos xs.length with h0|h0
  ·have:xs=[]:=List.eq_nil_of_length_eq_zero h0
   subst this
   exact Or.inl ⟨_,_,by rw[hn];rfl,(fun h=>by cases h),rfl⟩
  ·refine Or.inr ⟨g,0,cap,by rw[hn],h0,by omega,hm,fun i hi=> ?_⟩
   have e1:cur[i]? =some (.int k (xs.getD i 0)):=by
    have e2:(cur.toList.take (n*1))[i]? =some (.int k (xs.getD i 0)):=by
     rw[ht,List.getElem?_map,List.getElem?_eq_getElem hi]
     simp[List.getD_eq_getElem?_getD,List.getElem?_eq_getElem hi]
    rw[List.getElem?_take] at e2
    split at e2
    ·simpa using e2
    ·cases e2
   simp[World.cell?,hg,e1]
theorem wp_append_rd {P:Program} {w:World} {k:IntKind} {o:Oper} {a:Act} {K:Act→World→Prop} {Q:Exit→Act→World→Prop} (s x:Operand) (t:TypeId)
  (ho:o.op= .call {callee:= .builtin .append,args:=#[s,x],argTypes:=#[t,t]})
  (base:Nat) (e:TypeId) (i:TypeInfo) (bytes:Nat) (ht:P.underlying t=some (.slice e)) (hi:P.info? e=some i) (hz:i.zero=some (.int k 0)) (hsize:i.size=1) (hby:i.bytes=bytes)
  (v:Value) (ys:List Int) (hs:a.eval s=v) (hown:w.ownsRow base e 1 v ys.length (ys.map (Value.int k)))
  (vx:Value) (xs:List Int) (hx:a.eval x=vx) (hr:Rd k w vx xs)
  (h63:ys.length+xs.length≤maxLen) (hbytes:(ys.length+xs.length)*bytes≤140737488355328) (hbase:base≤w.heap.size)
  (h:∀v' w',w'.ownsRow base e 1 v' (ys++xs).length ((ys++xs).map (Value.int k))→w.grownBy w' v.ownBlock→K (a.put o.dst v') w'):o.wp P a w K Q:=by
 have h1:∀u∈xs.map (Value.int k),u.oneCell'=true:=by
  intro u hu
  simp only[List.mem_map] at hu
  obtain ⟨n,_,rfl⟩:=hu
  rfl
 rcases hr with ⟨ao,cap,rfl,hn,rfl⟩|⟨b,off,cap,rfl,h0,hc1,hc2,hc⟩
 ·cases ao with
  |none=>
   obtain rfl:=hn rfl
   have hrun:=run_append_owned_none (P:=P) (w:=w) base t o.type e i 1 ht hi v ys.length (ys.map (Value.int k)) hown
   unfold Oper.wp
   simp[execOp,ho,resolve,invoke,builtin,hs,hx,hrun,Result.andThen]
   exact h v w (by simpa using hown) ⟨rfl,rfl,rfl,Nat.le_refl _,fun _ _ _=>rfl⟩
  |some ad=>
   refine wp_append_own w s x t ho base e i (.int k 0) 1 bytes ht hi hz hsize hby rfl (by decide) v ys.length _ hs hown ad 0 cap [] hx rfl (by simp) (by simp) (by simpa using h63) (by simpa using hbytes) hbase ?_
   intro v' w' h2 h3 _
   exact h v' w' (by simpa using h2) h3
 ·refine wp_append_own w s x t ho base e i (.int k 0) 1 bytes ht hi hz hsize hby rfl (by decide) v ys.length _ hs hown ⟨b,off,none⟩ xs.length cap (xs.map (Value.int k)) hx (by simp) ?_ h1 h63 hbytes hbase ?_
  ·intro j u hj
   rw[List.getElem?_map] at hj
   cases hg:xs[j]? with
   |none=>rw[hg] at hj;cases hj
   |some n=>
    rw[hg] at hj
    simp at hj
    subst hj
    have hj2:j < xs.length:=by
     rcases Nat.lt_or_ge j xs.length with h|h
     ·exact h
     ·rw[List.getElem?_eq_none h] at hg;cases hg
    have:=hc j hj2
    rw[List.getD_eq_getElem?_getD,hg] at this
    simp at this
    by_cases hz:j=0
    ·subst hz;simpa [Addr.add] using this
    ·simpa [Addr.add,hz] using this
  ·intro v' w' h2 h3 _
   exact h v' w' (by simpa using h2) h3
theorem wpList_append_rd {P:Program} {w:World} {k:IntKind} {ops:Array Oper} {rest:List Oper} {o:Oper} {a:Act} {Q:Exit→Act→World→Prop} (hgd:o.guard=none) (s x:Operand) (t:TypeId)
  (ho:o.op= .call {callee:= .builtin .append,args:=#[s,x],argTypes:=#[t,t]})
  (base:Nat) (e:TypeId) (i:TypeInfo) (bytes:Nat) (ht:P.underlying t=some (.slice e)) (hi:P.info? e=some i) (hz:i.zero=some (.int k 0)) (hsize:i.size=1) (hby:i.bytes=bytes)
  (v:Value) (ys:List Int) (hs:a.eval s=v) (hown:w.ownsRow base e 1 v ys.length (ys.map (Value.int k)))
  (vx:Value) (xs:List Int) (hx:a.eval x=vx) (hr:Rd k w vx xs)
  (h63:ys.length+xs.length≤maxLen) (hbytes:(ys.length+xs.length)*bytes≤140737488355328) (hbase:base≤w.heap.size)
  (h:∀v' w',w'.ownsRow base e 1 v' (ys++xs).length ((ys++xs).map (Value.int k))→w.grownBy w' v.ownBlock→wpList P ops Q rest (a.put o.dst v') w'):wpList P ops Q (o::rest) a w:=
 wpList_plain hgd fun _ hK=>wp_append_rd s x t ho base e i bytes ht hi hz hsize hby v ys hs hown vx xs hx hr h63 hbytes hbase fun v' w' h2 h3=>hK _ _ (h v' w' h2 h3)
theorem rd_form {k:IntKind} {w:World} {v:Value} {xs:List Int} (h:Rd k w v xs):∃ao cap,v= .slice ao xs.length cap∧xs.length≤cap∧(ao=none→cap=0)∧
  (0 < xs.length→cap≤maxLen∧∃b off,ao=some ⟨b,off,none⟩∧∀i,i < xs.length→w.cell? ⟨b,off+i,none⟩=some (.int k (xs.getD i 0))):=by
 rcases h with ⟨ao,cap,rfl,h1,rfl⟩|⟨b,off,cap,rfl,h0,h1,h2,hc⟩
 ·exact ⟨ao,cap,rfl,Nat.zero_le _,h1,fun h=>by simp at h⟩
 ·exact ⟨_,cap,rfl,h1,(fun h=>by cases h),fun _=>⟨h2,b,off,rfl,hc⟩⟩
theorem rd_len {P:Program} {k:IntKind} {w:World} {v:Value} {xs:List Int} (h:Rd k w v xs) {t e:TypeId} (ht:P.underlying t=some (.slice e)) (ty:TypeId) (w':World):
  (Builtin.len_ #[t] ty #[v]).run P w'= .ok (.int .i64 xs.length) w':=by
 obtain ⟨ao,cap,rfl,_⟩:=rd_form h
 simp[Builtin.len_,run_underlying ht,goInt]
theorem rd_idx {P:Program} {k:IntKind} {w:World} {v:Value} {xs:List Int} (h:Rd k w v xs) {t:TypeId} (ht:P.underlying t=some (.slice (P.elem t))) (hs:∀w,(sizeOf (P.elem t)).run P w= .ok 1 w) (i:Int) (h0:0≤i) (h1:i < xs.length):
  ∃a:Addr,(∀w',(Instr.indexAt t v (.int .i64 i)).run P w'= .ok (.pointer (some a)) w')∧w.cell? a=some (.int k (xs.getD i.toNat 0)):=by
 obtain ⟨ao,cap,rfl,hc,hn,hx⟩:=rd_form h
 obtain ⟨hm,b,off,rfl,hcell⟩:=hx (by omega)
 refine ⟨⟨b,off+i.toNat,none⟩,fun w'=> ?_,hcell i.toNat (by omega)⟩
 rw[run_indexAt_slice (h:=ht),if_pos ⟨h0,h1⟩,hs]
 simp only[Result.andThen,Nat.mul_one]
 congr 3
 unfold Addr.add
 split
 ·rename_i hz;rw[hz];rfl
 ·rfl
theorem rd_one {k:IntKind} (w:World) (x:Int) (T:TypeId):Rd k (w.alloc (.cells #[.int k x] T)) (.slice (some ⟨w.heap.size,0,none⟩) 1 1) [x]:=
 Or.inr ⟨w.heap.size,0,1,rfl,by simp,by simp,by decide,fun i hi=>by
  have:i=0:=by simp at hi;omega
  subst this
  rw[World.cell?_alloc_new]
  rfl⟩
theorem size_al (w:World) (o:Obj):(w.alloc o).heap.size=w.heap.size+1:=by unfold World.alloc;simp
theorem own_below {w w':World} {base:Nat} {e:TypeId} {v:Value} {n:Nat} {xs:List Value} (h:w.ownsRow base e 1 v n xs) (g:Below w.heap.size w w'):w'.ownsRow base e 1 v n xs:=by
 obtain ⟨hl,h⟩:=h
 refine ⟨hl, ?_⟩
 rcases h with h|⟨b,cap,cur,rfl,hb,hg,hc,hm,hs,ht⟩
 ·exact Or.inl h
 ·refine Or.inr ⟨b,cap,cur,rfl,hb, ?_,hc,hm,hs,ht⟩
  rw[g.block b (Array.getElem?_eq_some_iff.1 hg).1]
  exact hg
theorem box_below (w:World) (o:Obj):Below w.heap.size w (w.alloc o):=(Below.refl _ _).alloc (Nat.le_refl _) _
theorem rd_open {H:Type} {enc:TypeId×Value→H} {P:Program} {W:World} {t e:TypeId} {k:IntKind} {a:Option Addr} {len cap:Nat} {d:DataW H} {ps:List MemPlace}
  (ht:P.underlying t=some (.slice e)) (he:P.underlying e=some (.int k)) (hc:P.cellsOf e=1) (h:DataW.Trod enc P W 0 (fun _=>true) true t (.slice a len cap) d ps):
  ∃xs:List Int,Rd k W (.slice a len cap) xs∧(∀n∈xs,(Lit.int k n).wf=true)∧(xs=[]∨∃ys zs,d= .slice ys zs∧xs.length≤ys.length+zs.length):=by
 obtain ⟨fuel,hf⟩:=h
 rcases open_ints ht he hc hf with ⟨hcs,_⟩|⟨x,l,c,zs,hcs,_,hl,hm,hz,hd,hcell,hwz⟩
 ·simp[Value.cells] at hcs
  obtain ⟨rfl,rfl,rfl⟩:=hcs
  exact ⟨[],Rd_nil,fun n hn=>by simp at hn,Or.inl rfl⟩
 ·simp[Value.cells] at hcs
  obtain ⟨rfl,rfl,rfl⟩:=hcs
  have hz2:zs.length=cap:=by simpa using hz
  have hxl:(zs.take len).length=len:=by simp;omega
  refine ⟨zs.take len, ?_,fun n hn=>hwz n (List.mem_of_mem_take hn),Or.inr ⟨_,_,congrArg Prod.fst hd,by simp[lits]⟩⟩
  rcases Nat.eq_zero_or_pos len with h0|h0
  ·subst h0
   exact Or.inl ⟨some x,cap,rfl,(fun h=>by cases h),by simp⟩
  ·obtain ⟨b,off,spot⟩:=x
   have hc0:=hcell 0 (by omega)
   have hspot:spot=none:=by simpa [Addr.add] using World.cell?_spot hc0
   subst hspot
   refine Or.inr ⟨b,off,cap,by rw[hxl],by omega,by omega,hm,fun i hi=> ?_⟩
   have:=hcell i (by omega)
   have e1:(zs.take len).getD i 0=zs.getD i 0:=by
    rw[List.getD_eq_getElem?_getD,List.getD_eq_getElem?_getD,List.getElem?_take,if_pos (by omega)]
   rw[e1,←this]
   by_cases hi0:i=0
   ·subst hi0;simp[Addr.add]
   ·simp[Addr.add,hi0]
def LB (s:ByteArray):List Int:=s.data.toList.map fun c=>(c.toNat:Int)
def bytesL (xs:List Int):Prop:=∀x∈xs,0≤x∧x < 256
theorem LB_len (s:ByteArray):(LB s).length=s.size:=by simp[LB]
theorem LB_bytes (s:ByteArray):bytesL (LB s):=by
 intro x hx
 simp only[LB,List.mem_map] at hx
 obtain ⟨c,_,rfl⟩:=hx
 have:=c.toNat_lt
 omega
theorem LB_nums (xs:List Int) (h:bytesL xs):LB (strOfNums xs)=xs:=by
 simp only[LB,strOfNums_data,List.map_map]
 conv=>rhs;rw[←List.map_id xs]
 apply List.map_congr_left
 intro x hx
 have:=h x hx
 simp only[Function.comp,id]
 rw[UInt8.toNat_ofNat']
 omega
theorem nums_LB (s:ByteArray):strOfNums (LB s)=s:=by
 cases s with
 |mk d=>
  simp only[strOfNums,LB,List.map_map]
  congr 1
  rw[show ((fun n:Int=>UInt8.ofNat n.toNat) ∘ fun c:UInt8=>(c.toNat:Int))=id by funext c;simp]
  simp
theorem nums_eq (xs ys:List Int) (hx:bytesL xs) (hy:bytesL ys):(strOfNums xs=strOfNums ys)=(xs=ys):=by
 apply propext
 constructor
 ·intro h
  rw[←LB_nums xs hx,←LB_nums ys hy,h]
 ·intro h
  rw[h]
theorem str_beq (A B:ByteArray):(A.toList==B.toList)=decide (A=B):=by
 rw[Bool.eq_iff_iff]
 simp only[beq_iff_eq,decide_eq_true_eq,ByteArray.toList_eq]
 constructor
 ·intro h
  cases A;cases B
  congr 1
  exact Array.ext' h
 ·intro h;rw[h]
theorem ret_i {k:IntKind} {a b:Int} (h:a=b):Ending.returned (.int k a)= .returned (.int k b):=by rw[h]
theorem ret_ii {k l:IntKind} {a b c d:Int} (h:a=b) (g:c=d):Ending.returned (.tuple #[.int k a, .int l c])= .returned (.tuple #[.int k b, .int l d]):=by rw[h,g]
theorem ret_ib {k:IntKind} {a b:Int} {c d:Bool} (h:a=b) (g:c=d):Ending.returned (.tuple #[.int k a, .bool c])= .returned (.tuple #[.int k b, .bool d]):=by rw[h,g]
abbrev Gr (w w':World):Prop:=Below w.heap.size w w'
theorem Gr.refl (w:World):Gr w w:=Below.refl _ _
theorem Gr.alloc {w w':World} (h:Gr w w') (c:Array Value) (t:TypeId):Gr w (w'.alloc (.cells c t)):=Below.alloc h h.size _
theorem grown_trans {a b c:World} (h:Gr a b) (g:Gr b c):Gr a c:=below_trans h g
theorem grown_drewN {W w':World} (h:Gr W w') (n:Nat):Gr W (w'.drewN n):=below_drewN h n
def sm (c:Int):Int:=if 65≤c∧c≤90 then c+32 else c
def dv (c:Int):Int:=if 48≤c∧c≤57 then c - 48 else if 97≤c∧c≤122 then c - 87 else if 65≤c∧c≤90 then c - 55 else 99
def dg (k:Int):Int:=if k < 10 then 48+k else 87+k
def isD (c b:Int):Bool:=decide (2≤b∧b≤36∧dv c < b)
def vl (c b:Int):Int:=if isD c b=true then dv c else 0
theorem sm_bd (c:Int) (h0:0≤c) (h1:c < 256):0≤sm c∧sm c < 256:=by unfold sm;omega
theorem dv_bd (c:Int) (h0:0≤c) (h1:c < 256):0≤dv c∧dv c≤99:=by unfold dv;omega
theorem dg_hit (c k:Int) (h0:0≤c) (h1:c < 256) (k0:0≤k) (k1:k < 36) (h:dg k=sm c):dv c=k:=by
 unfold dg sm at h;unfold dv;omega
theorem dg_of (c:Int) (h0:0≤c) (h1:c < 256) (h:dv c < 36):dg (dv c)=sm c:=by
 unfold dv at h ⊢;unfold dg sm;omega
theorem isD_hit (c b k:Int) (h0:0≤c) (h1:c < 256) (b0:2≤b) (b1:b≤36) (k0:0≤k) (k1:k < b) (h:dg k=sm c):isD c b=true∧vl c b=k:=by
 have e:=dg_hit c k h0 h1 k0 (by omega) h
 have d:isD c b=true:=by unfold isD;simp;omega
 exact ⟨d,by unfold vl;rw[if_pos d,e]⟩
theorem isD_miss (c b:Int) (h0:0≤c) (h1:c < 256) (h:∀j:Nat,(j:Int) < b→¬dg j=sm c):isD c b=false∧vl c b=0:=by
 have d:isD c b=false:=by
  unfold isD
  simp
  intro b0 b1
  have hd:=dv_bd c h0 h1
  by_cases hc:dv c < b
  ·exfalso
   obtain ⟨n,hn⟩:=Int.eq_ofNat_of_zero_le hd.1
   exact h n (by omega) (by rw[←hn];exact dg_of c h0 h1 (by omega))
  ·omega
 exact ⟨d,by unfold vl;rw[if_neg (by rw[d];decide)]⟩
theorem isD_unfit (c b:Int) (h:b < 2∨36 < b):isD c b=false∧vl c b=0:=by
 have d:isD c b=false:=by unfold isD;simp;omega
 exact ⟨d,by unfold vl;rw[if_neg (by rw[d];decide)]⟩
theorem vl_bd (c b:Int) (h0:0≤c) (h1:c < 256):0≤vl c b∧vl c b≤35:=by
 unfold vl isD
 have:=dv_bd c h0 h1
 split
 ·simp at*;omega
 ·omega
def L (s:ByteArray):List Int:=s.data.toList.map fun c=>(c.toNat:Int)
theorem L_len (s:ByteArray):(L s).length=s.size:=by simp[L]
theorem L_get (s:ByteArray) (k:Nat) (h:k < s.size):(L s)[k]'(by rw[L_len];exact h)=(s[k].toNat:Int):=by
 simp[L];rfl
theorem L_take (s:ByteArray) (k:Nat) (h:k < s.size):(L s).take (k+1)=(L s).take k++[(s[k].toNat:Int)]:=by
 rw[List.take_succ_eq_append_getElem (by rw[L_len];exact h),L_get s k h]
theorem L_drop (s:ByteArray) (k:Nat) (h:k < s.size):(L s).drop k=(s[k].toNat:Int)::(L s).drop (k+1):=by
 rw[List.drop_eq_getElem_cons (by rw[L_len];exact h),L_get s k h]
theorem L_bd (s:ByteArray) (k:Nat) (h:k < s.size):0≤(s[k].toNat:Int)∧(s[k].toNat:Int) < 256:=by
 have:=s[k].toNat_lt;omega
theorem L_extract (s:ByteArray) (a b:Nat) (h:b≤s.size):L (s.extract a b)=((L s).drop a).take (b - a):=by
 unfold L
 rw[Lib.extract_data]
 rw[←List.map_drop,←List.map_take]
theorem L_from (s:ByteArray) (a:Nat):L (s.extract a s.size)=(L s).drop a:=by
 rw[L_extract s a s.size (Nat.le_refl _)]
 exact List.take_of_length_le (by rw[List.length_drop,L_len];exact Nat.le_refl _)
theorem L_tail (s:ByteArray):L (s.extract 1 s.size)=(L s).tail:=by
 rw[L_from];simp
def num (b:Int) (l:List Int):Int:=l.foldl (fun a c=>a*b+vl c b) 0
def allD (b:Int) (l:List Int):Bool:=l.all fun c=>isD c b
theorem num_snoc (b:Int) (l:List Int) (c:Int):num b (l++[c])=num b l*b+vl c b:=by simp[num]
theorem allD_snoc (b:Int) (l:List Int) (c:Int):allD b (l++[c])=(allD b l&&isD c b):=by simp[allD]
theorem allD_mid (b:Int) (l m:List Int) (c:Int) (h:isD c b=false):allD b (l++c::m)=false:=by simp[allD,h]
def prsT (neg:Bool) (l:List Int) (b:Int):Int×Int:=
 if l=[] then (0,15) else if allD b l=false then (0,15) else if 4294967296≤num b l then (0,4) else
 (if neg=true then (4294967296 - num b l)%4294967296 else num b l,0)
def prs (l:List Int) (b:Int):Int×Int:=
 if b < 2∨36 < b then (0,1) else if l.head? =some 45 then prsT true l.tail b else prsT false l b
theorem mul_b (n b:Int) (h0:0≤n) (h1:n < 4294967296) (b0:2≤b) (b1:b≤36):n*2≤n*b∧n*b≤n*36:=
 ⟨Int.mul_le_mul_of_nonneg_left b0 h0,Int.mul_le_mul_of_nonneg_left b1 h0⟩
theorem mul_ge (m b:Int) (h0:4294967296≤m) (b0:2≤b):4294967296≤m*b:=by
 have:m*2≤m*b:=Int.mul_le_mul_of_nonneg_left b0 (by omega)
 omega
def shF (b:Int):Nat→Int→List Int
 |0,_=>[]
 |f+1,n=>if n < b then [dg n] else shF b f (n / b)++[dg (n%b)]
def sh (b n:Int):List Int:=shF b 32 n
theorem shF_lo (b n:Int) (f:Nat) (h:n < b):shF b (f+1) n=[dg n]:=by simp[shF,h]
theorem shF_hi (b n:Int) (f:Nat) (h:¬n < b):shF b (f+1) n=shF b f (n / b)++[dg (n%b)]:=by simp[shF,h]
theorem div_half (n b:Int) (h0:0≤n) (b0:2≤b):0≤n / b∧n / b*2≤n∧0≤n%b∧n%b < b:=by
 have h1:n / b*b≤n:=Int.ediv_mul_le n (by omega)
 have h2:0≤n / b:=Int.ediv_nonneg h0 (by omega)
 have h3:n / b*2≤n / b*b:=Int.mul_le_mul_of_nonneg_left b0 h2
 exact ⟨h2,by omega,Int.emod_nonneg n (by omega),Int.emod_lt_of_pos n (by omega)⟩
theorem div_pos (n b:Int) (b0:2≤b) (h:¬n < b):0 < n / b:=by
 have:1≤n / b:=Int.le_ediv_of_mul_le (by omega) (by omega)
 omega
theorem dg_isD (b k:Int) (b0:2≤b) (b1:b≤36) (k0:0≤k) (k1:k < b):isD (dg k) b=true∧vl (dg k) b=k∧0≤dg k∧dg k < 256∧¬dg k=45:=by
 have e:dv (dg k)=k:=by unfold dg dv;omega
 have d:isD (dg k) b=true:=by unfold isD;rw[e];simp;omega
 refine ⟨d,by unfold vl;rw[if_pos d,e], ?_, ?_, ?_⟩ <;> (unfold dg;omega)
theorem shF_all (b:Int) (b0:2≤b) (b1:b≤36) (f:Nat):∀n:Int,0≤n→n < 2^f→0 < f→
  allD b (shF b f n)=true∧num b (shF b f n)=n∧(∀x∈shF b f n,0≤x∧x < 256∧¬x=45)∧shF b f n≠[]:=by
 induction f with
 |zero=>intro n _ _ h;omega
 |succ f ih=>
  intro n h0 h1 _
  by_cases c:n < b
  ·rw[shF_lo b n f c]
   obtain ⟨d1,d2,d3,d4,d5⟩:=dg_isD b n b0 b1 h0 c
   refine ⟨by simp[allD,d1],by simp[num,d2], ?_,by simp⟩
   intro x hx
   simp at hx
   subst hx
   exact ⟨d3,d4,d5⟩
  ·obtain ⟨q0,q1,r0,r1⟩:=div_half n b h0 b0
   have qp:=div_pos n b b0 c
   have hp:(2:Int)^(f+1)=2^f*2:=Int.pow_succ 2 f
   have hf:0 < f:=by
    rcases Nat.eq_zero_or_pos f with h|h
    ·subst h;simp at h1;omega
    ·exact h
   obtain ⟨i1,i2,i3,i4⟩:=ih (n / b) q0 (by omega) hf
   obtain ⟨d1,d2,d3,d4,d5⟩:=dg_isD b (n%b) b0 b1 r0 r1
   rw[shF_hi b n f c]
   refine ⟨by rw[allD_snoc,i1,d1];rfl, ?_, ?_,by simp⟩
   ·rw[num_snoc,i2,d2]
    exact Int.ediv_mul_add_emod n b
   ·intro x hx
    rw[List.mem_append] at hx
    rcases hx with hx|hx
    ·exact i3 x hx
    ·simp at hx
     subst hx
     exact ⟨d3,d4,d5⟩
theorem sh_all (b n:Int) (b0:2≤b) (b1:b≤36) (h0:0≤n) (h1:n < 4294967296):
  allD b (sh b n)=true∧num b (sh b n)=n∧(∀x∈sh b n,0≤x∧x < 256∧¬x=45)∧sh b n≠[]:=
 shF_all b b0 b1 32 n h0 (by simpa using h1) (by decide)
theorem bytes_take {xs:List Int} (h:bytesL xs) (n:Nat):bytesL (xs.take n):=fun x hx=>h x (List.mem_of_mem_take hx)
theorem bytes_drop {xs:List Int} (h:bytesL xs) (n:Nat):bytesL (xs.drop n):=fun x hx=>h x (List.mem_of_mem_drop hx)
theorem L_LB (s:ByteArray):L s=LB s:=rfl
def nmC (c:Int):Bool:=decide (33≤c∧c≤126∧¬(65≤c∧c≤90)∧¬c=47∧¬c=92∧¬c=58∧¬c=91∧¬c=93∧¬c=64)
def nmF (l:List Int):Bool:=decide (1≤l.length∧l.length≤31)&&l.all nmC
theorem nm_mid (l m:List Int) (c:Int) (h:nmC c=false):nmF (l++c::m)=false:=by simp[nmF,h]
def spl (d:Int) (cur:List Int):List Int→List (List Int)
 |[]=>[cur]
 |c::r=>if c=d then cur::spl d [] r else spl d (cur++[c]) r
theorem spl_skip (d:Int) (p r:List Int) (h:∀x∈p,¬x=d):∀cur,spl d cur (p++r)=spl d (cur++p) r:=by
 induction p with
 |nil=>intro cur;simp
 |cons x p ih=>
  intro cur
  rw[List.cons_append,spl,if_neg (h x (by simp)),ih (fun y hy=>h y (by simp[hy]))]
  simp
theorem spl_len (d:Int):∀(l cur:List Int),1≤(spl d cur l).length
 |[],_=>by simp[spl]
 |c::r,cur=>by
  unfold spl
  split
  ·simp
  ·exact spl_len d r _
def pcOk (p:List Int):Bool:=decide (1≤p.length∧p.length≤8)&&allD 16 p
def punF (l:List Int):List Int×Int:=
 if (spl 44 [] l).all pcOk=false then ([],15) else if 4 < (spl 44 [] l).length then ([],3) else ((spl 44 [] l).map (num 16),0)
theorem vl16_bd (c:Int) (h:isD c 16=true) (h0:0≤c) (h1:c < 256):0≤vl c 16∧vl c 16 < 16:=by
 unfold vl
 rw[if_pos h]
 unfold isD at h
 have:=dv_bd c h0 h1
 simp at h
 omega
theorem num16_lt (p:List Int) (hb:bytesL p) (hD:allD 16 p=true):0≤num 16 p∧num 16 p < 16^p.length:=by
 suffices h:∀q:List Int,bytesL q.reverse→allD 16 q.reverse=true→0≤num 16 q.reverse∧num 16 q.reverse < 16^q.length by
  have:=h p.reverse (by simpa using hb) (by simpa using hD)
  simpa using this
 intro q
 induction q with
 |nil=>intro _ _;simp[num]
 |cons c q ih=>
  intro hb hD
  rw[List.reverse_cons] at hb hD ⊢
  rw[allD_snoc,Bool.and_eq_true] at hD
  have i:=ih (fun x hx=>hb x (by simp at hx ⊢;exact Or.inl hx)) hD.1
  have hc:=hb c (by simp)
  have hv:=vl16_bd c hD.2 hc.1 hc.2
  rw[num_snoc,List.length_cons,Int.pow_succ]
  obtain ⟨k,hk⟩:∃k,(16:Int)^q.length=k:=⟨_,rfl⟩
  rw[hk] at i ⊢
  omega
theorem pc_num (p:List Int) (hb:bytesL p) (h:pcOk p=true):0≤num 16 p∧num 16 p < 4294967296:=by
 simp[pcOk] at h
 have h1:=num16_lt p hb h.2
 have h2:(16:Int)^p.length≤16^8:=by
  have:=Nat.pow_le_pow_right (n:=16) (by decide) h.1.2
  have e:((16^p.length:Nat):Int)≤((16^8:Nat):Int):=by omega
  simpa using e
 omega
theorem pc_prs (p:List Int) (hb:bytesL p) (h1:1≤p.length) (h8:p.length≤8) (hm:¬p.head? =some 45):prs p 16=if pcOk p=true then (num 16 p,0) else (0,15):=by
 have hne:¬p=[]:=by intro h;rw[h] at h1;simp at h1
 unfold prs
 rw[if_neg (by omega),if_neg hm]
 unfold prsT
 rw[if_neg hne]
 cases hD:allD 16 p
 ·rw[if_pos rfl,if_neg (by simp[pcOk,hD])]
 ·have hok:pcOk p=true:=by simp[pcOk,hD];omega
  have:=pc_num p hb hok
  rw[if_neg (by decide),if_neg (by omega),if_pos hok]
  simp
theorem pc_minus (p:List Int) (hm:p.head? =some 45):pcOk p=false:=by
 cases p with
 |nil=>simp at hm
 |cons c r=>
  simp at hm
  subst hm
  simp[pcOk,allD,isD,dv]
def shoT:List Int→List Int
 |[]=>[]
 |x::r=>44::(sh 16 x++shoT r)
def shoF (l:List Int):List Int:=(shoT l).drop 1
def cells (l:List Int):Prop:=∀x∈l,0≤x∧x < 4294967296
theorem shF_len16 (f:Nat):∀(k:Nat) (n:Int),0≤n→n < 16^(k+1)→(shF 16 f n).length≤k+1:=by
 induction f with
 |zero=>intro k n _ _;simp[shF]
 |succ f ih=>
  intro k n h0 h1
  unfold shF
  split
  ·simp
  ·rename_i hn
   cases k with
   |zero=>simp at h1;omega
   |succ k=>
    have:=ih k (n / 16) (by omega) (by rw[Int.pow_succ] at h1;omega)
    simp
    omega
abbrev Sp:=List Int×List Int×List Int
def upTo (c:Int):List Int→List Int
 |[]=>[]
 |x::l=>if x=c then [] else x::upTo c l
theorem upTo_len (c:Int) (l:List Int):(upTo c l).length≤l.length:=by
 induction l with
 |nil=>simp[upTo]
 |cons x l ih=>simp only[upTo];split <;> simp;omega
theorem upTo_take (c:Int) (l:List Int):l.take (upTo c l).length=upTo c l:=by
 induction l with
 |nil=>simp[upTo]
 |cons x l ih=>simp only[upTo];split <;> simp[ih]
theorem upTo_free (c:Int) (l:List Int):∀x∈upTo c l,¬x=c:=by
 induction l with
 |nil=>simp[upTo]
 |cons x l ih=>
  simp only[upTo]
  split
  ·simp
  ·rename_i h
   intro y hy
   simp at hy
   rcases hy with rfl|hy
   ·exact h
   ·exact ih y hy
theorem upTo_mem (c:Int) (l:List Int):∀x∈upTo c l,x∈l:=by
 intro x hx
 rw[←upTo_take c l] at hx
 exact List.mem_of_mem_take hx
theorem upTo_all (c:Int) (l:List Int) (h:∀x∈l,¬x=c):upTo c l=l:=by
 induction l with
 |nil=>rfl
 |cons x l ih=>rw[upTo,if_neg (h x (by simp)),ih (fun y hy=>h y (by simp[hy]))]
theorem upTo_app (c:Int) (a b:List Int) (h:∀x∈a,¬x=c):upTo c (a++c::b)=a:=by
 induction a with
 |nil=>simp[upTo]
 |cons x a ih=>rw[List.cons_append,upTo,if_neg (h x (by simp)),ih (fun y hy=>h y (by simp[hy]))]
theorem upTo_split (c:Int) (l:List Int) (h:(upTo c l).length < l.length):l=upTo c l++c::l.drop ((upTo c l).length+1):=by
 induction l with
 |nil=>simp[upTo] at h
 |cons x l ih=>
  by_cases hx:x=c
  ·subst hx;simp[upTo]
  ·simp only[upTo,if_neg hx,List.length_cons] at h ⊢
   have:=ih (by omega)
   simp only[List.cons_append,List.drop_succ_cons]
   rw[←this]
def stepF (l:List Int):Option Sp:=
 if (upTo 64 (upTo 58 l)).length < (upTo 58 l).length∧¬(punF ((upTo 58 l).drop ((upTo 64 (upTo 58 l)).length+1))).2=0 then none
 else if nmF (upTo 64 (upTo 58 l))=true then
  some (upTo 64 (upTo 58 l),if (upTo 64 (upTo 58 l)).length < (upTo 58 l).length then (punF ((upTo 58 l).drop ((upTo 64 (upTo 58 l)).length+1))).1 else [],l.drop ((upTo 58 l).length+1))
 else none
def stepL:List (List Int)→Option (List Sp)
 |[]=>some []
 |p::r=>match stepF p,stepL r with
  |some x,some l=>some (x::l)
  |_,_=>none
def parF (l:List Int):List Sp×Int:=
 if 256 < l.length then ([],3) else if l=[47] then ([],0) else
 match l with
 |47::r=>(match stepL (spl 47 [] r) with
  |some x=>(x,0)
  |none=>([],15))
 |_=>([],15)
def okS (x:Sp):Bool:=nmF x.1&&(decide (x.2.1.length≤4)&&x.2.2.all (fun c=>decide (¬c=47)))
def bodT (x:Sp):List Int:=x.1++((if x.2.1=[] then [] else 64::shoF x.2.1)++(if x.2.2=[] then [] else 58::x.2.2))
def shpT:List Sp→List Int
 |[]=>[]
 |x::l=>47::(bodT x++shpT l)
theorem sho_byte (l:List Int) (h:cells l):∀x∈shoF l,¬x=47∧¬x=58∧¬x=64:=by
 have key:∀l:List Int,cells l→∀x∈shoT l,¬x=47∧¬x=58∧¬x=64:=by
  intro l
  induction l with
  |nil=>intro _ x hx;simp[shoT] at hx
  |cons y l ih=>
   intro h x hx
   simp only[shoT,List.mem_cons,List.mem_append] at hx
   rcases hx with rfl|hx|hx
   ·omega
   ·have h2:=(sh_all 16 y (by omega) (by omega) (h y (by simp)).1 (h y (by simp)).2).1
    unfold allD at h2
    rw[List.all_eq_true] at h2
    have:=h2 x hx
    unfold isD dv at this
    simp at this
    refine ⟨?_, ?_, ?_⟩ <;> (intro e;subst e;simp at this)
   ·exact ih (fun z hz=>h z (by simp[hz])) x hx
 exact fun x hx=>key l h x (List.mem_of_mem_drop hx)
theorem num_short (p:List Int) (hb:bytesL p) (h:pcOk p=true):(sh 16 (num 16 p)).length≤p.length:=by
 have hn:=pc_num p hb h
 simp[pcOk] at h
 have h1:=num16_lt p hb h.2
 obtain ⟨k,hk⟩:∃k,p.length=k+1:=⟨p.length - 1,by omega⟩
 rw[hk] at h1 ⊢
 exact shF_len16 32 k _ h1.1 h1.2
theorem pun_parts (l:List Int) (hb:bytesL l) (h:(punF l).2=0):(spl 44 [] l).all pcOk=true∧(spl 44 [] l).length≤4∧(punF l).1=(spl 44 [] l).map (num 16):=by
 unfold punF at h ⊢
 split at h
 ·simp at h
 ·rename_i h1
  split at h
  ·simp at h
  ·rename_i h2
   rw[if_neg h1,if_neg h2]
   exact ⟨by simpa using h1,by omega,rfl⟩
theorem spl_bytes (d:Int):∀(l cur:List Int),bytesL l→bytesL cur→∀p∈spl d cur l,bytesL p
 |[],cur,_,h2,p,hp=>by simp[spl] at hp;subst hp;exact h2
 |c::r,cur,h1,h2,p,hp=>by
  have hr:bytesL r:=fun x hx=>h1 x (by simp[hx])
  simp only[spl] at hp
  split at hp
  ·simp only[List.mem_cons] at hp
   rcases hp with rfl|hp
   ·exact h2
   ·exact spl_bytes d r [] hr (fun x hx=>by simp at hx) p hp
  ·exact spl_bytes d r (cur++[c]) hr (fun x hx=>by
    rcases List.mem_append.1 hx with hx|hx
    ·exact h2 x hx
    ·simp at hx;subst hx;exact h1 x (by simp)) p hp
theorem spl_free (d:Int):∀(l cur:List Int),(∀x∈cur,¬x=d)→∀p∈spl d cur l,∀x∈p,¬x=d
 |[],cur,h,p,hp=>by simp[spl] at hp;subst hp;exact h
 |c::r,cur,h,p,hp=>by
  simp only[spl] at hp
  split at hp
  ·simp only[List.mem_cons] at hp
   rcases hp with rfl|hp
   ·exact h
   ·exact spl_free d r [] (fun x hx=>by simp at hx) p hp
  ·rename_i hc
   exact spl_free d r (cur++[c]) (fun x hx=>by
    rcases List.mem_append.1 hx with hx|hx
    ·exact h x hx
    ·simp at hx;subst hx;exact hc) p hp
def sumL:List (List Int)→Nat
 |[]=>0
 |p::r=>p.length+1+sumL r
theorem spl_sum (d:Int):∀(l cur:List Int),sumL (spl d cur l)=cur.length+l.length+1
 |[],cur=>by simp[spl,sumL]
 |c::r,cur=>by
  simp only[spl]
  split
  ·simp only[sumL,spl_sum d r [],List.length_nil,List.length_cons];omega
  ·rw[spl_sum d r (cur++[c])];simp;omega
theorem sho_short:∀(ps:List (List Int)),(∀p∈ps,bytesL p)→ps.all pcOk=true→(shoT (ps.map (num 16))).length≤sumL ps
 |[],_,_=>by simp[shoT,sumL]
 |p::r,hb,h=>by
  rw[List.all_cons,Bool.and_eq_true] at h
  have h1:=num_short p (hb p (by simp)) h.1
  have h2:=sho_short r (fun q hq=>hb q (by simp[hq])) h.2
  simp only[List.map_cons,shoT,sumL,List.length_cons,List.length_append]
  omega
theorem pun_short (l:List Int) (hb:bytesL l) (h:(punF l).2=0):cells (punF l).1∧(punF l).1.length≤4∧(shoF (punF l).1).length≤l.length∧(punF l).1≠[]:=by
 obtain ⟨h1,h2,h3⟩:=pun_parts l hb h
 have hpb:=spl_bytes 44 l [] hb (fun x hx=>by simp at hx)
 have hs:=spl_sum 44 l []
 have hsl:=spl_len 44 l []
 rw[h3]
 refine ⟨?_,by simpa using h2, ?_, ?_⟩
 ·intro x hx
  rw[List.mem_map] at hx
  obtain ⟨p,hp,rfl⟩:=hx
  rw[List.all_eq_true] at h1
  exact pc_num p (hpb p hp) (h1 p hp)
 ·have:=sho_short _ hpb h1
  unfold shoF
  rw[List.length_drop]
  simp at hs
  omega
 ·intro e
  have:=congrArg List.length e
  simp at this
  rw[this] at hsl
  simp at hsl
theorem step_ok7 (p:List Int) (x:Sp) (hb:bytesL p) (hf:∀c∈p,¬c=47) (h:stepF p=some x):okS x=true∧cells x.2.1∧(bodT x).length≤p.length∧bytesL x.1∧bytesL x.2.2:=by
 have hl1:=upTo_len 58 p
 have hl2:=upTo_len 64 (upTo 58 p)
 have hb1:bytesL (upTo 58 p):=fun c hc=>hb c (upTo_mem 58 p c hc)
 have hb2:bytesL (upTo 64 (upTo 58 p)):=fun c hc=>hb1 c (upTo_mem 64 _ c hc)
 have hb3:bytesL (p.drop ((upTo 58 p).length+1)):=fun c hc=>hb c (List.mem_of_mem_drop hc)
 have hf3:∀c∈p.drop ((upTo 58 p).length+1),¬c=47:=fun c hc=>hf c (List.mem_of_mem_drop hc)
 have hl3:(p.drop ((upTo 58 p).length+1)).length=p.length - ((upTo 58 p).length+1):=by simp
 unfold stepF at h
 split at h
 ·cases h
 ·rename_i h1
  split at h
  ·rename_i h2
   have h:=Option.some.inj h
   subst h
   by_cases hat:(upTo 64 (upTo 58 p)).length < (upTo 58 p).length
   ·have hE:(punF ((upTo 58 p).drop ((upTo 64 (upTo 58 p)).length+1))).2=0:=by
     by_cases e:(punF ((upTo 58 p).drop ((upTo 64 (upTo 58 p)).length+1))).2=0
     ·exact e
     ·exact absurd ⟨hat,e⟩ h1
    obtain ⟨u1,u2,u3,u4⟩:=pun_short _ (fun c hc=>hb1 c (List.mem_of_mem_drop hc)) hE
    have hl4:((upTo 58 p).drop ((upTo 64 (upTo 58 p)).length+1)).length=(upTo 58 p).length - ((upTo 64 (upTo 58 p)).length+1):=by simp
    refine ⟨?_, ?_, ?_,hb2,hb3⟩
    ·unfold okS
     rw[Bool.and_eq_true,Bool.and_eq_true,List.all_eq_true]
     refine ⟨h2, ?_,fun c hc=>by simpa using hf3 c hc⟩
     simp only[if_pos hat]
     simpa using u2
    ·simp only[if_pos hat];exact u1
    ·unfold bodT
     simp only[if_pos hat,if_neg u4,List.length_append,List.length_cons]
     split
     ·simp only[List.length_nil];omega
     ·rename_i hne
      have:0 < (p.drop ((upTo 58 p).length+1)).length:=List.length_pos_iff.2 hne
      simp only[List.length_cons]
      omega
   ·refine ⟨?_, ?_, ?_,hb2,hb3⟩
    ·unfold okS
     rw[Bool.and_eq_true,Bool.and_eq_true,List.all_eq_true]
     refine ⟨h2, ?_,fun c hc=>by simpa using hf3 c hc⟩
     simp only[if_neg hat]
     decide
    ·simp only[if_neg hat];intro c hc;simp at hc
    ·unfold bodT
     simp only[if_neg hat,if_true,List.length_append,List.length_nil]
     split
     ·simp only[List.length_nil];omega
     ·rename_i hne
      have:0 < (p.drop ((upTo 58 p).length+1)).length:=List.length_pos_iff.2 hne
      simp only[List.length_cons]
      omega
  ·cases h
theorem stepL_ok:∀(ps:List (List Int)) (l:List Sp),(∀p∈ps,bytesL p∧∀c∈p,¬c=47)→stepL ps=some l→(∀x∈l,okS x=true∧cells x.2.1∧bytesL x.1∧bytesL x.2.2)∧(shpT l).length≤sumL ps∧l.length=ps.length
 |[],l,_,h=>by simp[stepL] at h;subst h;simp[shpT,sumL]
 |p::r,l,hp,h=>by
  rw[stepL] at h
  split at h
  ·rename_i x l' h1 h2
   have h:=Option.some.inj h
   subst h
   have hx:=step_ok7 p x (hp p (by simp)).1 (hp p (by simp)).2 h1
   obtain ⟨i1,i2,i3⟩:=stepL_ok r l' (fun q hq=>hp q (by simp[hq])) h2
   refine ⟨fun y hy=> ?_, ?_,by simp[i3]⟩
   ·simp only[List.mem_cons] at hy
    rcases hy with rfl|hy
    ·exact ⟨hx.1,hx.2.1,hx.2.2.2⟩
    ·exact i1 y hy
   ·have:=hx.2.2.1
    simp only[shpT,sumL,List.length_cons,List.length_append]
    omega
  ·cases h
theorem par_ok (s:List Int) (hb:bytesL s) (h:(parF s).2=0):(∀x∈(parF s).1,okS x=true∧cells x.2.1∧bytesL x.1∧bytesL x.2.2)∧(shpT (parF s).1).length≤s.length∧s.length≤256∧((parF s).1=[]→s=[47]):=by
 unfold parF at h ⊢
 split at h
 ·simp at h
 ·rename_i h1
  rw[if_neg h1]
  split at h
  ·rename_i h2
   rw[if_pos h2]
   exact ⟨fun x hx=>by simp at hx,by simp[shpT],by omega,fun _=>h2⟩
  ·rename_i h2
   rw[if_neg h2]
   split at h
   ·rename_i r
    cases hs:stepL (spl 47 [] r) with
    |none=>rw[hs] at h;simp at h
    |some l=>
     have hrb:bytesL r:=fun x hx=>hb x (by simp[hx])
     obtain ⟨i1,i2,i3⟩:=stepL_ok _ l (fun p hp=>⟨spl_bytes 47 r [] hrb (fun x hx=>by simp at hx) p hp,spl_free 47 r [] (fun x hx=>by simp at hx) p hp⟩) hs
     have hsm:=spl_sum 47 r []
     have hsl:=spl_len 47 r []
     simp only[hs]
     refine ⟨i1, ?_,by omega,fun e=> ?_⟩
     ·simp at hsm
      simp only[List.length_cons]
      omega
     ·rw[e] at i3
      simp at i3
      omega
   ·simp at h
abbrev Pp:=List Int×List Int
abbrev Nd:=List Int×List Int×Int×List Pp×List Int
def pfF (l:List Pp) (nm:List Int):Option Nat:=l.findIdx? (fun x=>decide (x.1=nm))
def twF (t:List Nd) (p:Int) (nm un:List Int):Bool:=t.any (fun x=>decide (x.2.2.1=p)&&(decide (x.1=nm)&&decide (x.2.1=un)))
def okP (l:List Pp) (k:Nat) (x:Pp):Bool:=nmF x.1&&(decide (x.2.length≤256)&&(pfF (l.take k) x.1).isNone)
def okA (t:List Nd) (i:Nat) (x:Nd):Bool:=nmF x.1&&(decide (x.2.1.length≤4)&&(decide (0≤x.2.2.1)&&(decide (x.2.2.1 < i)&& !twF (t.take i) x.2.2.1 x.1 x.2.1)))
def okR (l:List Pp):Bool:=decide (∀k (h:k < l.length),okP l k l[k]=true)
def okN (t:List Nd) (i:Nat) (x:Nd):Bool:=(decide (i=0)||okA t i x)&&(decide (x.2.2.2.1.length≤16)&&(decide (x.2.2.2.2.length≤16)&&okR x.2.2.2.1))
def rootF (x:Nd):Bool:=decide (x.1=[])&&(decide (x.2.1=[])&&decide (x.2.2.1= -1))
def frmT (t:List Nd):Bool:=decide (∃h:1≤t.length,t.length≤32∧rootF t[0]=true∧∀i (h:i < t.length),okN t i t[i]=true)
theorem frm_iff (t:List Nd):frmT t=true↔∃h:1≤t.length,t.length≤32∧rootF t[0]=true∧∀i (h:i < t.length),okN t i t[i]=true:=by
 unfold frmT
 rw[decide_eq_true_eq]
theorem pf_some {l:List Pp} {nm:List Int} {k:Nat} (h:pfF l nm=some k):∃g:k < l.length,l[k].1=nm∧∀j (hj:j < k),¬(l[j]'(by omega)).1=nm:=by
 unfold pfF at h
 rw[List.findIdx?_eq_some_iff_getElem] at h
 obtain ⟨g,h1,h2⟩:=h
 exact ⟨g,by simpa using h1,fun j hj=>by simpa using h2 j hj⟩
theorem pf_none {l:List Pp} {nm:List Int}:pfF l nm=none↔∀x∈l,¬x.1=nm:=by
 unfold pfF
 rw[List.findIdx?_eq_none_iff]
 simp
theorem pf_hit {l:List Pp} {nm:List Int} {k:Nat} (g:k < l.length) (h1:l[k].1=nm) (h2:∀j (hj:j < k),¬(l[j]'(by omega)).1=nm):pfF l nm=some k:=by
 unfold pfF
 rw[List.findIdx?_eq_some_iff_getElem]
 exact ⟨g,by simpa using h1,fun j hj=>by simpa using h2 j hj⟩
def apartN (l:List Pp):Prop:=∀i j (hi:i < l.length) (hj:j < l.length),i < j→¬l[i].1=l[j].1
theorem okR_iff (l:List Pp):okR l=true↔(∀x∈l,nmF x.1=true∧x.2.length≤256)∧apartN l:=by
 unfold okR
 rw[decide_eq_true_eq]
 constructor
 ·intro h
  refine ⟨fun x hx=> ?_,fun i j hi hj hij=> ?_⟩
  ·obtain ⟨k,hk,rfl⟩:=List.getElem_of_mem hx
   have:=h k hk
   unfold okP at this
   simp only[Bool.and_eq_true,decide_eq_true_eq] at this
   exact ⟨this.1,this.2.1⟩
  ·have:=h j hj
   unfold okP at this
   simp only[Bool.and_eq_true,Option.isNone_iff_eq_none] at this
   have h3:=pf_none.1 this.2.2 l[i] (by rw[List.mem_take_iff_getElem];exact ⟨i,by omega,rfl⟩)
   exact h3
 ·rintro ⟨h1,h2⟩ k hk
  unfold okP
  have:=h1 l[k] (List.getElem_mem hk)
  simp only[Bool.and_eq_true,Option.isNone_iff_eq_none,decide_eq_true_eq]
  refine ⟨this.1,this.2,pf_none.2 fun x hx=> ?_⟩
  rw[List.mem_take_iff_getElem] at hx
  obtain ⟨i,hi,rfl⟩:=hx
  exact h2 i k (by omega) hk (by omega)
def addF (t:List Nd) (p:Int) (nm un:List Int):List Nd×Int×Int:=
 if frmT t=false then ([],0,1) else if p < 0∨(t.length:Int)≤p then ([],0,19) else if nmF nm=false∨4 < un.length then ([],0,1)
 else if twF t p nm un=true then ([],0,20) else if 32≤t.length then ([],0,22) else (t++[(nm,un,p,[],[])],t.length,0)
def wrgF (t:List Nd) (n:Int):Int:=if frmT t=false then 1 else if n < 0∨(t.length:Int)≤n then 19 else 0
abbrev Opd:=Int×Int
end Go.Proofs.YtlokhciaaepenaaGreatDoor
