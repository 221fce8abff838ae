import Derived.Lib.Bytealg
import Derived.Lib.BytesEntry
import Derived.Lib.ConvBytes
import Derived.Lib.AtoiErrMem
import Derived.Laws.Externs
import Derived.Lib.Strings
import Derived.Lib.Walk
import Derived.Lib.BufferWrite
import Derived.Lib.UnsafeStr
import Derived.Lib.Hide
import Derived.Lib.IfaceEq
import Derived.Laws.MakeOwn
import Derived.Laws.Strings3
import Derived.Laws.Closers25
import Derived.Laws.Closers25b
import Derived.BigCall
import Derived.BigGuard
import Derived.Laws.AppendOwn
import Derived.Test.YtkkehbdahniiaaaGreatDoorB9
set_option linter.unusedVariables false
set_option linter.unusedSimpArgs false
set_option maxRecDepth 100000
namespace Go.Proofs.YtkkehbdahniiaaaGreatDoor
def fdF (p:Int→Bool) (X:List Int) (i:Nat):Nat:=i+((X.drop i).takeWhile (fun x=> !p x)).length
theorem fd_hit (p:Int→Bool) (X:List Int) (i:Nat) (h:i < X.length) (hc:p X[i]=true):fdF p X i=i:=by
 unfold fdF
 rw[List.drop_eq_getElem_cons h,List.takeWhile_cons,if_neg (by simp[hc])]
 rfl
theorem fd_on (p:Int→Bool) (X:List Int) (i:Nat) (h:i < X.length) (hc:p X[i]=false):fdF p X i=fdF p X (i+1):=by
 unfold fdF
 rw[List.drop_eq_getElem_cons h,List.takeWhile_cons,if_pos (by simp[hc])]
 simp
 omega
theorem fd_end (p:Int→Bool) (X:List Int) (i:Nat) (h:X.length≤i):fdF p X i=i:=by
 unfold fdF
 rw[List.drop_of_length_le h]
 rfl
theorem fd_ge (p:Int→Bool) (X:List Int) (i:Nat):i≤fdF p X i:=by unfold fdF;omega
theorem fd_le (p:Int→Bool) (X:List Int) (i:Nat) (h:i≤X.length):fdF p X i≤X.length:=by
 unfold fdF
 have h1:=(List.takeWhile_sublist (fun x=> !p x) (l:=X.drop i)).length_le
 rw[List.length_drop] at h1
 omega
def blC (c:Int):Bool:=decide (c≤32)
def soC (c:Int):Bool:= !decide (c≤32)
def grC (c:Int):Bool:=decide (65≤c)&&decide (c≤90)
theorem fd_at (p:Int→Bool) (X:List Int):∀(n i:Nat),X.length - i=n→∀(h:fdF p X i < X.length),p X[fdF p X i]=true:=by
 intro n
 induction n with
 |zero=>
  intro i hn h
  have:=fd_ge p X i
  omega
 |succ n ih=>
  intro i hn h
  have hi:i < X.length:=by omega
  cases hc:p X[i]
  ·have e:=fd_on p X i hi hc
   have e2:=ih (i+1) (by omega) (by rw[←e];exact h)
   simp only[e]
   exact e2
  ·have e:=fd_hit p X i hi hc
   simp only[e]
   exact hc
theorem CR_skip (X:List Int) (t:List Tk):∀(n i:Nat),X.length - i=n→CR X i t=CR X (fdF soC X i) t:=by
 intro n
 induction n with
 |zero=>intro i hn;rw[fd_end soC X i (by omega)]
 |succ n ih=>
  intro i hn
  have hi:i < X.length:=by omega
  by_cases hb:X[i]≤32
  ·rw[CR_blank X i t hi hb,fd_on soC X i hi (by simp[soC,hb]),ih (i+1) (by omega)]
  ·rw[fd_hit soC X i hi (by simp[soC];omega)]
theorem CW_skip (X:List Int) (t:List Tk) (i:Nat):∀(n k:Nat),X.length - k=n→i≤k→k≤X.length→CW X k (cutL X i k) i t=CW X (fdF blC X k) (cutL X i (fdF blC X k)) i t∧WE X (fdF blC X k):=by
 intro n
 induction n with
 |zero=>
  intro k hn hi hk
  rw[fd_end blC X k (by omega)]
  exact ⟨rfl,Or.inl (by omega)⟩
 |succ n ih=>
  intro k hn hi hk
  have hkl:k < X.length:=by omega
  by_cases hb:X[k]≤32
  ·rw[fd_hit blC X k hkl (by simp[blC,hb])]
   exact ⟨rfl,Or.inr (by rw[blk_in X k _ hkl rfl];simpa using hb)⟩
  ·rw[fd_on blC X k hkl (by simp[blC];omega),CW_on X i k t hi hkl hb]
   exact ih (k+1) (by omega) (by omega) (by omega)
theorem CR_all (X:List Int) (t:List Tk) (i:Nat) (h:i < X.length) (hb:¬X[i]≤32):i < fdF blC X i∧WE X (fdF blC X i)∧CR X i t=CW X (fdF blC X i) (cutL X i (fdF blC X i)) i t:=by
 have e:=fd_on blC X i h (by simp[blC];omega)
 have g:=fd_ge blC X (i+1)
 obtain ⟨h1,h2⟩:=CW_skip X t i _ (i+1) rfl (by omega) (by omega)
 rw[e]
 exact ⟨by omega,h2,by rw[CR_word X i t h hb];exact h1⟩
def AtB (l:List Int) (c i:Int):Prop:=(i= -1∧∀x∈l,¬x=c)∨∃k:Nat,i=k∧k < l.length∧l=l.take k++c::l.drop (k+1)∧∀x∈l.take k,¬x=c
theorem tw_all (c:Int):∀(l:List Int),(∀x∈l,¬x=c)→(l.takeWhile (fun x=>decide (¬x=c)))=l
 |[],_=>rfl
 |a::l,h=>by
  rw[List.takeWhile_cons,if_pos (by simpa using h a (by simp)),tw_all c l (fun x hx=>h x (by simp[hx]))]
theorem tw_mid (c:Int) (m:List Int):∀(l:List Int),(∀x∈l,¬x=c)→((l++c::m).takeWhile (fun x=>decide (¬x=c)))=l
 |[],_=>by simp
 |a::l,h=>by
  rw[List.cons_append,List.takeWhile_cons,if_pos (by simpa using h a (by simp)),tw_mid c m l (fun x hx=>h x (by simp[hx]))]
theorem at_nx {X:List Int} {a:Nat} {c i:Int} (h:AtB (X.drop a) c i) (ha:a≤X.length):(i= -1∧nxF X a c=X.length)∨∃k:Nat,i=k∧nxF X a c=a+k∧a+k < X.length:=by
 rcases h with ⟨h1,h2⟩|⟨k,h1,h2,h3,h4⟩
 ·left
  refine ⟨h1, ?_⟩
  unfold nxF
  rw[tw_all c _ h2,List.length_drop]
  omega
 ·right
  refine ⟨k,h1, ?_,by rw[List.length_drop] at h2;omega⟩
  unfold nxF
  rw[h3,tw_mid c _ _ h4,List.length_take]
  omega
def pairF:List Int→Option (List Int)
 |[]=>some []
 |[_]=>none
 |a::b::r=>if (isD a 16&&isD b 16)=true then (pairF r).map ((vl a 16*16+vl b 16)::·) else none
def filB (l:List Int):List Int:=l.filter soC
theorem pair_bad (a:Int) (l:List Int) (h:isD a 16=false):pairF (a::l)=none:=by
 cases l with
 |nil=>rfl
 |cons b l=>simp[pairF,h]
theorem hex_pair:∀(h:List Int),hexG none h=pairF (filB h)∧∀a,isD a 16=true→hexG (some (vl a 16)) h=pairF (a::filB h)
 |[]=>⟨rfl,fun a _=>rfl⟩
 |c::r=>by
  obtain ⟨i1,i2⟩:=hex_pair r
  unfold filB at i1 i2 ⊢
  by_cases hb:c≤32
  ·have e:(c::r).filter soC=r.filter soC:=by rw[List.filter_cons,if_neg (by simp[soC,hb])]
   rw[e]
   refine ⟨?_,fun a ha=> ?_⟩
   ·simp only[hexG];rw[if_pos hb];exact i1
   ·simp only[hexG];rw[if_pos hb];exact i2 a ha
  ·have e:(c::r).filter soC=c::r.filter soC:=by rw[List.filter_cons,if_pos (by simp[soC];omega)]
   rw[e]
   cases hd:isD c 16
   ·refine ⟨?_,fun a ha=> ?_⟩
    ·simp only[hexG];rw[if_neg hb,if_pos hd,pair_bad c _ hd]
    ·simp only[hexG];rw[if_neg hb,if_pos hd];simp[pairF,hd]
   ·refine ⟨?_,fun a ha=> ?_⟩
    ·simp only[hexG];rw[if_neg hb,if_neg (by rw[hd];decide)];exact i2 c hd
    ·simp only[hexG];rw[if_neg hb,if_neg (by rw[hd];decide),i1]
     simp[pairF,ha,hd]
theorem pair_odd:∀(l:List Int),l.length%2=1→pairF l=none
 |[],h=>by simp at h
 |[_],_=>rfl
 |a::b::r,h=>by
  have e:=pair_odd r (by simp only[List.length_cons] at h;omega)
  simp[pairF,e]
theorem pair_at (D:List Int) (k:Nat) (h:2*k+1 < D.length):pairF (D.drop (2*k))=if (isD (D[2*k]'(by omega)) 16&&isD D[2*k+1] 16)=true then (pairF (D.drop (2*(k+1)))).map ((vl (D[2*k]'(by omega)) 16*16+vl D[2*k+1] 16)::·) else none:=by
 rw[List.drop_eq_getElem_cons (show 2*k < D.length by omega),List.drop_eq_getElem_cons h,show 2*(k+1)=2*k+1+1 by omega]
 simp only[pairF]
theorem filB_len (l:List Int):(filB l).length≤l.length:=List.length_filter_le _ _
theorem filB_snoc (l:List Int) (c:Int):filB (l++[c])=filB l++if soC c=true then [c] else []:=by
 unfold filB
 rw[List.filter_append,List.filter_cons,List.filter_nil]
theorem filB_bytes {l:List Int} (h:bytesL l):bytesL (filB l):=fun x hx=>h x (List.mem_filter.1 hx).1
def QQ (X:List Int) (i j:Nat) (ys:List Int):Prop:=i < j∧j≤X.length∧(∀g:j < X.length,¬X[j]=40)∧∀k p out,run i (cutL X i j) (.qt k [] p,out)=(.qq k ys p,out)
theorem QQ_of {X:List Int} {i j k:Nat} {ys:List Int} (h:QS X i j ys) (hk:nxF X j 34=k) (hn:k < X.length) (h1:∀g:k+1 < X.length,¬X[k+1]=40):QQ X i (k+1) (ys++cutL X j k):=by
 subst hk
 have hge:=nx_ge X j 34
 exact ⟨by have:=h.1;omega,by omega,h1,QS_qq h hn⟩
theorem QQ_done {X:List Int} {i j:Nat} {ys:List Int} (h:QQ X i j ys) (hl:ys.length≤255) (h1:∀g:j < X.length,X[j]≤32):QO X i j ys:=by
 refine ⟨h.1,h.2.1,hl, ?_,h.2.2.2⟩
 rcases Nat.lt_or_ge j X.length with g|g
 ·right
  rw[blk_in X _ _ g rfl]
  simpa using h1 g
 ·left;have:=h.2.1;omega
theorem QQ_wrong {X:List Int} {i j:Nat} {ys:List Int} (h:QQ X i j ys) (g:j < X.length) (h1:¬X[j]≤32):QE X i 15:=by
 intro k p out
 rw[run_rest X i j (by have:=h.1;omega) h.2.1,h.2.2.2,List.drop_eq_getElem_cons g]
 simp only[run,step]
 rw[if_neg (h.2.2.1 g),if_neg h1,run_ert]
 rfl
theorem QQ_long {X:List Int} {i j:Nat} {ys:List Int} (h:QQ X i j ys) (hl:255 < ys.length) (h1:∀g:j < X.length,X[j]≤32):QE X i 3:=by
 intro k p out
 rw[run_rest X i j (by have:=h.1;omega) h.2.1,h.2.2.2]
 rcases Nat.lt_or_ge j X.length with g|g
 ·have:=h1 g
  rw[List.drop_eq_getElem_cons g]
  simp only[run,step]
  rw[if_neg (by omega),if_pos this]
  unfold fin
  rw[if_pos hl,run_erl]
  rfl
 ·rw[List.drop_of_length_le g]
  simp only[run,eof]
  rw[if_pos hl]
theorem QQ_err {X:List Int} {i j:Nat} {ys:List Int} (h:QQ X i j ys) (hl:255 < ys.length):∃F,(F=3∨F=15)∧QE X i F:=by
 by_cases h1:∀g:j < X.length,X[j]≤32
 ·exact ⟨3,Or.inl rfl,QQ_long h hl h1⟩
 ·obtain ⟨g,hg⟩:=Classical.not_forall.1 h1
  exact ⟨15,Or.inr rfl,QQ_wrong h g hg⟩
theorem nx_hex {X:List Int} {j k:Nat} (hk:nxF X j 34=k) (hn:k+1 < X.length) (h1:X[k+1]=40):nxF X k 41=nxF X (k+2) 41:=by
 have e0:X[k]'(by omega)=34:=by
  subst hk
  exact nx_at X j 34 (by omega)
 rw[nx_on X k 41 (by omega) (by rw[e0];decide),nx_on X (k+1) 41 hn (by rw[h1];decide)]
def NxOk (X:List Int) (i:Nat) (k:Int) (t:List Int) (p:Int) (b:Nat):Prop:=i < b∧b≤X.length∧∀ts,CR X i ts=CR X b (if k=0 then ts else ts++[(k,t,p)])
def NxNo (X:List Int) (i:Nat) (E:Int):Prop:=∃F,(E=F∨E=3∧F=15)∧(E=3∨E=15)∧∀ts,CR X i ts=([],F)
open Go.ChangeShapes Go.WideShapes Go.ChangeAt Go.RowKit
theorem str_part (s:ByteArray) (f k:Nat) (h1:f≤k) (h2:k≤s.size):∃T:ByteArray,(∀w,(Instr.slice 9 (.string s) (some (.int .i64 (f:Int))) (some (.int .i64 (k:Int))) none).run Tryz.prog w= .ok (.string T) w)∧L T=cutL (L s) f k∧T.size=k - f:=by
 have e:L (s.extract f k)=cutL (L s) f k:=L_extract s f k h2
 refine ⟨s.extract f k,fun w=> ?_,e, ?_⟩
 ·simp[Instr.slice,Instr.sliceBounds,run_underlying Tryz.underlying9,run_sliceBound,h1,h2]
 ·rw[←L_len,e,cutL_len (L s) f k h1 (by rw[L_len];exact h2)]
theorem atB_index (u:UInt8):∀l:List UInt8,AtB (l.map fun c=>(c.toNat:Int)) u.toNat (Lib.indexByte l u)
 |[]=>Or.inl ⟨rfl,fun x hx=>by simp at hx⟩
 |b::l=>by
  unfold Lib.indexByte
  by_cases hb:b=u
  ·subst hb
   simp only[beq_self_eq_true,if_true]
   exact Or.inr ⟨0,rfl,by simp,by simp,fun x hx=>by simp at hx⟩
  ·have hne:(b==u)=false:=by simpa using hb
   have hni:¬(b.toNat:Int)=u.toNat:=by
    intro h
    exact hb (UInt8.toNat_inj.1 (by omega))
   rw[hne]
   simp only[Bool.false_eq_true,if_false]
   rcases atB_index u l with ⟨h1,h2⟩|⟨k,h1,h2,h3,h4⟩
   ·rw[h1]
    refine Or.inl ⟨rfl,fun x hx=> ?_⟩
    simp only[List.map_cons,List.mem_cons] at hx
    rcases hx with rfl|hx
    ·exact hni
    ·exact h2 x hx
   ·rw[h1]
    have:((k:Int)== -1)=false:=by rw[beq_eq_false_iff_ne];omega
    rw[this]
    simp only[Bool.false_eq_true,if_false]
    refine Or.inr ⟨k+1,by simp,by simp only[List.map_cons,List.length_cons];omega, ?_,fun x hx=> ?_⟩
    ·simp only[List.map_cons,List.take_succ_cons,List.drop_succ_cons,List.cons_append]
     rw[←h3]
    ·simp only[List.map_cons,List.take_succ_cons,List.mem_cons] at hx
     rcases hx with rfl|hx
     ·exact hni
     ·exact h4 x hx
theorem byte_of {c:Int} (h0:0≤c) (h1:c < 256):((c.toNat.toUInt8).toNat:Int)=c:=by
 rw[UInt8.toNat_ofNat']
 omega
set_option maxHeartbeats 1000000 in
set_option maxRecDepth 100000 in
theorem w_slib (s:ByteArray) (c:Int) (w:World) (h0:0≤c) (h1:c < 256):
  Calls Tryz.prog 97 #[.string s, .int .u8 c] w fun e w'=>∃i,e= .returned (.int .i64 i)∧AtB (L s) c i∧w'=w:=by
 go_enter Tryz.func97,Tryz.ntmps97
 go_wp2
 rw[run_callFunc_extern Tryz.func108 (by kernel_rfl) (by kernel_rfl) (by kernel_rfl) (e:=Extern.BytealgIndexByte.indexByte) (by kernel_rfl),Lib.run_indexByteString]
 simp only[Result.andThen]
 rw[Oper.upon_value]
 go_wp2
 go_ret
 refine ⟨_,rfl, ?_,rfl⟩
 have:=atB_index c.toNat.toUInt8 s.data.toList
 rw[byte_of h0 h1] at this
 exact this
set_option maxHeartbeats 1000000 in
set_option maxRecDepth 100000 in
theorem w_sib (s:ByteArray) (c:Int) (w:World) (h0:0≤c) (h1:c < 256):
  Calls Tryz.prog 81 #[.string s, .int .u8 c] w fun e w'=>∃i,e= .returned (.int .i64 i)∧AtB (L s) c i∧w'=w:=by
 go_enter Tryz.func81,Tryz.ntmps81
 go_wp2_with (go_at_call 97;refine (w_slib s c _ h0 h1).mono ?_;rintro e w1 ⟨i,rfl,hi,rfl⟩)
 go_ret
 exact ⟨i,rfl,hi,rfl⟩
def Tab (w:World):Prop:=(∃tp p,w.cell? ⟨1,0,none⟩=some (.iface tp p))∧w.cell? ⟨5,15,none⟩=some (.int .u8 4)
theorem Tab.below {w w':World} (h:Tab w) (g:Below w.heap.size w w'):Tab w':=by
 obtain ⟨⟨tp,p,h1⟩,h2⟩:=h
 exact ⟨⟨tp,p,below_cell g h1⟩,below_cell g h2⟩
theorem Tab.on {w w':World} {B:Nat} (h:Tab w) (g:Below B w w') (hB:100≤B∨(1 < B∧5 < B)):Tab w':=by
 obtain ⟨⟨tp,p,h1⟩,h2⟩:=h
 refine ⟨⟨tp,p,(g.cell (p:=⟨1,0,none⟩) ?_).trans h1⟩,(g.cell (p:=⟨5,15,none⟩) ?_).trans h2⟩
 ·show 1 < B
  omega
 ·show 5 < B
  omega
theorem Tab.lt {w:World} (h:Tab w):1 < w.heap.size∧5 < w.heap.size:=by
 obtain ⟨⟨tp,p,h1⟩,h2⟩:=h
 exact ⟨World.block_lt_of_cell? w _ h1,World.block_lt_of_cell? w _ h2⟩
def lw (c:Int):Int:=bits .or .u8 c 32
theorem lw_all:∀n:Fin 256,(if 65≤n.val∧n.val≤90 then lw n.val=n.val+32 else if 97≤n.val∧n.val≤122 then lw n.val=n.val else ¬(97≤lw n.val∧lw n.val≤122))∧0≤lw n.val∧lw n.val < 256:=by
 decide+kernel
theorem lw_of (c:Int) (h0:0≤c) (h1:c < 256):(65≤c→c≤90→lw c=c+32)∧(97≤c→c≤122→lw c=c)∧(¬(65≤c∧c≤90)→¬(97≤c∧c≤122)→¬(97≤lw c∧lw c≤122))∧0≤lw c∧lw c < 256:=by
 have h:=lw_all ⟨c.toNat,by omega⟩
 have e:((c.toNat:Nat):Int)=c:=by omega
 simp only[e] at h
 obtain ⟨h,hb⟩:=h
 refine ⟨fun a b=> ?_,fun a b=> ?_,fun a b=> ?_,hb⟩
 ·rw[if_pos (by omega)] at h;exact h
 ·rw[if_neg (by omega),if_pos (by omega)] at h;exact h
 ·rw[if_neg (by omega),if_neg (by omega)] at h;exact h
theorem w_low (c:Int) (w:World):Calls Tryz.prog 135 #[.int .u8 c] w fun e w'=>e= .returned (.int .u8 (lw c))∧w'=w:=by
 go_enter Tryz.func135,Tryz.ntmps135
 go_wp2
 go_ret
 exact ⟨rfl,rfl⟩
theorem L_getD (s:ByteArray) (k:Nat) (h:k < s.size):((s.data.toList.getD k 0).toNat:Int)=(s[k].toNat:Int):=by
 rw[List.getD_eq_getElem?_getD,List.getElem?_eq_getElem (by simpa using h)]
 rfl
theorem num_two (l:List Int) (hb:bytesL l) (h:l.length≤2):0≤num 16 l∧num 16 l < 256:=by
 match l,h with
 |[],_=>simp[num]
 |[a],_=>
  have h1:=vl_16 a
  have:=hb a (by simp)
  simp[num]
  omega
 |[a,b],_=>
  have h1:=vl_16 a
  have h2:=vl_16 b
  have:=hb a (by simp)
  have:=hb b (by simp)
  simp[num]
  omega
set_option maxHeartbeats 4000000 in
set_option maxRecDepth 100000 in
theorem w_ipu (t:ByteArray) (w:World) (h8:t.size=2):
  Calls Tryz.prog 124 #[.string t, .int .i64 16, .int .i64 8] w fun e w'=>
   ((allD 16 (L t)=true∧e= .returned (.tuple #[.int .u64 (num 16 (L t)), .nilIface]))∨(allD 16 (L t)=false∧e= .returned (.tuple #[.int .u64 0, .iface 180 (.int .i64 2)])))∧Below w.heap.size w w':=by
 have h0:¬t.size=0:=by omega
 ·have hemp:t.toList.isEmpty=false:=by
   rw[←decide_eq_emptyBytes]
   exact decide_eq_false (fun h=>h0 (by rw[h];rfl))
  have hcv:=Lib.run_convert_string_bytes (P:=Tryz.prog) w 9 29 5 t (u:= .string) Tryz.underlying9 Tryz.underlying29 Tryz.underlying5
  have hB:∀j,j < t.size→(Lib.bytesWorld w 5 t).cell? ⟨w.heap.size,j,none⟩=some (.int .u8 (t.data.toList.getD j 0).toNat):=fun j hj=>Lib.bytesWorld_cell w 5 t j hj
  have hbel:=Lib.bytesWorld_below w 5 t
  obtain ⟨W1,hW1⟩:∃W1,W1=Lib.bytesWorld w 5 t:=⟨_,rfl⟩
  rw[←hW1] at hcv hB hbel
  clear hW1
  have hmv:IntKind.u64.wrap (IntKind.u64.wrap 256 - 1)=255:=by
   rw[IntKind.wrap_u64,IntKind.wrap_u64]
   decide
  go_enter Tryz.func124,Tryz.ntmps124
  go_wp2_with fail
  go_loop [12,13,101] (fun vu vn vi=>∃(k:Nat) (a:Int),vu= .bool false∧vn= .int .u64 a∧vi= .int .i64 k∧(k:Int)≤t.size∧0≤a∧a < 256∧Hid (allD 16 ((L t).take k)=true)∧Hid (num 16 ((L t).take k)=a))
   (fun _ _ vi=>t.size - (intOf vi).toNat)
  case atStart=>exact ⟨0,0,rfl,rfl,rfl,by omega,by omega,by omega,hid rfl,hid rfl⟩
  case round=>
   obtain ⟨k,a,rfl,rfl,rfl,hk,a0,a1,hA,hN⟩:=hrel
   by_cases hlt:(k:Int) < t.size
   ·have hkk:k < t.size:=by omega
    have hc:=hB k hkk
    obtain ⟨c,hcc⟩:∃c,(t[k].toNat:Int)=c:=⟨_,rfl⟩
    have hcb:=L_bd t k hkk
    rw[hcc] at hcb
    obtain ⟨c0,c1⟩:=hcb
    rw[L_getD t k hkk,hcc] at hc
    have hT:Hid ((L t).take (k+1)=(L t).take k++[c]):=by show _=_;rw[←hcc];exact L_take t k hkk
    have hLd:Hid (L t=(L t).take k++c::(L t).drop (k+1)):=by
     show _=_
     rw[←hcc,←L_drop t k hkk,List.take_append_drop]
    have hlk:Hid (((L t).take k).length=k):=by show _=_;rw[List.length_take,L_len];omega
    clear hB hcc
    obtain ⟨l1,l2,l3,l4,l5⟩:=lw_of c c0 c1
    have hNb:isD c 16=true→0≤a*16+vl c 16∧a*16+vl c 16 < 256:=by
     intro hd
     have:=num_two ((L t).take (k+1)) (fun x hx=>LB_bytes t x (List.mem_of_mem_take hx)) (by rw[hT.out,List.length_append,hlk.out];simp;omega)
     rw[hT.out,num_snoc,hN.out] at this
     exact this
    have hcs:(48≤c∧c≤57)∨(65≤c∧c≤70)∨(97≤c∧c≤102)∨(71≤c∧c≤90)∨(103≤c∧c≤122)∨(¬(48≤c∧c≤57)∧¬(65≤c∧c≤90)∧¬(97≤c∧c≤122)):=by omega
    have hdd:isD c 16=true↔(48≤c∧c≤57)∨(65≤c∧c≤70)∨(97≤c∧c≤102):=by unfold isD dv;simp;omega
    have good:isD c 16=true→Hid (allD 16 ((L t).take (k+1))=true)∧Hid (num 16 ((L t).take (k+1))=a*16+vl c 16):=by
     intro hd
     refine ⟨?_, ?_⟩
     ·show _=_;rw[hT.out,allD_snoc,hA.out,hd];rfl
     ·show _=_;rw[hT.out,num_snoc,hN.out]
    have bad:isD c 16=false→Hid (allD 16 (L t)=false):=by
     intro hd
     show _=_
     rw[hLd.out]
     exact allD_mid _ _ _ _ hd
    rcases hcs with ⟨d0,d1⟩|⟨d0,d1⟩|⟨d0,d1⟩|⟨d0,d1⟩|⟨d0,d1⟩|⟨d0,d1,d2⟩
    ·have hd:isD c 16=true:=hdd.2 (by omega)
     have hv:vl c 16=c - 48:=by unfold vl;rw[if_pos hd];unfold dv;omega
     obtain ⟨g1,g2⟩:=good hd
     have hbd:=hNb hd
     rw[hv] at g2 hbd
     obtain ⟨b0,b1⟩:=hbd
     clear l1 l2 l3 l4 l5 hdd hd hv hNb good bad hT hLd hlk hA hN
     go_wp2_with fail
     refine ⟨⟨k+1,a*16+(c - 48),rfl,(by first|rfl|(congr 1;omega)),(by first|rfl|(congr 1;omega)),by omega,b0,b1,g1,g2⟩,by simp[intOf];omega⟩
    ·have hd:isD c 16=true:=hdd.2 (by omega)
     have hv:vl c 16=c - 55:=by unfold vl;rw[if_pos hd];unfold dv;omega
     have hl:=l1 (by omega) (by omega)
     obtain ⟨g1,g2⟩:=good hd
     have hbd:=hNb hd
     rw[hv] at g2 hbd
     obtain ⟨b0,b1⟩:=hbd
     clear l1 l2 l3 l4 l5 hdd hd hv hNb good bad hT hLd hlk hA hN
     go_wp2_with (go_at_call 135;refine (w_low c _).mono ?_;rintro e w1 ⟨rfl,rfl⟩;rw[hl])
     refine ⟨⟨k+1,a*16+(c - 55),rfl,(by first|rfl|(congr 1;omega)),(by first|rfl|(congr 1;omega)),by omega,b0,b1,g1,g2⟩,by simp[intOf];omega⟩
    ·have hd:isD c 16=true:=hdd.2 (by omega)
     have hv:vl c 16=c - 87:=by unfold vl;rw[if_pos hd];unfold dv;omega
     have hl:=l2 (by omega) (by omega)
     obtain ⟨g1,g2⟩:=good hd
     have hbd:=hNb hd
     rw[hv] at g2 hbd
     obtain ⟨b0,b1⟩:=hbd
     clear l1 l2 l3 l4 l5 hdd hd hv hNb good bad hT hLd hlk hA hN
     go_wp2_with (go_at_call 135;refine (w_low c _).mono ?_;rintro e w1 ⟨rfl,rfl⟩;rw[hl])
     refine ⟨⟨k+1,a*16+(c - 87),rfl,(by first|rfl|(congr 1;omega)),(by first|rfl|(congr 1;omega)),by omega,b0,b1,g1,g2⟩,by simp[intOf];omega⟩
    ·have hf:=bad (by rw[Bool.eq_false_iff,Ne,hdd];omega)
     have hl:=l1 (by omega) (by omega)
     clear l1 l2 l3 l4 l5 hdd hNb good bad hT hLd hlk hA hN
     go_wp2_with (go_at_call 135;refine (w_low c _).mono ?_;rintro e w1 ⟨rfl,rfl⟩;rw[hl])
     all_goals go_ret2
     all_goals exact ⟨Or.inr ⟨hf.out,rfl⟩,hbel⟩
    ·have hf:=bad (by rw[Bool.eq_false_iff,Ne,hdd];omega)
     have hl:=l2 (by omega) (by omega)
     clear l1 l2 l3 l4 l5 hdd hNb good bad hT hLd hlk hA hN
     go_wp2_with (go_at_call 135;refine (w_low c _).mono ?_;rintro e w1 ⟨rfl,rfl⟩;rw[hl])
     all_goals go_ret2
     all_goals exact ⟨Or.inr ⟨hf.out,rfl⟩,hbel⟩
    ·have hf:=bad (by rw[Bool.eq_false_iff,Ne,hdd];omega)
     have hl:=l3 d1 d2
     by_cases h95:c=95
     ·subst h95
      have hM:lw 95=127:=by decide+kernel
      clear l1 l2 l3 l4 l5 hl hdd hNb good bad hT hLd hlk hA hN d1 d2
      go_wp2_with (go_at_call 135;refine (w_low 95 _).mono ?_;rintro e w1 ⟨rfl,rfl⟩;rw[hM])
      all_goals go_ret2
      all_goals exact ⟨Or.inr ⟨hf.out,rfl⟩,hbel⟩
     have h95b:(c==95)=false:=by simpa using h95
     clear h95
     obtain ⟨M,hM⟩:∃M,lw c=M:=⟨_,rfl⟩
     rw[hM] at hl l4 l5
     clear l1 l2 l3 hdd hNb good bad hT hLd hlk hA hN d1 d2
     go_wp2_with (go_at_call 135;refine (w_low c _).mono ?_;rintro e w1 ⟨rfl,rfl⟩;rw[hM])
     all_goals go_ret2
     all_goals exact ⟨Or.inr ⟨hf.out,rfl⟩,hbel⟩
   ·obtain rfl:k=t.size:=by omega
    have hall:=hA.out
    have hnn:=hN.out
    rw[List.take_of_length_le (by rw[L_len];omega)] at hall hnn
    have hok:Hid (allD 16 (L t)=true):=hid hall
    have HN:=hid hnn
    clear hall hnn
    go_wp2_with fail
    go_ret2
    exact ⟨Or.inl ⟨hok.out,by rw[HN.out];rfl⟩,hbel⟩
set_option maxHeartbeats 4000000 in
set_option maxRecDepth 100000 in
theorem w_slcl (s:ByteArray) (w:World) (hlim:s.size≤281474976710656):
  Calls Tryz.prog 98 #[.string s] w fun e w'=>e= .returned (.string s)∧Below w.heap.size w w':=by
 by_cases h0:s.size=0
 ·have hs:s=⟨#[]⟩:=by
   apply ByteArray.ext
   exact Array.eq_empty_of_size_eq_zero h0
  subst hs
  go_enter Tryz.func98,Tryz.ntmps98
  go_wp2
  go_ret
  exact ⟨rfl,Below.refl _ _⟩
 ·obtain ⟨i0,hi,hz0,hz1,hz2⟩:=info_parts infoU8
  have hinfo:(Tryz.prog.info? 5).map (·.size)=some 1:=by rw[hi];simp[hz1]
  have hco:Tryz.prog.cellsOf 5=1:=by simp[Program.cellsOf,hi,hz1]
  obtain ⟨M,hM⟩:∃M,M=madeCells (Value.int .u8 0).cells (((s.size:Nat):Int).toNat*i0.size):=⟨_,rfl⟩
  have hMs:M.size=s.size:=by rw[hM,size_madeCells,hz1];simp
  have hmk:∀W:World,(Instr.makeSlice 29 (.int .i64 (s.size:Int)) (.int .i64 (s.size:Int))).run Tryz.prog W= .ok (.slice (some ⟨W.heap.size,0,none⟩) s.size s.size) (W.alloc (.cells M 5)):=fun W=>by
   have h:=run_make (P:=Tryz.prog) W 29 5 i0 (.int .u8 0) Tryz.underlying29 hi hz0 .i64 .i64 (s.size:Int) (s.size:Int) (by omega) (by omega) (by rw[hz2];omega) (by omega)
   rw[←hM] at h
   simpa using h
  clear hM
  have hcp:=Lib.run_copy_row_string (P:=Tryz.prog) (w.alloc (.cells M 5)) 29 9 3 5 w.heap.size 0 s.size s.size s M 5 Tryz.underlying29 hinfo (heap_alloc_new w _) (Nat.le_refl _) (by omega)
  obtain ⟨Y,hY⟩:∃Y,Y=(M.toList.take 0++Lib.byteCells s.data.toList++M.toList.drop (0+s.size)).toArray:=⟨_,rfl⟩
  rw[←hY] at hcp
  have hYl:Y.toList=Lib.byteCells s.data.toList:=by
   rw[hY,List.toList_toArray,List.take_zero,List.nil_append,List.drop_of_length_le (by rw[Array.length_toList];omega),List.append_nil]
  have hYs:Y.size=s.size:=by rw[←Array.length_toList,hYl,Lib.byteCells_length,←Lib.size_eq]
  have hgY:((w.alloc (.cells M 5)).setRow w.heap.size Y).heap[w.heap.size]? =some (.cells Y 5 (0,0)):=setRow_heap _ _ M _ 5 (0,0) (heap_alloc_new w _)
  have hne:s.data.toList≠[]:=fun e=>h0 (by rw[Lib.size_eq,e];rfl)
  have hUS:=Lib.run_unsafeString_row (P:=Tryz.prog) ((w.alloc (.cells M 5)).setRow w.heap.size Y) 152 3 9 5 Tryz.underlying152 hco w.heap.size Y.size (by unfold World.shape?;rw[hgY]) s.data.toList hne (by rw[←Lib.size_eq];omega) (by rw[←Lib.size_eq];omega)
   (fun j x hx=>Lib.cells_of_row hgY Y.size j _ (by rw[List.take_of_length_le (by rw[Array.length_toList];exact Nat.le_refl _),hYl];simp[Lib.byteCells,hx]))
  rw[←Lib.size_eq] at hUS
  clear hY
  go_enter Tryz.func98,Tryz.ntmps98
  go_wp2
  go_ret
  have hb1:Below w.heap.size w (w.alloc (.cells M 5)):=(Below.refl _ w).alloc (Nat.le_refl _) _
  have hb2:Below w.heap.size (w.alloc (.cells M 5)) ((w.alloc (.cells M 5)).setRow w.heap.size Y):=⟨rfl,rfl,rfl,by simp,fun k hk=>setRow_other _ _ _ _ (by omega)⟩
  exact ⟨rfl,Lib.below_freeze (hb1.trans hb2) (p:=⟨w.heap.size,0,none⟩) (Nat.le_refl _) _⟩
set_option maxHeartbeats 4000000 in
set_option maxRecDepth 100000 in
theorem w_synerr (fn s:ByteArray) (w:World) (hlim:s.size≤281474976710656) (hT:Tab w):
  Calls Tryz.prog 137 #[.string fn, .string s] w fun e w'=>∃N,e= .returned (.pointer (some ⟨N,0,none⟩))∧Below w.heap.size w w':=by
 obtain ⟨⟨te,pe,hv⟩, -⟩:=hT
 have hG:1 < w.heap.size:=World.block_lt_of_cell? w _ hv
 have hvd:w.drew.cell? ⟨1,0,none⟩=some _:=hv
 go_enter Tryz.func137,Tryz.ntmps137
 go_wp2
 go_region_with (
   go_at_call 98
   refine (w_slcl s _ hlim).mono ?_
   rintro e w2 ⟨rfl,hbel⟩
   have hv2:w2.cell? ⟨1,0,none⟩=some _:=(hbel.cell (show (⟨1,0,none⟩:Addr).block < w.drew.heap.size from hG)).trans hvd)
 all_goals (
  go_wp2
  go_ret
  have hs2:w.heap.size≤w2.heap.size:=hbel.size
  exact ⟨_,rfl,((Below.drew (Below.refl _ w)).trans hbel).alloc hs2 _⟩)
set_option maxHeartbeats 4000000 in
set_option maxRecDepth 100000 in
theorem w_toerr (fn s:ByteArray) (base bits:Int) (w:World) (hlim:s.size≤281474976710656) (hT:Tab w):
  Calls Tryz.prog 125 #[.string fn, .string s, .int .i64 base, .int .i64 bits, .iface 180 (.int .i64 2)] w fun e w'=>∃T p,e= .returned (.iface T p)∧Below w.heap.size w w':=by
 have heq:∀W,(binOp .eql 154 (.iface 180 (.int .i64 2)) (.iface 180 (.int .i64 2))).run Tryz.prog W= .ok (.bool true) W:=fun W=>Lib.run_eql_iface_int W 2 2 Tryz.underlying154 (by kernel_rfl) Tryz.underlying180
 go_enter Tryz.func125,Tryz.ntmps125
 go_wp2_with (go_at_call 137;refine (w_synerr fn s _ hlim hT).mono ?_;rintro e w2 ⟨N,rfl,h3⟩)
 go_ret
 exact ⟨_,_,rfl,h3⟩
set_option maxHeartbeats 4000000 in
set_option maxRecDepth 100000 in
theorem w_spu_ok (t:ByteArray) (w:World) (h8:t.size=2) (hok:allD 16 (L t)=true):
  Calls Tryz.prog 110 #[.string t, .int .i64 16, .int .i64 8] w fun e w'=>e= .returned (.tuple #[.int .u64 (num 16 (L t)), .nilIface])∧Below w.heap.size w w':=by
 have c:=fun w=>(w_ipu t w h8).mono (R':=fun e w'=>e= .returned (.tuple #[.int .u64 (num 16 (L t)), .nilIface])∧Below w.heap.size w w') (by
  rintro e w' ⟨h|h,b⟩
  ·exact ⟨h.2,b⟩
  ·rw[hok] at h;cases h.1)
 obtain ⟨n,hn⟩:∃n,num 16 (L t)=n:=⟨_,rfl⟩
 simp only[hn] at c ⊢
 clear hn hok
 go_enter Tryz.func110,Tryz.ntmps110
 go_wp2_with (go_at_call 124;refine (c _).mono ?_;rintro e w1 ⟨rfl,hb⟩)
 go_ret2
 exact ⟨rfl,hb⟩
set_option maxHeartbeats 4000000 in
set_option maxRecDepth 100000 in
theorem w_spu_no (t:ByteArray) (w:World) (h8:t.size=2) (hok:allD 16 (L t)=false) (hT:Tab w):
  Calls Tryz.prog 110 #[.string t, .int .i64 16, .int .i64 8] w fun e w'=>∃T p,e= .returned (.tuple #[.int .u64 0, .iface T p])∧Below w.heap.size w w':=by
 have c:=fun w=>(w_ipu t w h8).mono (R':=fun e w'=>e= .returned (.tuple #[.int .u64 0, .iface 180 (.int .i64 2)])∧Below w.heap.size w w') (by
  rintro e w' ⟨h|h,b⟩
  ·rw[hok] at h;cases h.1
  ·exact ⟨h.2,b⟩)
 clear hok
 go_enter Tryz.func110,Tryz.ntmps110
 go_wp2_with (first
  |(go_at_call 124;refine (c _).mono ?_;rintro e w1 ⟨rfl,hb⟩;have hT1:=hT.below hb)
  |(go_at_call 125;refine (w_toerr _ t 16 8 _ (by omega) hT1).mono ?_;rintro e w2 ⟨T,p,rfl,h3⟩))
 go_ret2
 exact ⟨T,p,rfl,below_trans hb h3⟩
theorem w_clone (s:ByteArray) (w:World) (hlim:s.size≤281474976710656):
  Calls Tryz.prog 82 #[.string s] w fun e w'=>e= .returned (.string s)∧Below w.heap.size w w':=by
 go_enter Tryz.func82,Tryz.ntmps82
 go_wp2_with (go_at_call 98;refine (w_slcl s _ hlim).mono ?_;rintro e w1 ⟨rfl,hb⟩)
 go_ret
 exact ⟨rfl,hb⟩
theorem w_blank (c:Int) (w:World) (c0:0≤c) (c1:c < 256):
  Calls Tryz.prog 55 #[.int .u8 c] w fun e w'=>e= .returned (.bool (blC c))∧w'=w:=by
 unfold blC
 go_enter Tryz.func55,Tryz.ntmps55
 go_wp2_with fail
 go_ret
 exact ⟨rfl,rfl⟩
theorem w_solid (c:Int) (w:World) (c0:0≤c) (c1:c < 256):
  Calls Tryz.prog 32 #[.int .u8 c] w fun e w'=>e= .returned (.bool (soC c))∧w'=w:=by
 go_enter Tryz.func32,Tryz.ntmps32
 go_wp2_with (go_at_call 55;refine (w_blank c _ c0 c1).mono ?_;rintro e w1 ⟨rfl,rfl⟩)
 go_ret
 exact ⟨rfl,rfl⟩
theorem w_great (c:Int) (w:World) (c0:0≤c) (c1:c < 256):
  Calls Tryz.prog 84 #[.int .u8 c] w fun e w'=>e= .returned (.bool (grC c))∧w'=w:=by
 unfold grC
 go_enter Tryz.func84,Tryz.ntmps84
 go_wp2_with fail
 all_goals go_ret
 all_goals refine ⟨ret_b ?_,rfl⟩
 all_goals simp_all
 all_goals omega
set_option maxHeartbeats 1000000 in
theorem w_find_solid (s:ByteArray) (i:Nat) (w:World) (hs:s.size≤maxLen) (hi:i≤s.size):
  Calls Tryz.prog 31 #[.string s, .int .i64 i, .func (.func 32) #[] #[]] w fun e w'=>e= .returned (.int .i64 (fdF soC (L s) i))∧w'=w:=by
 have hs2:=hs
 unfold maxLen at hs2
 obtain ⟨R,hR⟩:∃R,fdF soC (L s) i=R:=⟨_,rfl⟩
 rw[hR]
 have HR:=hid hR
 clear hR
 go_enter Tryz.func31,Tryz.ntmps31
 go_wp2_with fail
 go_loop [12] (fun I=>∃(k:Nat),(i:Int)+k≤s.size∧I= .int .i64 k∧Hid (fdF soC (L s) (i+k)=R)) (fun I=>(s.size - intOf I).toNat)
 case atStart=>exact ⟨0,by omega,rfl,HR⟩
 case round=>
  obtain ⟨k,hk,rfl,hn⟩:=hrel
  by_cases hlt:(i:Int)+k < s.size
  ·obtain ⟨c,hr0,c0,c1,hc,_⟩:=str_byte s (i+k) (by omega) hs
   have hr:∀w,(Instr.index 9 (.string s) (.int .i64 ((i:Int)+k))).run Tryz.prog w= .ok (.int .u8 c) w:=hr0
   have cc:=fun w=>w_solid c w c0 c1
   cases hp:soC c
   ·have hn2:Hid (fdF soC (L s) (i+(k+1))=R):=by show _=_;rw[←hn.out,fd_on soC (L s) (i+k) (by rw[L_len];omega) (by rw[hc];exact hp)];rfl
    rw[hp] at cc
    clear hc hp hr0
    go_wp2_with (go_at_call 32;refine (cc _).mono ?_;rintro e w1 ⟨rfl,rfl⟩)
    exact ⟨⟨k+1,by omega,by go_num,hn2⟩,by simp[intOf];omega⟩
   ·have e:Hid (R=i+k):=by show _=_;rw[←hn.out,fd_hit soC (L s) (i+k) (by rw[L_len];omega) (by rw[hc];exact hp)]
    rw[hp] at cc
    clear hc hp hr0
    go_wp2_with (go_at_call 32;refine (cc _).mono ?_;rintro e w1 ⟨rfl,rfl⟩)
    go_ret
    rw[e.out]
    exact ⟨rfl,rfl⟩
  ·have e:Hid (R=s.size):=by show _=_;rw[←hn.out,fd_end soC (L s) (i+k) (by rw[L_len];omega)];omega
   go_wp2_with fail
   go_ret
   rw[e.out]
   exact ⟨rfl,rfl⟩
set_option maxHeartbeats 1000000 in
theorem w_find_blank (s:ByteArray) (i:Nat) (w:World) (hs:s.size≤maxLen) (hi:i≤s.size):
  Calls Tryz.prog 31 #[.string s, .int .i64 i, .func (.func 55) #[] #[]] w fun e w'=>e= .returned (.int .i64 (fdF blC (L s) i))∧w'=w:=by
 have hs2:=hs
 unfold maxLen at hs2
 obtain ⟨R,hR⟩:∃R,fdF blC (L s) i=R:=⟨_,rfl⟩
 rw[hR]
 have HR:=hid hR
 clear hR
 go_enter Tryz.func31,Tryz.ntmps31
 go_wp2_with fail
 go_loop [12] (fun I=>∃(k:Nat),(i:Int)+k≤s.size∧I= .int .i64 k∧Hid (fdF blC (L s) (i+k)=R)) (fun I=>(s.size - intOf I).toNat)
 case atStart=>exact ⟨0,by omega,rfl,HR⟩
 case round=>
  obtain ⟨k,hk,rfl,hn⟩:=hrel
  by_cases hlt:(i:Int)+k < s.size
  ·obtain ⟨c,hr0,c0,c1,hc,_⟩:=str_byte s (i+k) (by omega) hs
   have hr:∀w,(Instr.index 9 (.string s) (.int .i64 ((i:Int)+k))).run Tryz.prog w= .ok (.int .u8 c) w:=hr0
   have cc:=fun w=>w_blank c w c0 c1
   cases hp:blC c
   ·have hn2:Hid (fdF blC (L s) (i+(k+1))=R):=by show _=_;rw[←hn.out,fd_on blC (L s) (i+k) (by rw[L_len];omega) (by rw[hc];exact hp)];rfl
    rw[hp] at cc
    clear hc hp hr0
    go_wp2_with (go_at_call 55;refine (cc _).mono ?_;rintro e w1 ⟨rfl,rfl⟩)
    exact ⟨⟨k+1,by omega,by go_num,hn2⟩,by simp[intOf];omega⟩
   ·have e:Hid (R=i+k):=by show _=_;rw[←hn.out,fd_hit blC (L s) (i+k) (by rw[L_len];omega) (by rw[hc];exact hp)]
    rw[hp] at cc
    clear hc hp hr0
    go_wp2_with (go_at_call 55;refine (cc _).mono ?_;rintro e w1 ⟨rfl,rfl⟩)
    go_ret
    rw[e.out]
    exact ⟨rfl,rfl⟩
  ·have e:Hid (R=s.size):=by show _=_;rw[←hn.out,fd_end blC (L s) (i+k) (by rw[L_len];omega)];omega
   go_wp2_with fail
   go_ret
   rw[e.out]
   exact ⟨rfl,rfl⟩
def BB (w:World) (b z:Nat) (ys:List Int):Prop:=∃cur:Array Value,w.heap[b]? =some (.cells cur 5 (z,z+1))∧cur.size=z∧ys.length≤z∧∀j,j < ys.length→cur[j]? =some (.int .u8 (ys.getD j 0))
theorem BB_new (w:World) (s:ByteArray):BB (Lib.bytesWorld w 5 s) w.heap.size (Lib.bytesCells w 5 s).size (L s):=by
 refine ⟨_,Lib.bytesWorld_at_new w 5 s,rfl, ?_,fun j hj=> ?_⟩
 ·rw[L_len]
  unfold Lib.bytesCells
  simp
 ·have hj2:j < s.size:=by rw[L_len] at hj;exact hj
  have e:=Lib.bytesWorld_cell w 5 s j hj2
  simp only[World.cell?,Lib.bytesWorld_at_new,Option.bind_some] at e
  have e2:(L s).getD j 0=((s.data.toList.getD j 0).toNat:Int):=by
   rw[List.getD_eq_getElem?_getD,List.getElem?_eq_getElem hj,L_get s j hj2,←L_getD s j hj2]
   rfl
  rw[e2]
  simpa using e
theorem BB_cell {w:World} {b z:Nat} {ys:List Int} (h:BB w b z ys) (j:Nat) (hj:j < ys.length):w.cell? ⟨b,j,none⟩=some (.int .u8 (ys.getD j 0)):=by
 obtain ⟨cur,h1,h2,h3,h4⟩:=h
 simp[World.cell?,h1,h4 j hj]
theorem BB_free {w:World} {b z:Nat} {ys:List Int} (h:BB w b z ys) (j:Nat) (hj:j < ys.length):w.frozen? ⟨b,j,none⟩=false:=by
 obtain ⟨cur,h1,h2,h3,h4⟩:=h
 simp[World.frozen?,h1]
 omega
theorem BB_set {w:World} {b z:Nat} {ys:List Int} (h:BB w b z ys) (j:Nat) (hj:j < ys.length) (y:Int):BB (w.setCell ⟨b,j,none⟩ (.int .u8 y)) b z (ys.set j y):=by
 obtain ⟨cur,h1,h2,h3,h4⟩:=h
 have hb:=(Array.getElem?_eq_some_iff.1 h1).1
 have e:w.heap[b]= .cells cur 5 (z,z+1):=(Array.getElem?_eq_some_iff.1 h1).2
 refine ⟨cur.setIfInBounds j (.int .u8 y), ?_,by simpa using h2,by simpa using h3,fun i hi=> ?_⟩
 ·simp only[World.setCell]
  rw[Array.getElem?_modify,if_pos rfl,Array.getElem?_eq_getElem hb,e]
  rfl
 ·rw[List.length_set] at hi
  rw[Array.getElem?_setIfInBounds]
  by_cases hij:j=i
  ·subst hij
   rw[if_pos rfl,if_pos (by omega)]
   simp[List.getD_eq_getElem?_getD,hi]
  ·rw[if_neg hij,h4 i hi]
   simp[List.getD_eq_getElem?_getD,List.getElem?_set,hij]
theorem BB_rd {w:World} {b z:Nat} {ys:List Int} (h:BB w b z ys) (c:Nat) (hc:ys.length≤c) (hm:c≤maxLen):Rd .u8 w (.slice (some ⟨b,0,none⟩) ys.length c) ys:=by
 rcases Nat.eq_zero_or_pos ys.length with h0|h0
 ·left
  have:ys=[]:=List.eq_nil_of_length_eq_zero h0
  subst this
  exact ⟨_,_,rfl,(fun h=>by cases h),rfl⟩
 ·right
  exact ⟨b,0,c,rfl,h0,hc,hm,fun i hi=>by simpa using BB_cell h i hi⟩
theorem sm_gr (c:Int):sm c=if grC c=true then c+32 else c:=by
 unfold sm grC
 simp
theorem map_set_sm (l:List Int) (k:Nat) (h:k < l.length) (y:Int) (hy:sm l[k]=y):((l.take k).map sm++l.drop k).set k y=(l.take (k+1)).map sm++l.drop (k+1):=by
 have hk:((l.take k).map sm).length=k:=by simp;omega
 rw[List.set_append_right _ _ (by omega),hk,Nat.sub_self,List.drop_eq_getElem_cons h,List.set_cons_zero,List.take_succ_eq_append_getElem h,List.map_append]
 simp[hy]
set_option maxHeartbeats 2000000 in
theorem w_small (s:ByteArray) (w:World) (hs:s.size≤140737488355328):
  Calls Tryz.prog 60 #[.string s] w fun e w'=>e= .returned (.string (strOfNums ((L s).map sm)))∧Below w.heap.size w w':=by
 have hm:s.size≤maxLen:=by unfold maxLen;omega
 have hcv:=Lib.run_convert_string_bytes (P:=Tryz.prog) w 9 29 5 s (u:= .string) Tryz.underlying9 Tryz.underlying29 Tryz.underlying5
 have hB0:=BB_new w s
 have hbel:=Lib.bytesWorld_below w 5 s
 have hge:=grownCap_ge w s.size 0 5
 have hle:=grownCap_le_maxLen w s.size 0 5 hm
 obtain ⟨cap,hcap⟩:∃cap,grownCap w s.size 0 5=cap:=⟨_,rfl⟩
 rw[hcap] at hge hle hcv
 obtain ⟨z,hz⟩:∃z,(Lib.bytesCells w 5 s).size=z:=⟨_,rfl⟩
 rw[hz] at hB0
 obtain ⟨W1,hW1⟩:∃W1,W1=Lib.bytesWorld w 5 s:=⟨_,rfl⟩
 rw[←hW1] at hcv hB0 hbel
 clear hW1 hz hcap
 obtain ⟨R,hR⟩:∃R,strOfNums ((L s).map sm)=R:=⟨_,rfl⟩
 rw[hR]
 have HR:=hid hR
 clear hR
 go_enter Tryz.func60,Tryz.ntmps60
 go_wp2_with fail
 go_loopw [9] (fun I wx=>∃(k:Nat) (ys:List Int),(k:Int)≤s.size∧I= .int .i64 k∧Hid (ys=((L s).take k).map sm++(L s).drop k)∧(ys.length:Int)=s.size∧BB wx w.heap.size z ys∧Below w.heap.size w wx) (fun I _=>(s.size - intOf I).toNat)
 case atStart=>exact ⟨0,L s,by omega,rfl,hid (by simp),by rw[L_len],hB0,hbel⟩
 case round=>
  obtain ⟨k,ys,hk,rfl,hys,hyl,hB,hb⟩:=hrel
  have hyn:ys.length=s.size:=by omega
  by_cases hlt:(k:Int) < s.size
  ·have hkk:k < s.size:=by omega
   have hkl:k < (L s).length:=by rw[L_len];omega
   have hkt:((L s).take k).length=k:=by rw[List.length_take];omega
   have hcell:=BB_cell hB k (by omega)
   have hfree:=BB_free hB k (by omega)
   obtain ⟨c,c0,c1,hc⟩:∃c:Int,0≤c∧c < 256∧(L s)[k]=c:=⟨_,(LB_bytes s _ (List.getElem_mem hkl)).1,(LB_bytes s _ (List.getElem_mem hkl)).2,rfl⟩
   have hgd:ys.getD k 0=c:=by
    rw[hys.out,List.getD_eq_getElem?_getD,List.getElem?_append_right (by rw[List.length_map,hkt];exact Nat.le_refl _),List.length_map,hkt,Nat.sub_self,List.getElem?_drop,Nat.add_zero,List.getElem?_eq_getElem hkl,hc]
    rfl
   rw[hgd] at hcell
   have hix:∀w',(Instr.indexAt 29 (.slice (some ⟨w.heap.size,0,none⟩) s.size cap) (.int .i64 (k:Int))).run Tryz.prog w'= .ok (.pointer (some ⟨w.heap.size,k,none⟩)) w':=by
    obtain ⟨a,ha,hac⟩:=rd_idx (BB_rd hB cap (by omega) hle) uB zB (k:Int) (by omega) (by omega)
    intro w'
    rw[run_indexAt_slice (h:=uB),if_pos ⟨by omega,by omega⟩,zB]
    simp only[Result.andThen,Int.toNat_natCast]
    congr 3
    unfold Addr.add
    split
    ·rename_i hz;simp at hz;rw[hz]
    ·simp
   have cg:=fun w=>w_great c w c0 c1
   have hsg:=sm_gr c
   cases hg:grC c
   ·rw[hg] at cg hsg
    have hys2:Hid (ys=((L s).take (k+1)).map sm++(L s).drop (k+1)):=by
     show _=_
     rw[hys.out,List.take_succ_eq_append_getElem hkl,List.map_append,List.append_assoc,List.drop_eq_getElem_cons hkl,hc]
     simp[hsg]
    clear hc hgd hkl hkt hsg hg
    go_wp2_with (go_at_call 84;refine (cg _).mono ?_;rintro e w1 ⟨rfl,rfl⟩)
    go_roundw
    case rel=>exact ⟨k+1,ys,by omega,by go_num,hys2,hyl,hB,hb⟩
    case measure=>simp[intOf];omega
   ·rw[hg] at cg hsg
    have hc90:65≤c∧c≤90:=by simpa [grC] using hg
    obtain ⟨c2,c3⟩:=hc90
    have hys2:Hid (ys.set k (c+32)=((L s).take (k+1)).map sm++(L s).drop (k+1)):=by
     show _=_
     rw[hys.out,map_set_sm (L s) k hkl (c+32) (by rw[hc,hsg];rfl)]
    have hB2:=BB_set hB k (by omega) (c+32)
    have hb2:=hb.setCell (show w.heap.size≤(⟨w.heap.size,k,none⟩:Addr).block from Nat.le_refl _) (.int .u8 (c+32))
    clear hc hgd hkl hkt hsg hg
    go_wp2_with (go_at_call 84;refine (cg _).mono ?_;rintro e w1 ⟨rfl,rfl⟩)
    go_roundw
    case rel=>exact ⟨k+1,ys.set k (c+32),by omega,by go_num,hys2,by rw[List.length_set];exact hyl,hB2,hb2⟩
    case measure=>simp[intOf];omega
  ·have e:Hid (R=strOfNums ys):=by
    show _=_
    rw[←HR.out,hys.out,List.take_of_length_le (by rw[L_len];omega),List.drop_of_length_le (by rw[L_len];omega),List.append_nil]
   have cs:=rd_strT (BB_rd hB cap (by omega) hle)
   rw[hyn] at cs
   obtain ⟨Y,hY⟩:∃Y,strOfNums ys=Y:=⟨_,rfl⟩
   rw[hY] at cs e
   clear hY
   go_wp2_with fail
   go_ret
   rw[e.out]
   exact ⟨rfl,hb⟩
set_option maxHeartbeats 1000000 in
theorem w_noblanks (s:ByteArray) (w:World) (hs:s.size≤140737488355328):
  Calls Tryz.prog 109 #[.string s] w fun e w'=>e= .returned (.string (strOfNums (filB (L s))))∧Below w.heap.size w w':=by
 have hm:s.size≤maxLen:=by unfold maxLen;omega
 obtain ⟨i0,hi,hz0,hz1,hz2⟩:=info_parts infoU8
 obtain ⟨R,hR⟩:∃R,strOfNums (filB (L s))=R:=⟨_,rfl⟩
 rw[hR]
 have HR:=hid hR
 clear hR
 go_enter Tryz.func109,Tryz.ntmps109
 go_wp2_with fail
 go_loopw [3,7] (fun U I wx=>∃(k:Nat) (ys:List Int),(k:Int)≤s.size∧I= .int .i64 k∧Hid (ys=filB ((L s).take k))∧(ys.length:Int)≤k∧Own8 w.heap.size wx U ys∧Below w.heap.size w wx) (fun _ I _=>(s.size - intOf I).toNat)
 case atStart=>exact ⟨0,[],by omega,rfl,hid rfl,by simp,World.ownsRow_nil _ _ _ _,Below.refl _ _⟩
 case round=>
  obtain ⟨k,ys,hk,rfl,hys,hyl,ho,hb⟩:=hrel
  by_cases hlt:(k:Int) < s.size
  ·have hkk:k < s.size:=by omega
   obtain ⟨c,hr,c0,c1,hc,_⟩:=str_byte s k hkk hm
   have cc:=fun w=>w_solid c w c0 c1
   have hT:filB ((L s).take (k+1))=filB ((L s).take k)++if soC c=true then [c] else []:=by
    rw[List.take_succ_eq_append_getElem (by rw[L_len];exact hkk),hc,filB_snoc]
   cases hp:soC c
   ·have hys2:Hid (ys=filB ((L s).take (k+1))):=by show _=_;rw[hT,hp,hys.out];simp
    rw[hp] at cc
    clear hc hT hp
    go_wp2_with (go_at_call 32;refine (cc _).mono ?_;rintro e w1 ⟨rfl,rfl⟩)
    go_roundw
    case rel=>exact ⟨k+1,ys,by omega,by go_num,hys2,by omega,ho,hb⟩
    case measure=>simp[intOf];omega
   ·have hys2:Hid (ys++[c]=filB ((L s).take (k+1))):=by show _=_;rw[hT,hp,hys.out];simp
    rw[hp] at cc
    have ho3:=World.ownsRow.alloc ho (.cells #[.int .u8 c] 5)
    have hb3:=hb.alloc hb.size (.cells #[.int .u8 c] 5)
    clear hc hT hp
    go_wp2_with (first
     |(go_at_call 32;refine (cc _).mono ?_;rintro e w1 ⟨rfl,rfl⟩)
     |(at_builtin;refine wpList_append_rd (k:= .u8) rfl _ _ 29 rfl w.heap.size 5 i0 1 Tryz.underlying29 hi hz0 hz1 hz2 _ ys rfl ho3 _ [c] rfl (rd_one _ c 5) (by unfold maxLen;simp only[List.length_cons,List.length_nil];omega) (by simp only[List.length_cons,List.length_nil];omega) hb3.size ?_;intro v4 w4 ho4 hg4))
    go_roundw
    case rel=>exact ⟨k+1,ys++[c],by omega,by go_num,hys2,by simp;omega,ho4,below_grown hb3 hg4 (fun k hk=>(World.ownsRow.lt ho k hk).1)⟩
    case measure=>simp[intOf];omega
  ·have e:Hid (R=strOfNums ys):=by
    show _=_
    rw[←HR.out,hys.out,List.take_of_length_le (by rw[L_len];omega)]
   have cs:=rd_strT (Rd_own ho).1
   obtain ⟨Y,hY⟩:∃Y,strOfNums ys=Y:=⟨_,rfl⟩
   rw[hY] at cs e
   clear hY
   go_wp2_with fail
   go_ret
   rw[e.out]
   exact ⟨rfl,hb⟩
theorem str_tail (s:ByteArray) (f:Nat) (h1:f≤s.size):∃T:ByteArray,(∀w,(Instr.slice 9 (.string s) (some (.int .i64 (f:Int))) none none).run Tryz.prog w= .ok (.string T) w)∧L T=(L s).drop f∧T.size=s.size - f:=by
 refine ⟨s.extract f s.size,fun w=> ?_,L_from s f, ?_⟩
 ·simp[Instr.slice,Instr.sliceBounds,run_underlying Tryz.underlying9,run_sliceBound,h1]
 ·rw[←L_len,L_from,List.length_drop,L_len]
theorem w_lineEnd (s:ByteArray) (i:Nat) (w:World) (hs:s.size≤maxLen) (hi:i≤s.size):
  Calls Tryz.prog 56 #[.string s, .int .i64 i] w fun e w'=>∃b:Nat,e= .returned (.int .i64 b)∧(b=nxF (L s) i 10+1∧b≤s.size∨nxF (L s) i 10=s.size∧b=s.size)∧w'=w:=by
 have hs2:=hs
 unfold maxLen at hs2
 obtain ⟨T,hT,hTL,hTs⟩:=str_tail s i hi
 have ci:=fun w=>w_sib T 10 w (by decide) (by decide)
 rw[hTL] at ci
 go_enter Tryz.func56,Tryz.ntmps56
 go_wp2_with (go_at_call 81;refine (ci _).mono ?_;rintro e w1 ⟨n,rfl,hn,rfl⟩;refine Hid.out ?_)
 have h:=at_nx hn (by rw[L_len];exact hi)
 rw[L_len] at h
 rcases h with ⟨rfl,h2⟩|⟨k,rfl,h2,h3⟩
 ·refine hid ?_
  go_wp2_with fail
  go_ret
  exact ⟨s.size,rfl,Or.inr ⟨h2,rfl⟩,rfl⟩
 ·refine hid ?_
  go_wp2_with fail
  go_ret
  exact ⟨i+k+1,by go_num,Or.inl ⟨by rw[h2],by omega⟩,rfl⟩
theorem w_closed (s:ByteArray) (i:Nat) (w:World) (hs:s.size≤maxLen) (hi:i≤s.size):
  Calls Tryz.prog 57 #[.string s, .int .i64 i] w fun e w'=>∃(T:ByteArray) (b:Nat) (E:Int),e= .returned (.tuple #[.string T, .int .i64 b, .int .i64 E])∧(E=15∧nxF (L s) i 41=s.size∨E=0∧∃m:Nat,b=m+1∧nxF (L s) i 41=m∧i≤m∧m < s.size∧L T=cutL (L s) i m∧T.size=m - i)∧w'=w:=by
 have hs2:=hs
 unfold maxLen at hs2
 obtain ⟨T,hT,hTL,hTs⟩:=str_tail s i hi
 have ci:=fun w=>w_sib T 41 w (by decide) (by decide)
 rw[hTL] at ci
 go_enter Tryz.func57,Tryz.ntmps57
 go_wp2_with (go_at_call 81;refine (ci _).mono ?_;rintro e w1 ⟨n,rfl,hn,rfl⟩;refine Hid.out ?_)
 have h:=at_nx hn (by rw[L_len];exact hi)
 rw[L_len] at h
 rcases h with ⟨rfl,h2⟩|⟨k,rfl,h2,h3⟩
 ·refine hid ?_
  go_wp2_with fail
  go_ret3
  exact ⟨_,0,_,rfl,Or.inl ⟨rfl,h2⟩,rfl⟩
 ·refine hid ?_
  obtain ⟨C,hC0,hCL,hCs⟩:=str_part s i (i+k) (by omega) (by omega)
  have hC:∀w,(Instr.slice 9 (.string s) (some (.int .i64 (i:Int))) (some (.int .i64 ((i:Int)+k))) none).run Tryz.prog w= .ok (.string C) w:=hC0
  clear hC0
  go_wp2_with fail
  go_ret3
  exact ⟨C,i+k+1,_,rfl,Or.inr ⟨rfl,i+k,rfl,h2,by omega,h3,hCL,hCs⟩,rfl⟩
set_option maxHeartbeats 1000000 in
theorem w_printed (s:ByteArray) (i:Nat) (w:World) (hs:s.size≤140737488355328) (hi:i≤s.size):
  Calls Tryz.prog 58 #[.string s, .int .i64 i] w fun e w'=>∃(T:ByteArray) (b:Nat) (E:Int),e= .returned (.tuple #[.string T, .int .i64 b, .int .i64 E])∧(E=15∧(i=s.size∨nxF (L s) (i+1) 41=s.size)∨i < s.size∧∃m:Nat,nxF (L s) (i+1) 41=m∧i+1≤m∧m < s.size∧(E=3∧255 < m - i - 1∨E=0∧m - i - 1≤255∧b=m+1∧L T=cutL (L s) (i+1) m))∧Below w.heap.size w w':=by
 have hm:s.size≤maxLen:=by unfold maxLen;omega
 by_cases he:i=s.size
 ·have heb:((i:Int)==s.size)=true:=by simp;omega
  have HE:=hid he
  clear he
  go_enter Tryz.func58,Tryz.ntmps58
  go_wp2_with fail
  go_ret3
  exact ⟨_,0,_,rfl,Or.inl ⟨rfl,Or.inl HE.out⟩,Below.refl _ _⟩
 ·have heb:((i:Int)==s.size)=false:=by simp;omega
  have cc:∀w,Calls Tryz.prog 57 #[.string s, .int .i64 ((i:Int)+1)] w _:=fun w=>w_closed s (i+1) w hm (by omega)
  go_enter Tryz.func58,Tryz.ntmps58
  go_wp2_with (go_at_call 57;refine (cc _).mono ?_;rintro e w1 ⟨T,b,E,rfl,hq,rfl⟩;refine Hid.out ?_)
  rcases hq with ⟨rfl,h1⟩|⟨rfl,m,rfl,h1,h2,h3,h4,h5⟩
  ·refine hid ?_
   have H1:=hid h1
   clear h1
   go_wp2_with fail
   go_ret3
   exact ⟨_,0,_,rfl,Or.inl ⟨rfl,Or.inr H1.out⟩,Below.refl _ _⟩
  ·refine hid ?_
   have H1:=hid h1
   have H4:=hid h4
   clear h1 h4
   by_cases h255:(255:Int) < T.size
   ·go_wp2_with fail
    go_ret3
    exact ⟨_,0,_,rfl,Or.inr ⟨by omega,m,H1.out,h2,h3,Or.inl ⟨rfl,by omega⟩⟩,Below.refl _ _⟩
   ·have cl:=fun w=>w_clone T w (by omega)
    go_wp2_with (go_at_call 82;refine (cl _).mono ?_;rintro e w2 ⟨rfl,b2⟩)
    go_ret3
    exact ⟨T,m+1,_,rfl,Or.inr ⟨by omega,m,H1.out,h2,h3,Or.inr ⟨rfl,by omega,rfl,H4.out⟩⟩,b2⟩
end Go.Proofs.YtkkehbdahniiaaaGreatDoor
