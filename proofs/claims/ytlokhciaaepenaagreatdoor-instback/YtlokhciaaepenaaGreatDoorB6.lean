import Derived.Test.YtlokhciaaepenaaGreatDoorRows
import Derived.ChangeSame
import Derived.Lib.Bytealg
import Derived.Lib.BytesEntry
import Derived.Lib.ConvBytes
import Derived.Lib.AtoiErrMem
import Derived.Lib.Slices
import Derived.Laws.Externs
import Derived.Lib.Strings
import Derived.Lib.Walk
import Derived.Lib.BufferWrite
import Derived.Lib.UnsafeStr
import Derived.Lib.Hide
import Derived.Lib.IfaceEq
import Derived.Laws.MakeOwn
import Derived.Laws.Strings3
import Derived.Laws.Closers25
import Derived.Laws.Closers25b
import Derived.BigCall
import Derived.BigGuard
import Derived.Test.YtlokhciaaepenaaGreatDoorB5
set_option linter.unusedVariables false
set_option linter.unusedSimpArgs false
set_option maxRecDepth 100000
namespace Go.Proofs.YtlokhciaaepenaaGreatDoor
open Go.ChangeShapes Go.WideShapes Go.ChangeAt Go.RowKit
def stpR (w:World) (cs:List Value) (x:Sp):Prop:=∃v,cs=[.string (strOfNums x.1),v, .string (strOfNums x.2.2)]∧Rd .u32 w v x.2.1
theorem stpR_below {w w':World} (g:Below w.heap.size w w') (cs:List Value) (x:Sp) (h:stpR w cs x):stpR w' cs x:=by
 obtain ⟨v,h1,h2⟩:=h
 exact ⟨v,h1,h2.below g⟩
def stpO (base:Nat) (w:World) (cs:List Value) (x:Sp):Prop:=∃v,cs=[.string (strOfNums x.1),v, .string (strOfNums x.2.2)]∧OwnU base w v x.2.1
theorem stpO_R {base:Nat} {w:World} {cs:List Value} {x:Sp} (h:stpO base w cs x):stpR w cs x:=by
 obtain ⟨v,h1,h2⟩:=h
 exact ⟨v,h1,(Rd_own h2).1⟩
theorem stpO_below {base:Nat} {w w':World} (g:Below w.heap.size w w') {cs:List Value} {x:Sp} (h:stpO base w cs x):stpO base w' cs x:=by
 obtain ⟨v,h1,h2⟩:=h
 exact ⟨v,h1,own_below h2 g⟩
theorem own_grown {w w':World} {b b':Nat} {e e':TypeId} {sz:Nat} {v v':Value} {n n':Nat} {cs cs':List Value} (o:w.ownsRow b e 1 v n cs) (o':w.ownsRow b' e' sz v' n' cs') (hne:e≠e') (g:w.grownBy w' v'.ownBlock):w'.ownsRow b e 1 v n cs:=by
 obtain ⟨hl,o⟩:=o
 refine ⟨hl, ?_⟩
 rcases o with o|⟨k,cap,cur,rfl,hb,h1,o⟩
 ·exact Or.inl o
 ·refine Or.inr ⟨k,cap,cur,rfl,hb, ?_,o⟩
  have hk:k < w.heap.size:=(Array.getElem?_eq_some_iff.1 h1).1
  have hap:v'.ownBlock≠some k:=by
   obtain ⟨_,o'⟩:=o'
   rcases o' with ⟨rfl,_⟩|⟨k',cap',cur',rfl,_,h2,_⟩
   ·simp[Value.ownBlock]
   ·intro e0
    simp[Value.ownBlock] at e0
    subst e0
    rw[h1] at h2
    simp at h2
    exact hne h2.2
  rw[g.block k hk (Ne.symm hap)]
  exact h1
theorem stpO_grown {base b':Nat} {w w':World} {sz:Nat} {v':Value} {n':Nat} {cs':List Value} (o':w.ownsRow b' 47 sz v' n' cs') (g:w.grownBy w' v'.ownBlock) {cs:List Value} {x:Sp} (h:stpO base w cs x):stpO base w' cs x:=by
 obtain ⟨v,h1,h2⟩:=h
 exact ⟨v,h1,own_grown h2 o' (by decide) g⟩
def OwnP (base:Nat) (w:World) (v:Value) (xs:List Sp):Prop:=∃rows:List (List Value),rows.length=xs.length∧(∀r∈rows,r.length=3)∧w.ownsRow base 47 3 v xs.length rows.flatten∧∀i (h:i < xs.length),stpO base w (rows.getD i []) xs[i]
theorem ownP_read {base:Nat} {w:World} {v:Value} {xs:List Sp} (h:OwnP base w v xs):SlR 3 stpR w v xs:=by
 obtain ⟨rows,h1,h2,h3,h4⟩:=h
 have h5:SlR 3 (fun _ cs (r:List Value)=>cs=r) w v rows:=slr_rows (n:=xs.length) (e:=47) (base:=base) id h2 (by decide) (by simpa [List.flatMap_id] using h3) (fun _ _=>rfl)
 obtain ⟨rows',k1,k2,k3⟩:=h5
 have e:rows'=rows:=by
  apply List.ext_getElem k2
  intro i hi hj
  have:=k3 i hj
  rw[List.getD_eq_getElem?_getD,List.getElem?_eq_getElem hi] at this
  simpa using this
 subst e
 exact ⟨rows',k1,h1,fun i hi=>stpO_R (h4 i hi)⟩
theorem ownP_below {base:Nat} {w w':World} {v:Value} {xs:List Sp} (h:OwnP base w v xs) (g:Below w.heap.size w w'):OwnP base w' v xs:=by
 obtain ⟨rows,h1,h2,⟨hl,h3⟩,h4⟩:=h
 refine ⟨rows,h1,h2,⟨hl, ?_⟩,fun i hi=>stpO_below g (h4 i hi)⟩
 rcases h3 with h|⟨b,cap,cur,rfl,hb,hg,hc⟩
 ·exact Or.inl h
 ·refine Or.inr ⟨b,cap,cur,rfl,hb, ?_,hc⟩
  rw[g.block b (Array.getElem?_eq_some_iff.1 hg).1]
  exact hg
theorem ownP_nil (base:Nat) (w:World):OwnP base w (.slice none 0 0) []:=⟨[],rfl,by simp,World.ownsRow_nil _ _ _ _,fun i hi=>by simp at hi⟩
theorem spl_up (d:Int) (l:List Int):spl d [] l=upTo d l::(if (upTo d l).length < l.length then spl d [] (l.drop ((upTo d l).length+1)) else []):=by
 by_cases h:(upTo d l).length < l.length
 ·rw[if_pos h]
  conv=>lhs;rw[upTo_split d l h]
  rw[spl_skip d _ _ (upTo_free d l),List.nil_append,spl,if_pos rfl]
 ·rw[if_neg h]
  have e:upTo d l=l:=by
   have h1:=upTo_take d l
   rw[List.take_of_length_le (by omega)] at h1
   exact h1.symm
  have h2:=spl_skip d l [] (by rw[←e];exact upTo_free d l) []
  rw[List.append_nil,List.nil_append] at h2
  rw[h2,e]
  rfl
def remL (l:List Int) (k:Nat):List (List Int):=if k < l.length then spl 47 [] (l.drop (k+1)) else []
theorem rem_step (l:List Int) (k:Nat) (h:k < l.length):remL l k=upTo 47 (l.drop (k+1))::remL l (pcF l (k+1) 47):=by
 have hl:=upTo_len 47 (l.drop (k+1))
 rw[List.length_drop] at hl
 unfold remL
 rw[if_pos h,spl_up 47 (l.drop (k+1))]
 congr 1
 unfold pcF
 by_cases h2:(upTo 47 (l.drop (k+1))).length < (l.drop (k+1)).length
 ·rw[if_pos h2,if_pos (by rw[List.length_drop] at h2;omega),List.drop_drop]
  congr 2
 ·rw[if_neg h2,if_neg (by rw[List.length_drop] at h2;omega)]
theorem stepL_cons_none (p:List Int) (r:List (List Int)) (h:stepF p=none):stepL (p::r)=none:=by rw[stepL,h]
theorem stepL_cons_some (p:List Int) (r:List (List Int)) (x:Sp) (h:stepF p=some x):stepL (p::r)=(stepL r).map (x::·):=by
 rw[stepL,h]
 cases stepL r <;> rfl
theorem infoStep:(Tryz.prog.info? 47).map (fun i=>(i.zero,i.size,i.bytes))=some (some (.agg #[.string ⟨#[]⟩, .slice none 0 0, .string ⟨#[]⟩]),3,56):=by kernel_rfl
theorem ownP_snoc {base:Nat} {w w':World} {U v':Value} {xs:List Sp} {x:Sp} {row:List Value} {rows:List (List Value)} (h1:rows.length=xs.length) (h2:∀r∈rows,r.length=3) (h3:w.ownsRow base 47 3 U xs.length rows.flatten) (h4:∀i (h:i < xs.length),stpO base w (rows.getD i []) xs[i])
  (hr:row.length=3) (hx:stpO base w row x) (o:w'.ownsRow base 47 3 v' (xs.length+1) (rows.flatten++row)) (g:w.grownBy w' U.ownBlock):OwnP base w' v' (xs++[x]):=by
 refine ⟨rows++[row],by simp[h1],fun r hm=> ?_,by simpa using o,fun i hi=> ?_⟩
 ·rcases List.mem_append.1 hm with hm|hm
  ·exact h2 r hm
  ·simp at hm;subst hm;exact hr
 ·by_cases hlt:i < xs.length
  ·rw[List.getD_eq_getElem?_getD,List.getElem?_append_left (by omega),List.getElem_append_left hlt,←List.getD_eq_getElem?_getD]
   exact stpO_grown h3 g (h4 i hlt)
  ·have hi2:i=xs.length:=by simp at hi;omega
   subst hi2
   rw[List.getD_eq_getElem?_getD,List.getElem?_append_right (by omega),h1]
   simp
   exact stpO_grown h3 g hx
set_option maxHeartbeats 4000000 in
set_option maxRecDepth 100000 in
theorem w_rpath (s:ByteArray) (w:World) (hs:s.size≤maxLen):
  Calls Tryz.prog 6 #[.string s] w fun e w'=>∃v,e= .returned (.tuple #[v, .int .i64 (parF (L s)).2])∧SlR 3 stpR w' v (parF (L s)).1∧Below w.heap.size w w':=by
 have hs2:=hs
 unfold maxLen at hs2
 by_cases hlong:(256:Int) < s.size
 ·have e:parF (L s)=([],3):=by unfold parF;rw[if_pos (by rw[L_len];omega)]
  rw[e]
  clear e
  go_enter Tryz.func6,Tryz.ntmps6
  go_wp2_with fail
  go_ret2
  exact ⟨_,rfl,SlR.nil,Below.refl _ _⟩
 ·by_cases h1:L s=[47]
  ·have hse:s=⟨#[47]⟩:=by rw[←nums_LB s,←L_LB,h1];decide+kernel
   subst hse
   have e:parF (L ⟨#[47]⟩)=([],0):=by decide+kernel
   rw[e]
   clear e h1
   go_enter Tryz.func6,Tryz.ntmps6
   go_wp2_with fail
   go_ret2
   exact ⟨_,rfl,SlR.nil,Below.refl _ _⟩
  ·have hne:(s.toList==[47])=false:=by
    rw[beq_eq_false_iff_ne]
    intro e
    apply h1
    rw[ByteArray.toList_eq] at e
    simp[L,e]
   by_cases h0:s.size=0
   ·have hs:s=⟨#[]⟩:=by
     apply ByteArray.ext
     exact Array.eq_empty_of_size_eq_zero h0
    subst hs
    have e:parF (L ⟨#[]⟩)=([],15):=by decide+kernel
    rw[e]
    clear e h1 hne
    go_enter Tryz.func6,Tryz.ntmps6
    go_wp2_with fail
    go_ret2
    exact ⟨_,rfl,SlR.nil,Below.refl _ _⟩
   ·have hemp:s.toList.isEmpty=false:=by
     rw[←decide_eq_emptyBytes]
     exact decide_eq_false (fun h=>h0 (by rw[h];rfl))
    have hd:=L_drop s 0 (by omega)
    rw[List.drop_zero] at hd
    obtain ⟨c,hc⟩:∃c,(s[0].toNat:Int)=c:=⟨_,rfl⟩
    have hrun:=fun w=>run_at (w:=w) s 0 (by omega) hs
    rw[hc] at hrun hd
    rw[show (((0:Nat)):Int)=0 from rfl] at hrun
    by_cases h47:c=47
    ·subst h47
     obtain ⟨i0,hi0,hz0,hz1,hz2⟩:=info_parts infoStep
     have hpar:parF (L s)=match stepL (remL (L s) 0) with|some x=>(x,0)|none=>([],15):=by
      unfold parF remL
      rw[if_neg (by rw[L_len];omega),if_neg h1,if_pos (by rw[L_len];omega),hd]
      rfl
     obtain ⟨A,E,hAE⟩:∃A E,parF (L s)=(A,E):=⟨_,_,rfl⟩
     have HAE:=hid hAE
     have Hp:=hid (hAE.symm.trans hpar)
     rw[hAE]
     show Calls _ _ _ _ fun e w'=>∃v,e= .returned (.tuple #[v, .int .i64 E])∧SlR 3 stpR w' v A∧_
     clear hAE hpar h1 hc hd
     go_enter Tryz.func6,Tryz.ntmps6
     go_wp2_with fail
     go_loopw [4,5] (fun U I wx=>∃(k:Nat) (xs:List Sp),(k:Int)≤s.size∧I= .int .i64 k∧Hid (stepL (remL (L s) 0)=(stepL (remL (L s) k)).map (xs++·))∧(xs.length:Int)≤k∧OwnP w.heap.size wx U xs∧Below w.heap.size w wx) (fun _ I _=>(s.size - intOf I).toNat)
     case atStart=>exact ⟨0,[],by omega,rfl,hid (by cases stepL (remL (L s) 0) <;> simp),by simp,ownP_nil _ _,Below.refl _ _⟩
     case round=>
      obtain ⟨k,xs,hk,rfl,hin,hxl,ho,hb⟩:=hrel
      by_cases hlt:(k:Int) < s.size
      ·have hrs:=rem_step (L s) k (by rw[L_len];omega)
       have hk2:=pc_le (L s) (k+1) 47 (by rw[L_len];omega)
       have hk3:=pc_ge (L s) (k+1) 47
       have cp:=fun w=>w_place s (k+1) 47 w hs (by omega) (by decide) (by decide)
       rw[L_len] at hk2
       have hpl:pcF (L s) (k+1) 47=k+1+(upTo 47 ((L s).drop (k+1))).length:=rfl
       have hLx:L (s.extract (k+1) (pcF (L s) (k+1) 47))=upTo 47 ((L s).drop (k+1)):=by
        rw[L_extract s _ _ hk2,hpl,Nat.add_sub_cancel_left]
        exact upTo_take 47 _
       obtain ⟨q,hq⟩:∃q,pcF (L s) (k+1) 47=q:=⟨_,rfl⟩
       rw[hq] at hrs hk2 hk3 cp hLx
       have hps:(s.extract (k+1) q).size≤s.size:=by rw[←L_len,L_extract s _ _ hk2,List.length_take,List.length_drop,L_len];omega
       obtain ⟨P,hP⟩:∃P,s.extract (k+1) q=P:=⟨_,rfl⟩
       rw[hP] at hLx hps
       have z0:(0:Int)≤(k:Int)+1:=by omega
       have z1:(k:Int)+1≤q:=by omega
       have z2:(q:Int)≤s.size:=by omega
       cases hst:stepF (upTo 47 ((L s).drop (k+1))) with
       |none=>
        have cs:=fun w=>w_rstep_no P w (by omega) (by rw[hLx];exact hst)
        have e:Hid ((A,E)=([],15)):=by
         show _=_
         rw[Hp.out,hin.out,hrs,stepL_cons_none _ _ hst]
         rfl
        clear hst hLx hrs hpl hq hps
        go_wp2_with (first
         |(go_at_call 19;refine (cp _).mono ?_;rintro e w1 ⟨rfl,rfl⟩)
         |(go_at_call 20;refine (cs _).mono ?_;rintro e w2 ⟨⟨nm,ao,n,cap,ar,rfl⟩,b2⟩))
        go_ret2
        obtain ⟨rfl,rfl⟩:=Prod.mk.inj e.out
        exact ⟨_,rfl,SlR.nil,below_trans hb (below_trans b2 (box_below _ _))⟩
       |some x=>
        have cs:=fun w=>w_rstep_ok P x w (by omega) (by rw[hLx];exact hst)
        have hin2:Hid (stepL (remL (L s) 0)=(stepL (remL (L s) q)).map ((xs++[x])++·)):=by
         show _=_
         rw[hin.out,hrs,stepL_cons_some _ _ _ hst]
         cases stepL (remL (L s) q) <;> simp
        clear hst hLx hrs hpl hq hps
        go_wp2_with (first
         |(go_at_call 19;refine (cp _).mono ?_;rintro e w1 ⟨rfl,rfl⟩)
         |(go_at_call 20;refine (cs _).mono ?_;rintro e w2 ⟨⟨v,nm,ar,rfl,e1,e2,ov⟩,b2⟩;refine Hid.out ?_))
        obtain ⟨ao,cap,rfl⟩:=own_form ov
        have hnm:strOfNums x.1=nm:=by rw[←e1];exact nums_LB nm
        have har:strOfNums x.2.2=ar:=by rw[←e2];exact nums_LB ar
        have hb2:=below_trans hb b2
        have ov2:OwnU w.heap.size w2 _ _:=own_le hb.size ov
        obtain ⟨rows,h1,h2,h3,h4⟩:=ownP_below ho b2
        have bx:=below_trans (box_below w2 (.cells #[.string nm, .slice ao x.2.1.length cap, .string ar] 47)) (box_below _ (.cells #[.string nm, .slice ao x.2.1.length cap, .string ar] 47))
        have h3':=World.ownsRow.alloc (World.ownsRow.alloc h3 (.cells #[.string nm, .slice ao x.2.1.length cap, .string ar] 47)) (.cells #[.string nm, .slice ao x.2.1.length cap, .string ar] 47)
        have hx:stpO w.heap.size ((w2.alloc (.cells #[.string nm, .slice ao x.2.1.length cap, .string ar] 47)).alloc (.cells #[.string nm, .slice ao x.2.1.length cap, .string ar] 47)) [.string nm, .slice ao x.2.1.length cap, .string ar] x:=⟨_,by rw[hnm,har],own_below ov2 bx⟩
        have h4':=fun i h=>stpO_below bx (h4 i h)
        have hb3:=below_trans hb2 bx
        have hone:∀u∈[Value.string nm, .slice ao x.2.1.length cap, .string ar],u.oneCell'=true:=by
         intro u hu
         simp at hu
         rcases hu with rfl|rfl|rfl <;> rfl
        have hcl:∀j u,[Value.string nm, .slice ao x.2.1.length cap, .string ar][j]? =some u→((w2.alloc (.cells #[.string nm, .slice ao x.2.1.length cap, .string ar] 47)).alloc (.cells #[.string nm, .slice ao x.2.1.length cap, .string ar] 47)).cell? ⟨w2.heap.size+1,j,none⟩=some u:=by
         intro j u hj
         have:=alloc_row (w2.alloc (.cells #[.string nm, .slice ao x.2.1.length cap, .string ar] 47)) [Value.string nm, .slice ao x.2.1.length cap, .string ar] 47 j u hj
         rwa [size_al] at this
        refine hid ?_
        go_wp2_with (at_builtin;refine wpList_append_row rfl _ _ 38 rfl w.heap.size 47 i0 _ 3 56 Tryz.underlying38 hi0 hz0 hz1 hz2 rfl (by decide) _ xs.length _ rfl h3' _ [.string nm, .slice ao x.2.1.length cap, .string ar] rfl rfl hcl hone (by unfold maxLen;omega) (by omega) hb3.size ?_;intro v4 w4 ho4 hg4)
        have hb4:=below_grown hb3 hg4 (fun k hk=>(h3'.lt k hk).1)
        go_roundw
        case rel=>exact ⟨q,xs++[x],by omega,by go_num,hin2,by simp;omega,ownP_snoc h1 h2 h3' h4' rfl hx ho4 hg4,hb4⟩
        case measure=>simp[intOf];omega
      ·have e:Hid ((A,E)=(xs,0)):=by
        show _=_
        have:remL (L s) k=[]:=by unfold remL;rw[if_neg (by rw[L_len];omega)]
        rw[Hp.out,hin.out,this]
        simp[stepL]
       go_wp2_with fail
       go_ret2
       obtain ⟨rfl,rfl⟩:=Prod.mk.inj e.out
       exact ⟨_,rfl,ownP_read ho,hb⟩
    ·have e:parF (L s)=([],15):=by
      unfold parF
      rw[if_neg (by rw[L_len];omega),if_neg h1,hd]
      split
      ·rename_i r' he
       have:=(List.cons.inj he).1
       exact absurd this h47
      ·rfl
     rw[e]
     have hn:(c !=47)=true:=by simpa using h47
     clear e h1 hd h47
     go_enter Tryz.func6,Tryz.ntmps6
     go_wp2_with fail
     go_ret2
     exact ⟨_,rfl,SlR.nil,Below.refl _ _⟩
def AtB (l:List Int) (c i:Int):Prop:=(i= -1∧∀x∈l,¬x=c)∨∃k:Nat,i=k∧k < l.length∧l=l.take k++c::l.drop (k+1)∧∀x∈l.take k,¬x=c
theorem atB_index (u:UInt8):∀l:List UInt8,AtB (l.map fun c=>(c.toNat:Int)) u.toNat (Lib.indexByte l u)
 |[]=>Or.inl ⟨rfl,fun x hx=>by simp at hx⟩
 |b::l=>by
  unfold Lib.indexByte
  by_cases hb:b=u
  ·subst hb
   simp only[beq_self_eq_true,if_true]
   exact Or.inr ⟨0,rfl,by simp,by simp,fun x hx=>by simp at hx⟩
  ·have hne:(b==u)=false:=by simpa using hb
   have hni:¬(b.toNat:Int)=u.toNat:=by
    intro h
    exact hb (UInt8.toNat_inj.1 (by omega))
   rw[hne]
   simp only[Bool.false_eq_true,if_false]
   rcases atB_index u l with ⟨h1,h2⟩|⟨k,h1,h2,h3,h4⟩
   ·rw[h1]
    refine Or.inl ⟨rfl,fun x hx=> ?_⟩
    simp only[List.map_cons,List.mem_cons] at hx
    rcases hx with rfl|hx
    ·exact hni
    ·exact h2 x hx
   ·rw[h1]
    have:((k:Int)== -1)=false:=by rw[beq_eq_false_iff_ne];omega
    rw[this]
    simp only[Bool.false_eq_true,if_false]
    refine Or.inr ⟨k+1,by simp,by simp only[List.map_cons,List.length_cons];omega, ?_,fun x hx=> ?_⟩
    ·simp only[List.map_cons,List.take_succ_cons,List.drop_succ_cons,List.cons_append]
     rw[←h3]
    ·simp only[List.map_cons,List.take_succ_cons,List.mem_cons] at hx
     rcases hx with rfl|hx
     ·exact hni
     ·exact h4 x hx
theorem byte_of {c:Int} (h0:0≤c) (h1:c < 256):((c.toNat.toUInt8).toNat:Int)=c:=by
 rw[UInt8.toNat_ofNat']
 omega
set_option maxHeartbeats 1000000 in
set_option maxRecDepth 100000 in
theorem w_slib (s:ByteArray) (c:Int) (w:World) (h0:0≤c) (h1:c < 256):
  Calls Tryz.prog 130 #[.string s, .int .u8 c] w fun e w'=>∃i,e= .returned (.int .i64 i)∧AtB (L s) c i∧w'=w:=by
 go_enter Tryz.func130,Tryz.ntmps130
 go_wp2
 rw[run_callFunc_extern Tryz.func147 (by kernel_rfl) (by kernel_rfl) (by kernel_rfl) (e:=Extern.BytealgIndexByte.indexByte) (by kernel_rfl),Lib.run_indexByteString]
 simp only[Result.andThen]
 rw[Oper.upon_value]
 go_wp2
 go_ret
 refine ⟨_,rfl, ?_,rfl⟩
 have:=atB_index c.toNat.toUInt8 s.data.toList
 rw[byte_of h0 h1] at this
 exact this
set_option maxHeartbeats 1000000 in
set_option maxRecDepth 100000 in
theorem w_sib (s:ByteArray) (c:Int) (w:World) (h0:0≤c) (h1:c < 256):
  Calls Tryz.prog 123 #[.string s, .int .u8 c] w fun e w'=>∃i,e= .returned (.int .i64 i)∧AtB (L s) c i∧w'=w:=by
 go_enter Tryz.func123,Tryz.ntmps123
 go_wp2_with (go_at_call 130;refine (w_slib s c _ h0 h1).mono ?_;rintro e w1 ⟨i,rfl,hi,rfl⟩)
 go_ret
 exact ⟨i,rfl,hi,rfl⟩
set_option maxHeartbeats 1000000 in
set_option maxRecDepth 100000 in
theorem w_slix (s:ByteArray) (w:World):
  Calls Tryz.prog 122 #[.string s, .string ⟨#[44]⟩] w fun e w'=>∃i,e= .returned (.int .i64 i)∧AtB (L s) 44 i∧w'=w:=by
 go_enter Tryz.func122,Tryz.ntmps122
 go_wp2_with (go_at_call 130;refine (w_slib s 44 _ (by decide) (by decide)).mono ?_;rintro e w1 ⟨i,rfl,hi,rfl⟩)
 ·have h:([44]==s.toList)=true:=by assumption
  go_ret
  have e:s.data.toList=[44]:=by rw[←ByteArray.toList_eq];exact (beq_iff_eq.1 h).symm
  refine ⟨_,rfl,Or.inr ⟨0,rfl, ?_, ?_,fun x hx=>by simp at hx⟩,rfl⟩
  ·simp[L,e]
  ·simp[L,e]
 ·go_ret
  exact ⟨i,rfl,hi,rfl⟩
def CutC (l:List Int) (A B:ByteArray) (f:Bool):Prop:=(f=false∧L A=l∧∀x∈l,¬x=44)∨(f=true∧l=L A++44::L B∧∀x∈L A,¬x=44)
set_option maxHeartbeats 1000000 in
set_option maxRecDepth 100000 in
theorem w_slcut (s:ByteArray) (w:World) (hs:s.size≤maxLen):
  Calls Tryz.prog 108 #[.string s, .string ⟨#[44]⟩] w fun e w'=>∃A B f,e= .returned (.tuple #[.string A, .string B, .bool f])∧CutC (L s) A B f∧Below w.heap.size w w':=by
 unfold maxLen at hs
 go_enter Tryz.func108,Tryz.ntmps108
 go_wp2_with (go_at_call 122;refine (w_slix s _).mono ?_;rintro e w1 ⟨i,rfl,hi,rfl⟩;refine Hid.out ?_)
 rcases hi with ⟨rfl,h2⟩|⟨k,rfl,h2,h3,h4⟩
 ·refine hid ?_
  have H2:=hid h2
  clear h2
  go_wp2_with fail
  go_ret3
  exact ⟨s,_,false,rfl,Or.inl ⟨rfl,rfl,H2.out⟩,Below.refl _ _⟩
 ·refine hid ?_
  rw[L_len] at h2
  have H3:=hid h3
  have H4:=hid h4
  clear h3 h4
  have c1:(0:Int)≤k:=by omega
  have c2:(k:Int)≤s.size:=by omega
  have c3:(0:Int)≤(k:Int)+1:=by omega
  have c4:(k:Int)+1≤s.size:=by omega
  go_wp2_with fail
  go_quiet (fail)
  go_wp2_with fail
  go_ret3
  refine ⟨_,_,true,rfl,Or.inr ⟨rfl, ?_, ?_⟩,below_drewN (Below.refl _ _) _⟩
  ·rw[L_extract s 0 k (by omega),L_from]
   simpa using H3.out
  ·rw[L_extract s 0 k (by omega)]
   simpa using H4.out
set_option maxHeartbeats 1000000 in
set_option maxRecDepth 100000 in
theorem w_cut (s:ByteArray) (w:World) (hs:s.size≤maxLen):
  Calls Tryz.prog 84 #[.string s, .string ⟨#[44]⟩] w fun e w'=>∃A B f,e= .returned (.tuple #[.string A, .string B, .bool f])∧CutC (L s) A B f∧Below w.heap.size w w':=by
 go_enter Tryz.func84,Tryz.ntmps84
 go_wp2_with (go_at_call 108;refine (w_slcut s _ hs).mono ?_;rintro e w1 ⟨A,B,f,rfl,h1,h2⟩)
 go_ret3
 exact ⟨A,B,f,rfl,h1,h2⟩
def Tab (w:World):Prop:=(∃tp p,w.cell? ⟨3,0,none⟩=some (.iface tp p))∧w.cell? ⟨8,15,none⟩=some (.int .u8 4)
theorem Tab.below {w w':World} (h:Tab w) (g:Below w.heap.size w w'):Tab w':=by
 obtain ⟨⟨tp,p,h1⟩,h2⟩:=h
 exact ⟨⟨tp,p,below_cell g h1⟩,below_cell g h2⟩
theorem Tab.lt {w:World} (h:Tab w):3 < w.heap.size∧8 < w.heap.size:=by
 obtain ⟨⟨tp,p,h1⟩,h2⟩:=h
 exact ⟨World.block_lt_of_cell? w _ h1,World.block_lt_of_cell? w _ h2⟩
def lw (c:Int):Int:=bits .or .u8 c 32
theorem lw_all:∀n:Fin 256,(if 65≤n.val∧n.val≤90 then lw n.val=n.val+32 else if 97≤n.val∧n.val≤122 then lw n.val=n.val else ¬(97≤lw n.val∧lw n.val≤122))∧0≤lw n.val∧lw n.val < 256:=by
 decide+kernel
theorem lw_of (c:Int) (h0:0≤c) (h1:c < 256):(65≤c→c≤90→lw c=c+32)∧(97≤c→c≤122→lw c=c)∧(¬(65≤c∧c≤90)→¬(97≤c∧c≤122)→¬(97≤lw c∧lw c≤122))∧0≤lw c∧lw c < 256:=by
 have h:=lw_all ⟨c.toNat,by omega⟩
 have e:((c.toNat:Nat):Int)=c:=by omega
 simp only[e] at h
 obtain ⟨h,hb⟩:=h
 refine ⟨fun a b=> ?_,fun a b=> ?_,fun a b=> ?_,hb⟩
 ·rw[if_pos (by omega)] at h;exact h
 ·rw[if_neg (by omega),if_pos (by omega)] at h;exact h
 ·rw[if_neg (by omega),if_neg (by omega)] at h;exact h
theorem w_low (c:Int) (w:World):Calls Tryz.prog 149 #[.int .u8 c] w fun e w'=>e= .returned (.int .u8 (lw c))∧w'=w:=by
 go_enter Tryz.func149,Tryz.ntmps149
 go_wp2
 go_ret
 exact ⟨rfl,rfl⟩
theorem L_getD (s:ByteArray) (k:Nat) (h:k < s.size):((s.data.toList.getD k 0).toNat:Int)=(s[k].toNat:Int):=by
 rw[List.getD_eq_getElem?_getD,List.getElem?_eq_getElem (by simpa using h)]
 rfl
theorem pc_bad (l:List Int) (h:allD 16 l=false):pcOk l=false:=by simp[pcOk,h]
theorem pc_mid (l m:List Int) (c:Int) (h:isD c 16=false):pcOk (l++c::m)=false:=pc_bad _ (allD_mid 16 l m c h)
set_option maxHeartbeats 4000000 in
set_option maxRecDepth 100000 in
theorem w_ipu (t:ByteArray) (w:World) (h8:t.size≤8):
  Calls Tryz.prog 134 #[.string t, .int .i64 16, .int .i64 32] w fun e w'=>
   ((pcOk (L t)=true∧e= .returned (.tuple #[.int .u64 (num 16 (L t)), .nilIface]))∨(pcOk (L t)=false∧e= .returned (.tuple #[.int .u64 0, .iface 193 (.int .i64 2)])))∧Below w.heap.size w w':=by
 by_cases h0:t.size=0
 ·have hs:t=⟨#[]⟩:=by
   apply ByteArray.ext
   exact Array.eq_empty_of_size_eq_zero h0
  subst hs
  go_enter Tryz.func134,Tryz.ntmps134
  go_wp2_with fail
  go_ret2
  exact ⟨Or.inr ⟨rfl,rfl⟩,Below.refl _ _⟩
 ·have hemp:t.toList.isEmpty=false:=by
   rw[←decide_eq_emptyBytes]
   exact decide_eq_false (fun h=>h0 (by rw[h];rfl))
  have hcv:=Lib.run_convert_string_bytes (P:=Tryz.prog) w 9 23 5 t (u:= .string) Tryz.underlying9 Tryz.underlying23 Tryz.underlying5
  have hB:∀j,j < t.size→(Lib.bytesWorld w 5 t).cell? ⟨w.heap.size,j,none⟩=some (.int .u8 (t.data.toList.getD j 0).toNat):=fun j hj=>Lib.bytesWorld_cell w 5 t j hj
  have hbel:=Lib.bytesWorld_below w 5 t
  obtain ⟨W1,hW1⟩:∃W1,W1=Lib.bytesWorld w 5 t:=⟨_,rfl⟩
  rw[←hW1] at hcv hB hbel
  clear hW1
  have hmv:IntKind.u64.wrap (IntKind.u64.wrap 4294967296 - 1)=4294967295:=by
   rw[IntKind.wrap_u64,IntKind.wrap_u64]
   decide
  go_enter Tryz.func134,Tryz.ntmps134
  go_wp2_with fail
  go_loop [12,13,101] (fun vu vn vi=>∃(k:Nat) (a:Int),vu= .bool false∧vn= .int .u64 a∧vi= .int .i64 k∧(k:Int)≤t.size∧0≤a∧a < 4294967296∧Hid (allD 16 ((L t).take k)=true)∧Hid (num 16 ((L t).take k)=a))
   (fun _ _ vi=>t.size - (intOf vi).toNat)
  case atStart=>exact ⟨0,0,rfl,rfl,rfl,by omega,by omega,by omega,hid rfl,hid rfl⟩
  case round=>
   obtain ⟨k,a,rfl,rfl,rfl,hk,a0,a1,hA,hN⟩:=hrel
   by_cases hlt:(k:Int) < t.size
   ·have hkk:k < t.size:=by omega
    have hc:=hB k hkk
    obtain ⟨c,hcc⟩:∃c,(t[k].toNat:Int)=c:=⟨_,rfl⟩
    have hcb:=L_bd t k hkk
    rw[hcc] at hcb
    obtain ⟨c0,c1⟩:=hcb
    rw[L_getD t k hkk,hcc] at hc
    have hT:Hid ((L t).take (k+1)=(L t).take k++[c]):=by show _=_;rw[←hcc];exact L_take t k hkk
    have hLd:Hid (L t=(L t).take k++c::(L t).drop (k+1)):=by
     show _=_
     rw[←hcc,←L_drop t k hkk,List.take_append_drop]
    have hlk:Hid (((L t).take k).length=k):=by show _=_;rw[List.length_take,L_len];omega
    clear hB hcc
    obtain ⟨l1,l2,l3,l4,l5⟩:=lw_of c c0 c1
    have hNb:isD c 16=true→0≤a*16+vl c 16∧a*16+vl c 16 < 4294967296:=by
     intro hd
     have:=pc_num ((L t).take (k+1)) (fun x hx=>LB_bytes t x (List.mem_of_mem_take hx)) (by
      unfold pcOk
      rw[hT.out,allD_snoc,hA.out,hd,List.length_append,hlk.out]
      simp
      omega)
     rw[hT.out,num_snoc,hN.out] at this
     exact this
    have hcs:(48≤c∧c≤57)∨(65≤c∧c≤70)∨(97≤c∧c≤102)∨(71≤c∧c≤90)∨(103≤c∧c≤122)∨(¬(48≤c∧c≤57)∧¬(65≤c∧c≤90)∧¬(97≤c∧c≤122)):=by omega
    have hdd:isD c 16=true↔(48≤c∧c≤57)∨(65≤c∧c≤70)∨(97≤c∧c≤102):=by unfold isD dv;simp;omega
    have good:isD c 16=true→Hid (allD 16 ((L t).take (k+1))=true)∧Hid (num 16 ((L t).take (k+1))=a*16+vl c 16):=by
     intro hd
     refine ⟨?_, ?_⟩
     ·show _=_;rw[hT.out,allD_snoc,hA.out,hd];rfl
     ·show _=_;rw[hT.out,num_snoc,hN.out]
    have bad:isD c 16=false→Hid (pcOk (L t)=false):=by
     intro hd
     show _=_
     rw[hLd.out]
     exact pc_mid _ _ _ hd
    rcases hcs with ⟨d0,d1⟩|⟨d0,d1⟩|⟨d0,d1⟩|⟨d0,d1⟩|⟨d0,d1⟩|⟨d0,d1,d2⟩
    ·have hd:isD c 16=true:=hdd.2 (by omega)
     have hv:vl c 16=c - 48:=by unfold vl;rw[if_pos hd];unfold dv;omega
     obtain ⟨g1,g2⟩:=good hd
     have hbd:=hNb hd
     rw[hv] at g2 hbd
     obtain ⟨b0,b1⟩:=hbd
     clear l1 l2 l3 l4 l5 hdd hd hv hNb good bad hT hLd hlk hA hN
     go_wp2_with fail
     refine ⟨⟨k+1,a*16+(c - 48),rfl,(by first|rfl|(congr 1;omega)),(by first|rfl|(congr 1;omega)),by omega,b0,b1,g1,g2⟩,by simp[intOf];omega⟩
    ·have hd:isD c 16=true:=hdd.2 (by omega)
     have hv:vl c 16=c - 55:=by unfold vl;rw[if_pos hd];unfold dv;omega
     have hl:=l1 (by omega) (by omega)
     obtain ⟨g1,g2⟩:=good hd
     have hbd:=hNb hd
     rw[hv] at g2 hbd
     obtain ⟨b0,b1⟩:=hbd
     clear l1 l2 l3 l4 l5 hdd hd hv hNb good bad hT hLd hlk hA hN
     go_wp2_with (go_at_call 149;refine (w_low c _).mono ?_;rintro e w1 ⟨rfl,rfl⟩;rw[hl])
     refine ⟨⟨k+1,a*16+(c - 55),rfl,(by first|rfl|(congr 1;omega)),(by first|rfl|(congr 1;omega)),by omega,b0,b1,g1,g2⟩,by simp[intOf];omega⟩
    ·have hd:isD c 16=true:=hdd.2 (by omega)
     have hv:vl c 16=c - 87:=by unfold vl;rw[if_pos hd];unfold dv;omega
     have hl:=l2 (by omega) (by omega)
     obtain ⟨g1,g2⟩:=good hd
     have hbd:=hNb hd
     rw[hv] at g2 hbd
     obtain ⟨b0,b1⟩:=hbd
     clear l1 l2 l3 l4 l5 hdd hd hv hNb good bad hT hLd hlk hA hN
     go_wp2_with (go_at_call 149;refine (w_low c _).mono ?_;rintro e w1 ⟨rfl,rfl⟩;rw[hl])
     refine ⟨⟨k+1,a*16+(c - 87),rfl,(by first|rfl|(congr 1;omega)),(by first|rfl|(congr 1;omega)),by omega,b0,b1,g1,g2⟩,by simp[intOf];omega⟩
    ·have hf:=bad (by rw[Bool.eq_false_iff,Ne,hdd];omega)
     have hl:=l1 (by omega) (by omega)
     clear l1 l2 l3 l4 l5 hdd hNb good bad hT hLd hlk hA hN
     go_wp2_with (go_at_call 149;refine (w_low c _).mono ?_;rintro e w1 ⟨rfl,rfl⟩;rw[hl])
     all_goals go_ret2
     all_goals exact ⟨Or.inr ⟨hf.out,rfl⟩,hbel⟩
    ·have hf:=bad (by rw[Bool.eq_false_iff,Ne,hdd];omega)
     have hl:=l2 (by omega) (by omega)
     clear l1 l2 l3 l4 l5 hdd hNb good bad hT hLd hlk hA hN
     go_wp2_with (go_at_call 149;refine (w_low c _).mono ?_;rintro e w1 ⟨rfl,rfl⟩;rw[hl])
     all_goals go_ret2
     all_goals exact ⟨Or.inr ⟨hf.out,rfl⟩,hbel⟩
    ·have hf:=bad (by rw[Bool.eq_false_iff,Ne,hdd];omega)
     have hl:=l3 d1 d2
     by_cases h95:c=95
     ·subst h95
      have hM:lw 95=127:=by decide+kernel
      clear l1 l2 l3 l4 l5 hl hdd hNb good bad hT hLd hlk hA hN d1 d2
      go_wp2_with (go_at_call 149;refine (w_low 95 _).mono ?_;rintro e w1 ⟨rfl,rfl⟩;rw[hM])
      all_goals go_ret2
      all_goals exact ⟨Or.inr ⟨hf.out,rfl⟩,hbel⟩
     have h95b:(c==95)=false:=by simpa using h95
     clear h95
     obtain ⟨M,hM⟩:∃M,lw c=M:=⟨_,rfl⟩
     rw[hM] at hl l4 l5
     clear l1 l2 l3 hdd hNb good bad hT hLd hlk hA hN d1 d2
     go_wp2_with (go_at_call 149;refine (w_low c _).mono ?_;rintro e w1 ⟨rfl,rfl⟩;rw[hM])
     all_goals go_ret2
     all_goals exact ⟨Or.inr ⟨hf.out,rfl⟩,hbel⟩
   ·obtain rfl:k=t.size:=by omega
    have hall:=hA.out
    have hnn:=hN.out
    rw[List.take_of_length_le (by rw[L_len];omega)] at hall hnn
    have hok:Hid (pcOk (L t)=true):=by show _=_;unfold pcOk;rw[hall,L_len];simp;omega
    have HN:=hid hnn
    clear hall hnn
    go_wp2_with fail
    go_ret2
    exact ⟨Or.inl ⟨hok.out,by rw[HN.out];rfl⟩,hbel⟩
set_option maxHeartbeats 4000000 in
set_option maxRecDepth 100000 in
theorem w_slcl (s:ByteArray) (w:World) (hlim:s.size≤281474976710656):
  Calls Tryz.prog 179 #[.string s] w fun e w'=>e= .returned (.string s)∧Below w.heap.size w w':=by
 by_cases h0:s.size=0
 ·have hs:s=⟨#[]⟩:=by
   apply ByteArray.ext
   exact Array.eq_empty_of_size_eq_zero h0
  subst hs
  go_enter Tryz.func179,Tryz.ntmps179
  go_wp2
  go_ret
  exact ⟨rfl,Below.refl _ _⟩
 ·obtain ⟨i0,hi,hz0,hz1,hz2⟩:=info_parts infoU8
  have hinfo:(Tryz.prog.info? 5).map (·.size)=some 1:=by rw[hi];simp[hz1]
  have hco:Tryz.prog.cellsOf 5=1:=by simp[Program.cellsOf,hi,hz1]
  obtain ⟨M,hM⟩:∃M,M=madeCells (Value.int .u8 0).cells (((s.size:Nat):Int).toNat*i0.size):=⟨_,rfl⟩
  have hMs:M.size=s.size:=by rw[hM,size_madeCells,hz1];simp
  have hmk:∀W:World,(Instr.makeSlice 23 (.int .i64 (s.size:Int)) (.int .i64 (s.size:Int))).run Tryz.prog W= .ok (.slice (some ⟨W.heap.size,0,none⟩) s.size s.size) (W.alloc (.cells M 5)):=fun W=>by
   have h:=run_make (P:=Tryz.prog) W 23 5 i0 (.int .u8 0) Tryz.underlying23 hi hz0 .i64 .i64 (s.size:Int) (s.size:Int) (by omega) (by omega) (by rw[hz2];omega) (by omega)
   rw[←hM] at h
   simpa using h
  clear hM
  have hcp:=Lib.run_copy_row_string (P:=Tryz.prog) (w.alloc (.cells M 5)) 23 9 3 5 w.heap.size 0 s.size s.size s M 5 Tryz.underlying23 hinfo (heap_alloc_new w _) (Nat.le_refl _) (by omega)
  obtain ⟨Y,hY⟩:∃Y,Y=(M.toList.take 0++Lib.byteCells s.data.toList++M.toList.drop (0+s.size)).toArray:=⟨_,rfl⟩
  rw[←hY] at hcp
  have hYl:Y.toList=Lib.byteCells s.data.toList:=by
   rw[hY,List.toList_toArray,List.take_zero,List.nil_append,List.drop_of_length_le (by rw[Array.length_toList];omega),List.append_nil]
  have hYs:Y.size=s.size:=by rw[←Array.length_toList,hYl,Lib.byteCells_length,←Lib.size_eq]
  have hgY:((w.alloc (.cells M 5)).setRow w.heap.size Y).heap[w.heap.size]? =some (.cells Y 5 (0,0)):=setRow_heap _ _ M _ 5 (0,0) (heap_alloc_new w _)
  have hne:s.data.toList≠[]:=fun e=>h0 (by rw[Lib.size_eq,e];rfl)
  have hUS:=Lib.run_unsafeString_row (P:=Tryz.prog) ((w.alloc (.cells M 5)).setRow w.heap.size Y) 235 3 9 5 Tryz.underlying235 hco w.heap.size Y.size (by unfold World.shape?;rw[hgY]) s.data.toList hne (by rw[←Lib.size_eq];omega) (by rw[←Lib.size_eq];omega)
   (fun j x hx=>Lib.cells_of_row hgY Y.size j _ (by rw[List.take_of_length_le (by rw[Array.length_toList];exact Nat.le_refl _),hYl];simp[Lib.byteCells,hx]))
  rw[←Lib.size_eq] at hUS
  clear hY
  go_enter Tryz.func179,Tryz.ntmps179
  go_wp2
  go_ret
  have hb1:Below w.heap.size w (w.alloc (.cells M 5)):=(Below.refl _ w).alloc (Nat.le_refl _) _
  have hb2:Below w.heap.size (w.alloc (.cells M 5)) ((w.alloc (.cells M 5)).setRow w.heap.size Y):=⟨rfl,rfl,rfl,by simp,fun k hk=>setRow_other _ _ _ _ (by omega)⟩
  exact ⟨rfl,Lib.below_freeze (hb1.trans hb2) (p:=⟨w.heap.size,0,none⟩) (Nat.le_refl _) _⟩
set_option maxHeartbeats 4000000 in
set_option maxRecDepth 100000 in
theorem w_synerr (fn s:ByteArray) (w:World) (hlim:s.size≤281474976710656) (hT:Tab w):
  Calls Tryz.prog 151 #[.string fn, .string s] w fun e w'=>∃N,e= .returned (.pointer (some ⟨N,0,none⟩))∧Below w.heap.size w w':=by
 obtain ⟨⟨te,pe,hv⟩, -⟩:=hT
 have hG:3 < w.heap.size:=World.block_lt_of_cell? w _ hv
 have hvd:w.drew.cell? ⟨3,0,none⟩=some _:=hv
 go_enter Tryz.func151,Tryz.ntmps151
 go_wp2
 go_region_with (
   go_at_call 179
   refine (w_slcl s _ hlim).mono ?_
   rintro e w2 ⟨rfl,hbel⟩
   have hv2:w2.cell? ⟨3,0,none⟩=some _:=(hbel.cell (show (⟨3,0,none⟩:Addr).block < w.drew.heap.size from hG)).trans hvd)
 all_goals (
  go_wp2
  go_ret
  have hs2:w.heap.size≤w2.heap.size:=hbel.size
  exact ⟨_,rfl,((Below.drew (Below.refl _ w)).trans hbel).alloc hs2 _⟩)
set_option maxHeartbeats 4000000 in
set_option maxRecDepth 100000 in
theorem w_toerr (fn s:ByteArray) (base bits:Int) (w:World) (hlim:s.size≤281474976710656) (hT:Tab w):
  Calls Tryz.prog 135 #[.string fn, .string s, .int .i64 base, .int .i64 bits, .iface 193 (.int .i64 2)] w fun e w'=>∃T p,e= .returned (.iface T p)∧Below w.heap.size w w':=by
 have heq:∀W,(binOp .eql 171 (.iface 193 (.int .i64 2)) (.iface 193 (.int .i64 2))).run Tryz.prog W= .ok (.bool true) W:=fun W=>Lib.run_eql_iface_int W 2 2 Tryz.underlying171 (by kernel_rfl) Tryz.underlying193
 go_enter Tryz.func135,Tryz.ntmps135
 go_wp2_with (go_at_call 151;refine (w_synerr fn s _ hlim hT).mono ?_;rintro e w2 ⟨N,rfl,h3⟩)
 go_ret
 exact ⟨_,_,rfl,h3⟩
theorem w_ipu_ok (t:ByteArray) (w:World) (h8:t.size≤8) (hok:pcOk (L t)=true):
  Calls Tryz.prog 134 #[.string t, .int .i64 16, .int .i64 32] w fun e w'=>e= .returned (.tuple #[.int .u64 (num 16 (L t)), .nilIface])∧Below w.heap.size w w':=
 (w_ipu t w h8).mono (by
  rintro e w' ⟨h|h,b⟩
  ·exact ⟨h.2,b⟩
  ·rw[hok] at h;cases h.1)
theorem w_ipu_no (t:ByteArray) (w:World) (h8:t.size≤8) (hok:pcOk (L t)=false):
  Calls Tryz.prog 134 #[.string t, .int .i64 16, .int .i64 32] w fun e w'=>e= .returned (.tuple #[.int .u64 0, .iface 193 (.int .i64 2)])∧Below w.heap.size w w':=
 (w_ipu t w h8).mono (by
  rintro e w' ⟨h|h,b⟩
  ·rw[hok] at h;cases h.1
  ·exact ⟨h.2,b⟩)
set_option maxHeartbeats 4000000 in
set_option maxRecDepth 100000 in
theorem w_spu_ok (t:ByteArray) (w:World) (h8:t.size≤8) (hok:pcOk (L t)=true):
  Calls Tryz.prog 124 #[.string t, .int .i64 16, .int .i64 32] w fun e w'=>e= .returned (.tuple #[.int .u64 (num 16 (L t)), .nilIface])∧Below w.heap.size w w':=by
 have c:=fun w=>w_ipu_ok t w h8 hok
 obtain ⟨n,hn⟩:∃n,num 16 (L t)=n:=⟨_,rfl⟩
 simp only[hn] at c ⊢
 clear hn hok
 go_enter Tryz.func124,Tryz.ntmps124
 go_wp2_with (go_at_call 134;refine (c _).mono ?_;rintro e w1 ⟨rfl,hb⟩)
 go_ret2
 exact ⟨rfl,hb⟩
set_option maxHeartbeats 4000000 in
set_option maxRecDepth 100000 in
theorem w_spu_no (t:ByteArray) (w:World) (h8:t.size≤8) (hok:pcOk (L t)=false) (hT:Tab w):
  Calls Tryz.prog 124 #[.string t, .int .i64 16, .int .i64 32] w fun e w'=>∃T p,e= .returned (.tuple #[.int .u64 0, .iface T p])∧Below w.heap.size w w':=by
 have c:=fun w=>w_ipu_no t w h8 hok
 clear hok
 go_enter Tryz.func124,Tryz.ntmps124
 go_wp2_with (first
  |(go_at_call 134;refine (c _).mono ?_;rintro e w1 ⟨rfl,hb⟩;have hT1:=hT.below hb)
  |(go_at_call 135;refine (w_toerr _ t 16 32 _ (by omega) hT1).mono ?_;rintro e w2 ⟨T,p,rfl,h3⟩))
 go_ret2
 exact ⟨T,p,rfl,below_trans hb h3⟩
end Go.Proofs.YtlokhciaaepenaaGreatDoor
