import Derived.Test.YtlokhciaaepenaaGreatDoorRows
import Derived.Test.YtlokhciaaepenaaGreatDoorB3
set_option linter.unusedVariables false
set_option linter.unusedSimpArgs false
set_option maxRecDepth 100000
namespace Go.Proofs.YtlokhciaaepenaaGreatDoor
open Go.ChangeShapes Go.WideShapes Go.ChangeAt Go.RowKit
theorem uU:Tryz.prog.underlying 22=some (.slice (Tryz.prog.elem 22)):=by kernel_rfl
theorem eU:Tryz.prog.elem 22=26:=by kernel_rfl
theorem zU (w:World):(sizeOf (Tryz.prog.elem 22)).run Tryz.prog w= .ok 1 w:=by rw[eU];exact Tryz.sizeOf26 w
def pcAt (X:List Int) (f k:Nat):List Int:=(X.drop f).take (k - f)
def spR (X:List Int) (f k:Nat):List (List Int):=if k≤X.length then spl 44 (pcAt X f k) (X.drop k) else []
theorem pcAt_len (X:List Int) (f k:Nat) (h1:f≤k) (h2:k≤X.length):(pcAt X f k).length=k - f:=by simp[pcAt];omega
theorem pcAt_bytes {X:List Int} (h:bytesL X) (f k:Nat):bytesL (pcAt X f k):=bytes_take (bytes_drop h f) _
theorem spR_on (X:List Int) (f k:Nat) (h1:f≤k) (h2:k < X.length) (hc:¬X[k]=44):spR X f (k+1)=spR X f k:=by
 unfold spR
 rw[if_pos (by omega),if_pos (by omega),List.drop_eq_getElem_cons h2,spl,if_neg hc]
 congr 1
 unfold pcAt
 rw[show k+1 - f=(k - f)+1 by omega,List.take_succ_eq_append_getElem (by simp;omega)]
 congr 2
 simp
 congr 1
 omega
theorem spR_cut (X:List Int) (f k:Nat) (h1:f≤k) (h2:k < X.length) (hc:X[k]=44):spR X f k=pcAt X f k::spR X (k+1) (k+1):=by
 unfold spR
 rw[if_pos (by omega),if_pos (by omega),List.drop_eq_getElem_cons h2,spl,if_pos hc]
 simp[pcAt]
theorem spR_end (X:List Int) (f k:Nat) (h2:k=X.length):spR X f k=pcAt X f k::spR X (k+1) (k+1):=by
 unfold spR
 rw[if_pos (by omega),if_neg (by omega),h2,List.drop_of_length_le (Nat.le_refl _)]
 rfl
theorem pun_bad (X:List Int) (done:List (List Int)) (p:List Int) (r:List (List Int)) (h:spl 44 [] X=done++(p::r)) (hp:pcOk p=false):punF X=([],15):=by
 unfold punF
 rw[if_pos]
 rw[h]
 simp[hp]
theorem pun_many (X:List Int) (done:List (List Int)) (h:spl 44 [] X=done) (ha:done.all pcOk=true) (hl:4 < done.length):punF X=([],3):=by
 unfold punF
 rw[h,ha,if_neg (by decide),if_pos hl]
theorem pun_ok (X:List Int) (done:List (List Int)) (h:spl 44 [] X=done) (ha:done.all pcOk=true) (hl:¬4 < done.length):punF X=((done.take 4).map (num 16),0):=by
 unfold punF
 rw[h,ha,if_neg (by decide),if_neg hl,List.take_of_length_le (by omega)]
theorem run_part {w:World} (s:ByteArray) (f k:Nat) (h1:f≤k) (h2:k≤s.size):(Instr.slice 9 (.string s) (some (.int .i64 (f:Int))) (some (.int .i64 (k:Int))) none).run Tryz.prog w= .ok (.string (s.extract f k)) w:=by
 simp[Instr.slice,Instr.sliceBounds,run_underlying Tryz.underlying9,run_sliceBound,h1,h2]
theorem L_part (s:ByteArray) (f k:Nat) (h2:k≤s.size):L (s.extract f k)=pcAt (L s) f k:=L_extract s f k h2
def OwnU (base:Nat) (w:World) (v:Value) (xs:List Int):Prop:=w.ownsRow base 26 1 v xs.length (xs.map (Value.int .u32))
set_option maxHeartbeats 2000000 in
set_option maxRecDepth 100000 in
theorem w_rpunitO (s:ByteArray) (w:World) (hs:s.size≤140737488355328):
  Calls Tryz.prog 33 #[.string s] w fun e w'=>∃v1,e= .returned (.tuple #[v1, .int .i64 (punF (L s)).2])∧OwnU w.heap.size w' v1 (punF (L s)).1∧Below w.heap.size w w':=by
 obtain ⟨A,E,hAE⟩:∃A E,punF (L s)=(A,E):=⟨_,_,rfl⟩
 have HAE:=hid hAE
 rw[hAE]
 show Calls _ _ _ _ fun e w'=>∃v1,e= .returned (.tuple #[v1, .int .i64 E])∧OwnU w.heap.size w' v1 A∧_
 clear hAE
 obtain ⟨i0,hi,hz0,hz1,hz2⟩:=info_parts infoU32
 go_enter Tryz.func33,Tryz.ntmps33
 go_wp2_with fail
 go_loopw [4,5,6,7] (fun U F N I wx=>∃(f k:Nat) (done:List (List Int)) (ys:List Int),(f:Int)≤k∧(k:Int)≤s.size+1∧F= .int .i64 f∧I= .int .i64 k∧N= .int .i64 done.length∧(done.length:Int)≤k∧Hid (spl 44 [] (L s)=done++spR (L s) f k)∧Hid (done.all pcOk=true)∧Hid (ys=(done.take 4).map (num 16))∧(ys.length:Int)≤4∧wx.ownsRow w.heap.size 26 1 U ys.length (ys.map (Value.int .u32))∧Below w.heap.size w wx) (fun _ _ _ I _=>(s.size+1 - intOf I).toNat)
 case atStart=>exact ⟨0,0,[],[],by omega,by omega,rfl,rfl,rfl,by simp,hid (by simp[spR,pcAt]),hid rfl,hid rfl,by simp,World.ownsRow_nil _ _ _ _,Below.refl _ _⟩
 case round=>
  obtain ⟨f,k,done,ys,hfk,hk,rfl,rfl,rfl,hdk,hsp,hall,hys,hyl,ho,hb⟩:=hrel
  by_cases hend:(s.size:Int) < k
  ·have e0:spR (L s) f k=[]:=by unfold spR;rw[if_neg (by rw[L_len];omega)]
   have e1:=hsp.out
   rw[e0,List.append_nil] at e1
   by_cases h4:(4:Int) < done.length
   ·have e:=hid (pun_many (L s) done e1 hall.out (by omega))
    clear e0 e1
    go_wp2_with fail
    go_ret2
    obtain ⟨rfl,rfl⟩:=Prod.mk.inj (HAE.out.symm.trans e.out)
    exact ⟨_,rfl,World.ownsRow_nil _ _ _ _,hb⟩
   ·have e:=hid (pun_ok (L s) done e1 hall.out (by omega))
    clear e0 e1
    go_wp2_with fail
    go_ret2
    obtain ⟨rfl,rfl⟩:=Prod.mk.inj (HAE.out.symm.trans e.out)
    rw[hys.out] at ho
    exact ⟨_,rfl,ho,hb⟩
  ·have hkn:k≤s.size:=by omega
   have hfkn:f≤k:=by omega
   by_cases hon:∃h:k < s.size,¬(s[k].toNat:Int)=44
   ·obtain ⟨hkk,hc⟩:=hon
    have hrun:=run_at (w:=wr) s k hkk (by unfold maxLen;omega)
    have e1:Hid (spl 44 [] (L s)=done++spR (L s) f (k+1)):=by
     show _=_
     rw[spR_on (L s) f k hfkn (by rw[L_len];exact hkk) (by rw[L_get s k hkk];exact hc)]
     exact hsp.out
    obtain ⟨c,hcc⟩:∃c,(s[k].toNat:Int)=c:=⟨_,rfl⟩
    rw[hcc] at hrun hc
    have hcb:(c !=44)=true:=by simpa using hc
    have hkI:(k:Int) < s.size:=by omega
    clear hcc hc
    go_wp2_with fail
    go_roundw
    case rel=>exact ⟨f,k+1,done,ys,by omega,by omega,rfl,by go_num,rfl,by omega,e1,hall,hys,hyl,ho,hb⟩
    case measure=>simp[intOf];omega
   ·have hcase:(∃h:k < s.size,(s[k].toNat:Int)=44)∨k=s.size:=by
     rcases Nat.lt_or_ge k s.size with h|h
     ·refine Or.inl ⟨h, ?_⟩
      by_cases hq:(s[k].toNat:Int)=44
      ·exact hq
      ·exact absurd ⟨h,hq⟩ hon
     ·exact Or.inr (by omega)
    have hcut:spR (L s) f k=pcAt (L s) f k::spR (L s) (k+1) (k+1):=by
     rcases hcase with ⟨hkk,hc⟩|hq
     ·exact spR_cut (L s) f k hfkn (by rw[L_len];exact hkk) (by rw[L_get s k hkk];exact hc)
     ·exact spR_end (L s) f k (by rw[L_len];exact hq)
    have hrp:=run_part (w:=wr) s f k hfkn hkn
    have hLp:=L_part s f k hkn
    have hpl:=pcAt_len (L s) f k hfkn (by rw[L_len];exact hkn)
    have hpb:=pcAt_bytes (LB_bytes s) f k
    have hTs:(s.extract f k).size=k - f:=by rw[←L_len,hLp,hpl]
    have e1:=hsp.out
    rw[hcut] at e1
    rw[←L_LB] at hpb
    obtain ⟨p,hp⟩:∃p,pcAt (L s) f k=p:=⟨_,rfl⟩
    obtain ⟨T,hT⟩:∃T,s.extract f k=T:=⟨_,rfl⟩
    rw[hp] at e1 hLp hpl hpb
    rw[hT] at hrp hLp hTs
    have E1:=hid e1
    have hTm:T.size≤maxLen:=by unfold maxLen;omega
    clear hcut hp hT hon e1
    have hgd:∃B1 B2:Bool,(decide ((k:Int) < s.size)=B1)∧(B1=false∨B1=true∧B2=false):=⟨_,false,rfl,by cases decide ((k:Int) < s.size) <;> simp⟩
    clear hgd
    by_cases hbad:pcOk p=false
    ·have e:Hid (punF (L s)=([],15)):=pun_bad (L s) done p _ E1.out hbad
     by_cases q1:(T.size:Int) < 1
     ·rcases hcase with ⟨hkk,hc⟩|hq
      ·have hrun:=run_at (w:=wr) s k hkk (by unfold maxLen;omega)
       rw[hc] at hrun
       have hkI:(k:Int) < s.size:=by omega
       go_wp2_with fail
       go_ret2
       obtain ⟨rfl,rfl⟩:=Prod.mk.inj (HAE.out.symm.trans e.out)
       exact ⟨_,rfl,World.ownsRow_nil _ _ _ _,hb⟩
      ·have hkI:¬(k:Int) < s.size:=by omega
       clear hq
       go_wp2_with fail
       go_ret2
       obtain ⟨rfl,rfl⟩:=Prod.mk.inj (HAE.out.symm.trans e.out)
       exact ⟨_,rfl,World.ownsRow_nil _ _ _ _,hb⟩
     ·by_cases q2:(8:Int) < T.size
      ·rcases hcase with ⟨hkk,hc⟩|hq
       ·have hrun:=run_at (w:=wr) s k hkk (by unfold maxLen;omega)
        rw[hc] at hrun
        have hkI:(k:Int) < s.size:=by omega
        go_wp2_with fail
        go_ret2
        obtain ⟨rfl,rfl⟩:=Prod.mk.inj (HAE.out.symm.trans e.out)
        exact ⟨_,rfl,World.ownsRow_nil _ _ _ _,hb⟩
       ·have hkI:¬(k:Int) < s.size:=by omega
        clear hq
        go_wp2_with fail
        go_ret2
        obtain ⟨rfl,rfl⟩:=Prod.mk.inj (HAE.out.symm.trans e.out)
        exact ⟨_,rfl,World.ownsRow_nil _ _ _ _,hb⟩
      ·have hT0:0 < T.size:=by omega
       have hr0:=fun w=>run_at (w:=w) T 0 hT0 hTm
       obtain ⟨d,hd⟩:∃d,(T[0].toNat:Int)=d:=⟨_,rfl⟩
       have hdh:p.head? =some d:=by
        rw[←hLp,←hd,List.head?_eq_getElem?,List.getElem?_eq_getElem (by rw[L_len];exact hT0),L_get T 0 hT0]
       have hdb:=L_bd T 0 hT0
       rw[hd] at hr0 hdb
       rw[show ((0:Nat):Int)=0 from rfl] at hr0
       obtain ⟨d0,d1⟩:=hdb
       by_cases q3:d=45
       ·subst q3
        rcases hcase with ⟨hkk,hc⟩|hq
        ·have hrun:=run_at (w:=wr) s k hkk (by unfold maxLen;omega)
         rw[hc] at hrun
         have hkI:(k:Int) < s.size:=by omega
         clear hd hc
         go_wp2_with fail
         go_ret2
         obtain ⟨rfl,rfl⟩:=Prod.mk.inj (HAE.out.symm.trans e.out)
         exact ⟨_,rfl,World.ownsRow_nil _ _ _ _,hb⟩
        ·have hkI:¬(k:Int) < s.size:=by omega
         clear hq hd
         go_wp2_with fail
         go_ret2
         obtain ⟨rfl,rfl⟩:=Prod.mk.inj (HAE.out.symm.trans e.out)
         exact ⟨_,rfl,World.ownsRow_nil _ _ _ _,hb⟩
       ·have hcp:=w_rparse T 16 wr hTm (by omega) (by omega)
        rw[hLp,pc_prs p hpb (by omega) (by omega) (by rw[hdh];simp[q3]),if_neg (by rw[hbad];decide)] at hcp
        have hdb:(d==45)=false:=by simp[q3]
        rcases hcase with ⟨hkk,hc⟩|hq
        ·have hrun:=run_at (w:=wr) s k hkk (by unfold maxLen;omega)
         rw[hc] at hrun
         have hkI:(k:Int) < s.size:=by omega
         clear hd hc q3
         go_wp2_with (go_at_call 67;refine hcp.mono ?_;rintro e w1 ⟨rfl,b1⟩)
         go_ret2
         obtain ⟨rfl,rfl⟩:=Prod.mk.inj (HAE.out.symm.trans e.out)
         exact ⟨_,rfl,World.ownsRow_nil _ _ _ _,below_trans hb b1⟩
        ·have hkI:¬(k:Int) < s.size:=by omega
         clear hq hd q3
         go_wp2_with (go_at_call 67;refine hcp.mono ?_;rintro e w1 ⟨rfl,b1⟩)
         go_ret2
         obtain ⟨rfl,rfl⟩:=Prod.mk.inj (HAE.out.symm.trans e.out)
         exact ⟨_,rfl,World.ownsRow_nil _ _ _ _,below_trans hb b1⟩
    ·have hok:pcOk p=true:=by simpa using hbad
     have hok2:=hok
     simp[pcOk] at hok2
     have hT0:0 < T.size:=by omega
     have q1:¬(T.size:Int) < 1:=by omega
     have q2:¬(8:Int) < T.size:=by omega
     have hr0:=fun w=>run_at (w:=w) T 0 hT0 hTm
     obtain ⟨d,hd⟩:∃d,(T[0].toNat:Int)=d:=⟨_,rfl⟩
     have hdh:p.head? =some d:=by
      rw[←hLp,←hd,List.head?_eq_getElem?,List.getElem?_eq_getElem (by rw[L_len];exact hT0),L_get T 0 hT0]
     have hdb:=L_bd T 0 hT0
     rw[hd] at hr0 hdb
     rw[show ((0:Nat):Int)=0 from rfl] at hr0
     obtain ⟨d0,d1⟩:=hdb
     have q3:¬d=45:=by
      intro h
      rw[h] at hdh
      rw[pc_minus p hdh] at hok
      cases hok
     have hdb:(d==45)=false:=by simp[q3]
     have hcp:=w_rparse T 16 wr hTm (by omega) (by omega)
     rw[hLp,pc_prs p hpb (by omega) (by omega) (by rw[hdh];simp[q3]),if_pos hok] at hcp
     have hnb:=pc_num p hpb hok
     have E2:Hid (spl 44 [] (L s)=(done++[p])++spR (L s) (k+1) (k+1)):=by show _=_;rw[E1.out];simp
     have hall2:Hid ((done++[p]).all pcOk=true):=by show _=_;rw[List.all_append,hall.out];simp[hok]
     obtain ⟨x,hx⟩:∃x,num 16 p=x:=⟨_,rfl⟩
     have HX:=hid hx
     simp only[hx] at hcp hnb
     obtain ⟨x0,x1⟩:=hnb
     have hdl:((done++[p]).length:Int)=done.length+1:=by simp
     by_cases h4:(done.length:Int)+1≤4
     ·have hys2:Hid (ys++[x]=((done++[p]).take 4).map (num 16)):=by
       show _=_
       rw[hys.out,List.take_of_length_le (by omega),List.take_of_length_le (by simp;omega),List.map_append,←HX.out]
       rfl
      have hyd:(ys.length:Int)=done.length:=by rw[hys.out,List.length_map,List.length_take];omega
      clear hx hd q3 hbad hok hok2 hdh hLp hpl hpb
      rcases hcase with ⟨hkk,hc⟩|hq
      ·have hrun:=run_at (w:=wr) s k hkk (by unfold maxLen;omega)
       rw[hc] at hrun
       have hkI:(k:Int) < s.size:=by omega
       clear hc
       go_wp2_with (first
        |(go_at_call 67;refine hcp.mono ?_;rintro e w1 ⟨rfl,b1⟩;have ho1:=own_below ho b1;have ho2:=World.ownsRow.alloc ho1 (.cells #[.int .u32 x] 26);have hb1:=below_trans hb b1;have hb2:=hb1.alloc hb1.size (.cells #[.int .u32 x] 26))
        |(at_builtin;refine wpList_append_rd (k:= .u32) rfl _ _ 22 rfl w.heap.size 26 i0 4 Tryz.underlying22 hi hz0 hz1 hz2 _ ys rfl ho2 _ [x] rfl (rd_one _ x 26) (by unfold maxLen;simp;omega) (by simp;omega) hb2.size ?_;intro v4 w4 ho4 hg4))
       have hb4:=below_grown hb2 hg4 (fun k hk=>(ho2.lt k hk).1)
       go_roundw
       case rel=>exact ⟨k+1,k+1,done++[p],ys++[x],by omega,by omega,by go_num,by go_num,by rw[hdl],by omega,E2,hall2,hys2,by simp;omega,ho4,hb4⟩
       case measure=>simp[intOf];omega
      ·have hkI:¬(k:Int) < s.size:=by omega
       clear hq
       go_wp2_with (first
        |(go_at_call 67;refine hcp.mono ?_;rintro e w1 ⟨rfl,b1⟩;have ho1:=own_below ho b1;have ho2:=World.ownsRow.alloc ho1 (.cells #[.int .u32 x] 26);have hb1:=below_trans hb b1;have hb2:=hb1.alloc hb1.size (.cells #[.int .u32 x] 26))
        |(at_builtin;refine wpList_append_rd (k:= .u32) rfl _ _ 22 rfl w.heap.size 26 i0 4 Tryz.underlying22 hi hz0 hz1 hz2 _ ys rfl ho2 _ [x] rfl (rd_one _ x 26) (by unfold maxLen;simp;omega) (by simp;omega) hb2.size ?_;intro v4 w4 ho4 hg4))
       have hb4:=below_grown hb2 hg4 (fun k hk=>(ho2.lt k hk).1)
       go_roundw
       case rel=>exact ⟨k+1,k+1,done++[p],ys++[x],by omega,by omega,by go_num,by go_num,by rw[hdl],by omega,E2,hall2,hys2,by simp;omega,ho4,hb4⟩
       case measure=>simp[intOf];omega
     ·have hys2:Hid (ys=((done++[p]).take 4).map (num 16)):=by
       show _=_
       rw[hys.out,List.take_append_of_le_length (by omega)]
      clear hx hd q3 hbad hok hok2 hdh hLp hpl hpb
      rcases hcase with ⟨hkk,hc⟩|hq
      ·have hrun:=run_at (w:=wr) s k hkk (by unfold maxLen;omega)
       rw[hc] at hrun
       have hkI:(k:Int) < s.size:=by omega
       clear hc
       go_wp2_with (go_at_call 67;refine hcp.mono ?_;rintro e w1 ⟨rfl,b1⟩)
       go_roundw
       case rel=>exact ⟨k+1,k+1,done++[p],ys,by omega,by omega,by go_num,by go_num,by rw[hdl],by omega,E2,hall2,hys2,hyl,own_below ho b1,below_trans hb b1⟩
       case measure=>simp[intOf];omega
      ·have hkI:¬(k:Int) < s.size:=by omega
       clear hq
       go_wp2_with (go_at_call 67;refine hcp.mono ?_;rintro e w1 ⟨rfl,b1⟩)
       go_roundw
       case rel=>exact ⟨k+1,k+1,done++[p],ys,by omega,by omega,by go_num,by go_num,by rw[hdl],by omega,E2,hall2,hys2,hyl,own_below ho b1,below_trans hb b1⟩
       case measure=>simp[intOf];omega
def pcF (l:List Int) (i:Nat) (c:Int):Nat:=i+(upTo c (l.drop i)).length
theorem pc_le (l:List Int) (i:Nat) (c:Int) (h:i≤l.length):pcF l i c≤l.length:=by
 have:=upTo_len c (l.drop i)
 rw[List.length_drop] at this
 unfold pcF
 omega
theorem pc_ge (l:List Int) (i:Nat) (c:Int):i≤pcF l i c:=by unfold pcF;omega
theorem pc_end (l:List Int) (c:Int):pcF l l.length c=l.length:=by simp[pcF,upTo]
theorem pc_hit (l:List Int) (i:Nat) (c:Int) (r:List Int) (h:l.drop i=c::r):pcF l i c=i:=by unfold pcF;rw[h];simp[upTo]
theorem pc_miss (l:List Int) (i:Nat) (c x:Int) (r:List Int) (h:l.drop i=x::r) (hx:¬x=c):pcF l i c=pcF l (i+1) c:=by
 have e:l.drop (i+1)=r:=by rw[←List.drop_drop,h];rfl
 unfold pcF
 rw[h,e,upTo,if_neg hx]
 simp
 omega
set_option maxHeartbeats 1000000 in
set_option maxRecDepth 100000 in
theorem w_place (s:ByteArray) (i:Nat) (c:Int) (w:World) (hs:s.size≤maxLen) (hi:i≤s.size) (c0:0≤c) (c1:c < 256):
  Calls Tryz.prog 19 #[.string s, .int .i64 i, .int .u8 c] w fun e w'=>e= .returned (.int .i64 (pcF (L s) i c))∧w'=w:=by
 have hs2:=hs
 unfold maxLen at hs2
 go_enter Tryz.func19,Tryz.ntmps19
 go_wp2_with fail
 go_loopw [1] (fun I wx=>∃(k:Nat),(k:Int)≤s.size∧I= .int .i64 k∧Hid (pcF (L s) i c=pcF (L s) k c)∧wx=w) (fun I _=>(s.size - intOf I).toNat)
 case atStart=>exact ⟨i,by omega,rfl,hid rfl,rfl⟩
 case round=>
  obtain ⟨k,hk,rfl,hp,hwx⟩:=hrel
  subst hwx
  by_cases hlt:(k:Int) < s.size
  ·have hkk:k < s.size:=by omega
   obtain ⟨x,hx⟩:∃x,(s[k].toNat:Int)=x:=⟨_,rfl⟩
   have hrun:=run_at (w:=wr) s k hkk hs
   have hd:=L_drop s k hkk
   rw[hx] at hrun hd
   by_cases hc:x=c
   ·subst hc
    have hf:Hid (pcF (L s) i x=k):=by show _=_;rw[hp.out,pc_hit _ _ _ _ hd]
    have hne:(x !=x)=false:=by simp
    clear hx hd
    go_wp2_with fail
    go_ret
    exact ⟨ret_i (by rw[hf.out]),rfl⟩
   ·have hf:Hid (pcF (L s) i c=pcF (L s) (k+1) c):=by show _=_;rw[hp.out,pc_miss _ _ _ _ _ hd hc]
    have hne:(x !=c)=true:=by simpa using hc
    clear hx hd hc
    go_wp2_with fail
    go_roundw
    case rel=>exact ⟨k+1,by omega,by go_num,hf,by first|rfl|trivial⟩
    case measure=>simp[intOf];omega
  ·obtain rfl:k=s.size:=by omega
   have hf:Hid (pcF (L s) i c=s.size):=by
    show _=_
    have:=pc_end (L s) c
    rw[L_len] at this
    rw[hp.out,this]
   go_wp2_with fail
   go_ret
   exact ⟨ret_i (by rw[hf.out]),rfl⟩
end Go.Proofs.YtlokhciaaepenaaGreatDoor
