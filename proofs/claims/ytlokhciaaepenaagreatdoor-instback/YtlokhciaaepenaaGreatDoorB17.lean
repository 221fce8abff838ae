import Derived.Test.YtlokhciaaepenaaGreatDoorRows
import Derived.SizedLaws
import Derived.ChangeSame
import Derived.Test.YtlokhciaaepenaaGreatDoorB16
set_option linter.unusedVariables false
set_option linter.unusedSimpArgs false
set_option maxRecDepth 100000
namespace Go.Proofs.YtlokhciaaepenaaGreatDoor
open Go.ChangeShapes Go.WideShapes Go.ChangeAt Go.RowKit
theorem frI_parts (x:Iz):frI x=(decide (x.1= -1)&&(decide (x.2.1= -1)&&(decide (x.2.2.1=[])&&decide (x.2.2.2=[])))):=by
 unfold frI
 obtain ⟨a,b,c,d⟩:=x
 rw[Bool.eq_iff_iff]
 simp only[decide_eq_true_eq,Bool.and_eq_true,Prod.mk.injEq]
theorem emp_dec {s:ByteArray} {l:List Int} (h:L s=l):decide (l=[])=s.toList.isEmpty:=by
 by_cases g:s=⟨#[]⟩
 ·subst g
  have e1:l=[]:=by rw[←h];decide+kernel
  rw[decide_eq_true e1]
  decide+kernel
 ·rw[emp_no g,decide_eq_false_iff_not]
  intro e
  exact g (L_nil (by rw[h];exact e))
theorem len_dec {α:Type} [DecidableEq α] (l:List α) (n:Nat) (h:l.length=n):decide (l=[])=((n:Int)==0):=by
 subst h
 cases l with
 |nil=>rfl
 |cons a r=>
  have:((((a::r).length:Nat):Int)==0)=false:=by rw[beq_eq_false_iff_ne];simp;omega
  rw[this]
  simp
set_option maxHeartbeats 2000000 in
set_option maxRecDepth 100000 in
theorem w_pisfree (x:Iz) (ar:ByteArray) (vc:Value) (w:World) (e1:strOfNums x.2.2.1=ar) (hc:Rd .u32 w vc x.2.2.2) (bx:bytesL x.2.2.1):
  Calls Tryz.prog 76 #[.agg #[.int .i64 x.1, .int .i64 x.2.1, .string ar,vc]] w fun e w'=>e= .returned (.bool (frI x))∧Below w.heap.size w w':=by
 rw[frI_parts]
 obtain ⟨x1,x2,x3,x4⟩:=x
 simp only at e1 hc bx ⊢
 have hL:L ar=x3:=by rw[←e1];exact LB_nums _ bx
 rw[emp_dec hL]
 have hla:=rd_len hc uU (P:=Tryz.prog)
 obtain ⟨ca,cq,rfl⟩:=rd_slice hc
 obtain ⟨n4,hn4⟩:∃n,x4.length=n:=⟨_,rfl⟩
 rw[len_dec x4 n4 hn4]
 rw[hn4] at hla ⊢
 have bw:=box_below w (.cells #[.int .i64 x1, .int .i64 x2, .string ar, .slice ca n4 cq] 43)
 have st:=stands_new w #[.int .i64 x1, .int .i64 x2, .string ar, .slice ca n4 cq] 43
 have f0:=st.cell 0 _ rfl
 have f1:=st.cell 1 _ rfl
 have f2:=st.cell 2 _ rfl
 have f3:=st.cell 3 _ rfl
 clear hn4 hL e1 bx st hc
 by_cases h1:x1= -1
 ·have q1:(x1== -1)=true:=by simpa using h1
  rw[decide_eq_true h1,Bool.true_and]
  clear h1
  by_cases h2:x2= -1
  ·have q2:(x2== -1)=true:=by simpa using h2
   rw[decide_eq_true h2,Bool.true_and]
   clear h2
   cases q3:ar.toList.isEmpty
   ·rw[Bool.false_and]
    go_enter Tryz.func76,Tryz.ntmps76
    go_wp2_with fail
    go_ret
    exact ⟨rfl,bw⟩
   ·rw[Bool.true_and]
    go_enter Tryz.func76,Tryz.ntmps76
    go_wp2_with fail
    go_ret
    exact ⟨rfl,bw⟩
  ·have q2:(x2== -1)=false:=by simpa using h2
   rw[decide_eq_false h2,Bool.false_and]
   clear h2
   go_enter Tryz.func76,Tryz.ntmps76
   go_wp2_with fail
   go_ret
   exact ⟨rfl,bw⟩
 ·have q1:(x1== -1)=false:=by simpa using h1
  rw[decide_eq_false h1,Bool.false_and]
  clear h1
  go_enter Tryz.func76,Tryz.ntmps76
  go_wp2_with fail
  go_ret
  exact ⟨rfl,bw⟩
theorem no_slash (l:List Int):l.all (fun c=>decide (¬c=47))=decide (¬(47:Int)∈l):=by
 rw[Bool.eq_iff_iff,List.all_eq_true,decide_eq_true_eq]
 constructor
 ·intro h g
  have:=h 47 g
  simp at this
 ·intro h x hx
  rw[decide_eq_true_eq]
  intro e
  exact h (by rw[←e];exact hx)
set_option maxHeartbeats 2000000 in
set_option maxRecDepth 100000 in
theorem w_pisalive (x:Iz) (ar:ByteArray) (vc vt:Value) (t:List Nd) (w:World) (e1:strOfNums x.2.2.1=ar) (hc:Rd .u32 w vc x.2.2.2) (bx:bytesL x.2.2.1) (ht:RdT w vt t):
  Calls Tryz.prog 77 #[.agg #[.int .i64 x.1, .int .i64 x.2.1, .string ar,vc],vt] w fun e w'=>e= .returned (.bool (alI t x))∧Below w.heap.size w w':=by
 obtain ⟨R,hR⟩:∃R,alI t x=R:=⟨_,rfl⟩
 rw[hR]
 unfold alI at hR
 obtain ⟨x1,x2,x3,x4⟩:=x
 simp only at e1 hc bx hR ⊢
 have hL:L ar=x3:=by rw[←e1];exact LB_nums _ bx
 have hsz:(x3.length:Int)=ar.size:=by rw[←hL,L_len]
 have hla:=rd_len hc uU (P:=Tryz.prog)
 have hlt:=slr_len ht uN (P:=Tryz.prog)
 have cC:=fun W=>w_cont47 ar W
 rw[hL,no_slash] at cC
 obtain ⟨S,hS⟩:∃S,decide (¬(47:Int)∈x3)=S:=⟨_,rfl⟩
 rw[hS] at hR cC
 obtain ⟨ca,cq,rfl⟩:=rd_slice hc
 obtain ⟨n4,hn4⟩:∃n,x4.length=n:=⟨_,rfl⟩
 rw[hn4] at hla hR ⊢
 have bw:=box_below w (.cells #[.int .i64 x1, .int .i64 x2, .string ar, .slice ca n4 cq] 43)
 have st:=stands_new w #[.int .i64 x1, .int .i64 x2, .string ar, .slice ca n4 cq] 43
 have f0:=st.cell 0 _ rfl
 have f2:=st.cell 2 _ rfl
 have f3:=st.cell 3 _ rfl
 have HT:=hid ht
 clear hn4 hL e1 bx st hc ht hS
 by_cases h0:x1 < 0
 ·have q0:decide (x1 < 0)=true:=decide_eq_true h0
  have hF:R=false:=by rw[←hR,decide_eq_false (by omega),Bool.false_and]
  subst hF
  clear hR HT
  go_enter Tryz.func77,Tryz.ntmps77
  go_wp2_with fail
  go_quiet (fail)
  go_wp2_with fail
  go_ret
  exact ⟨rfl,below_drewN bw _⟩
 ·have q0:decide (x1 < 0)=false:=decide_eq_false h0
  by_cases h1:(t.length:Int)≤x1
  ·have q1:decide ((t.length:Int)≤x1)=true:=decide_eq_true h1
   have hF:R=false:=by rw[←hR,decide_eq_false (by omega),Bool.false_and]
   subst hF
   clear hR HT
   go_enter Tryz.func77,Tryz.ntmps77
   go_wp2_with fail
   go_quiet (fail)
   go_wp2_with fail
   go_ret
   exact ⟨rfl,below_drewN bw _⟩
  ·have q1:decide ((t.length:Int)≤x1)=false:=decide_eq_false h1
   obtain ⟨j,rfl⟩:∃j:Nat,x1=(j:Int):=⟨x1.toNat,by omega⟩
   have hj:j < t.length:=by omega
   have hjt:(j:Int) < (t.length:Int):=by omega
   obtain ⟨bn,on,nn,vu,vp,vc2,rn,fn0,fn1,fn2,fn3,fn4,en,hun,hpn,hcn⟩:=nod_at (RdT.below HT.out bw) j hj
   have hlc:=rd_len hcn uU (P:=Tryz.prog)
   obtain ⟨na,nq,rfl⟩:=rd_slice hcn
   rw[decide_eq_true (by omega),Bool.true_and,Int.toNat_natCast,List.getD_eq_getElem?_getD,List.getElem?_eq_getElem hj,Option.getD_some] at hR
   obtain ⟨k4,hk4⟩:∃k,t[j].2.2.2.2.length=k:=⟨_,rfl⟩
   rw[hk4] at hR hlc fn4
   clear en hun hpn hcn hk4 HT
   by_cases h2:n4=k4
   ·have q2:((n4:Int) !=(k4:Int))=false:=by simp[h2]
    rw[decide_eq_true h2,Bool.true_and] at hR
    have f2d:=fun n=>below_cell (below_drewN (Below.refl _ (w.alloc (.cells #[.int .i64 (j:Int), .int .i64 x2, .string ar, .slice ca n4 cq] 43))) n) f2
    by_cases h3:(ar.size:Int)≤256
    ·have q3:decide ((ar.size:Int)≤256)=true:=decide_eq_true h3
     have hF:R=S:=by rw[←hR,decide_eq_true (by omega),Bool.true_and]
     subst hF
     clear hR h2 hsz
     go_enter Tryz.func77,Tryz.ntmps77
     go_wp2_with fail
     go_quiet (fail)
     go_wp2_with (go_at_call 100;refine (cC _).mono ?_;rintro e w1 ⟨rfl,hw1⟩;obtain rfl:=hw1.symm)
     go_ret
     exact ⟨by simp,below_drewN bw _⟩
    ·have q3:decide ((ar.size:Int)≤256)=false:=decide_eq_false h3
     have hF:R=false:=by rw[←hR,decide_eq_false (by omega),Bool.false_and]
     subst hF
     clear hR h2 hsz
     go_enter Tryz.func77,Tryz.ntmps77
     go_wp2_with fail
     go_quiet (fail)
     go_wp2_with fail
     go_ret
     exact ⟨rfl,below_drewN bw _⟩
   ·have q2:((n4:Int) !=(k4:Int))=true:=by simpa using (by omega:¬(n4:Int)=(k4:Int))
    have hF:R=false:=by rw[←hR,decide_eq_false h2,Bool.false_and]
    subst hF
    clear hR h2
    go_enter Tryz.func77,Tryz.ntmps77
    go_wp2_with fail
    go_quiet (fail)
    go_wp2_with fail
    go_ret
    exact ⟨rfl,below_drewN bw _⟩
set_option maxHeartbeats 1000000 in
set_option maxRecDepth 100000 in
theorem w_pnoal (v:Value) (l:List Iz) (p:Int) (w:World) (h:RdI w v l):
  Calls Tryz.prog 40 #[v, .int .i64 p] w fun e w'=>e= .returned (.bool (noaF l p))∧w'=w:=by
 have hla:=slr_len h uI (P:=Tryz.prog)
 have cb:=fun W=>w_pnob p l.length W
 obtain ⟨R,hR⟩:∃R,noaF l p=R:=⟨_,rfl⟩
 rw[hR]
 unfold noaF at hR
 by_cases h0: -1≤p∧p < (l.length:Int)
 ·simp only[decide_eq_true h0] at cb
  rw[decide_eq_true h0,Bool.true_and] at hR
  by_cases h1:p= -1
  ·have q1:(p== -1)=true:=by simpa using h1
   rw[decide_eq_true h1,Bool.true_or] at hR
   subst hR
   clear h1 h0
   go_enter Tryz.func40,Tryz.ntmps40
   go_wp2_with (go_at_call 36;refine (cb _).mono ?_;rintro e w1 ⟨rfl,hw1⟩;obtain rfl:=hw1.symm)
   go_ret
   exact ⟨rfl,rfl⟩
  ·obtain ⟨j,rfl⟩:∃j:Nat,p=(j:Int):=⟨p.toNat,by omega⟩
   have hj:j < l.length:=by omega
   have hj2:(j:Int) < l.length:=by omega
   obtain ⟨b1,o1,ar,vc,r1,f0,f1,f2,f3,e1,hc⟩:=ins_at h j hj
   rw[decide_eq_false h1,Bool.false_or,Int.toNat_natCast,List.getD_eq_getElem?_getD,List.getElem?_eq_getElem hj,Option.getD_some] at hR
   have q1:((j:Int)== -1)=false:=by rw[beq_eq_false_iff_ne];omega
   obtain ⟨X,hX⟩:∃X,l[j].1=X:=⟨_,rfl⟩
   rw[hX] at f0 hR
   have hE:R=(X != -1):=by
    rw[←hR,Bool.eq_iff_iff,decide_eq_true_eq,bne_iff_ne]
   subst hE
   clear h1 h0 hX hR e1 hc
   go_enter Tryz.func40,Tryz.ntmps40
   go_wp2_with (go_at_call 36;refine (cb _).mono ?_;rintro e w1 ⟨rfl,hw1⟩;obtain rfl:=hw1.symm)
   go_ret
   exact ⟨rfl,rfl⟩
 ·simp only[decide_eq_false h0] at cb
  rw[decide_eq_false h0,Bool.false_and] at hR
  subst hR
  clear h0
  go_enter Tryz.func40,Tryz.ntmps40
  go_wp2_with (go_at_call 36;refine (cb _).mono ?_;rintro e w1 ⟨rfl,hw1⟩;obtain rfl:=hw1.symm)
  go_ret
  exact ⟨rfl,rfl⟩
set_option maxHeartbeats 2000000 in
set_option maxRecDepth 100000 in
theorem w_pground (v:Value) (l:List Iz) (i:Nat) (w:World) (h:RdI w v l) (hi:i < l.length):
  Calls Tryz.prog 78 #[v, .int .i64 i] w fun e w'=>e= .returned (.bool (grF l l.length i))∧w'=w:=by
 have hla:=slr_len h uI (P:=Tryz.prog)
 have hm:=slr_max h
 unfold maxLen at hm
 obtain ⟨R,hR⟩:∃R,grF l l.length i=R:=⟨_,rfl⟩
 rw[hR]
 have HR:=hid hR
 clear hR
 go_enter Tryz.func78,Tryz.ntmps78
 go_wp2_with fail
 go_loopw [1,7] (fun A I wx=>∃(a k:Nat),(k:Int)≤l.length∧A= .int .i64 a∧I= .int .i64 k∧(a:Int) < l.length∧Hid (grF l (l.length - k) a=R)∧wx=w) (fun A I _=>(l.length - intOf I).toNat)
 case atStart=>exact ⟨i,0,by omega,rfl,rfl,by omega,HR,rfl⟩
 case round=>
  obtain ⟨a,k,hk,rfl,rfl,ha,ht,hw⟩:=hrel
  obtain rfl:=hw.symm
  by_cases hlt:(k:Int) < l.length
  ·have hal:a < l.length:=by omega
   obtain ⟨b1,o1,ar,vc,r1,f0,f1,f2,f3,e1,hc⟩:=ins_at h a hal
   obtain ⟨f,hf⟩:∃f,l.length - k=f+1:=⟨l.length - k - 1,by omega⟩
   have hk1:l.length - (k+1)=f:=by omega
   have ht1:=ht.out
   rw[hf,grF] at ht1
   have hp:parF9 l (a:Int)=l[a].2.1:=by
    unfold parF9
    rw[Int.toNat_natCast,List.getD_eq_getElem?_getD,List.getElem?_eq_getElem hal]
    rfl
   rw[hp] at ht1
   obtain ⟨P,hP⟩:∃P,l[a].2.1=P:=⟨_,rfl⟩
   rw[hP] at ht1 f1
   have cn:=fun W (g:W=w)=>w_pnoal v l P W (by rw[g];exact h)
   cases hn:noaF l P
   ·rw[hn,Bool.false_and] at ht1
    simp only[hn] at cn
    subst ht1
    clear ht hn hP hp hf hk1 HR e1 hc
    go_wp2_with (go_at_call 40;refine (cn _ rfl).mono ?_;rintro e w1 ⟨rfl,hw1⟩;obtain rfl:=hw1.symm)
    go_ret
    exact ⟨rfl,rfl⟩
   ·rw[hn,Bool.true_and] at ht1
    simp only[hn] at cn
    have hr: -1≤P∧P < (l.length:Int):=by
     simp only[noaF,Bool.and_eq_true,decide_eq_true_eq] at hn
     exact hn.1
    by_cases h1:P= -1
    ·have q1:(P== -1)=true:=by simpa using h1
     rw[decide_eq_true h1,Bool.true_or] at ht1
     subst ht1
     clear ht hn hP hp hf hk1 HR e1 hc h1
     go_wp2_with (go_at_call 40;refine (cn _ rfl).mono ?_;rintro e w1 ⟨rfl,hw1⟩;obtain rfl:=hw1.symm)
     go_ret
     exact ⟨rfl,rfl⟩
    ·have q1:(P== -1)=false:=by simpa using h1
     rw[decide_eq_false h1,Bool.false_or] at ht1
     obtain ⟨j,rfl⟩:∃j:Nat,P=(j:Int):=⟨P.toNat,by omega⟩
     have ht2:Hid (grF l (l.length - (k+1)) (j:Int)=R):=by show _=_;rw[hk1];exact ht1
     have hjl:(j:Int) < l.length:=hr.2
     clear ht hn hP hp hf hk1 HR e1 hc h1 ht1 hr
     go_wp2_with (go_at_call 40;refine (cn _ rfl).mono ?_;rintro e w1 ⟨rfl,hw1⟩;obtain rfl:=hw1.symm)
     go_roundw
     case rel=>exact ⟨j,k+1,by omega,rfl,by go_num,hjl,ht2,trivial⟩
     case measure=>simp[intOf];omega
  ·have hE:R=false:=by
    rw[←ht.out,show l.length - k=0 by omega]
    rfl
   subst hE
   clear ht HR
   go_wp2_with fail
   go_ret
   exact ⟨rfl,rfl⟩
theorem inp_len {l:List Iz} {t:List Nd} (h:¬l.length≤16):insF l t=false:=by
 rw[insF_as]
 unfold inpF
 rw[decide_eq_false h,Bool.false_and]
theorem inp_bad {l:List Iz} {t:List Nd} {k:Nat} (hk:k < l.length) (h:okZ9 t l[k]=false):insF l t=false:=by
 rw[insF_as]
 unfold inpF
 have:l.all (okZ9 t)=false:=List.all_eq_false.2 ⟨_,List.getElem_mem hk,by rw[h];decide⟩
 rw[this,Bool.false_and,Bool.and_false]
theorem inp_gr {l:List Iz} {t:List Nd} {k:Nat} (hk:k < l.length) (h:grF l l.length k=false):insF l t=false:=by
 rw[insF_as]
 unfold inpF
 have:(List.range l.length).all (fun (j:Nat)=>grF l l.length (j:Int))=false:=List.all_eq_false.2 ⟨k,List.mem_range.2 hk,by rw[h];decide⟩
 rw[this,Bool.and_false,Bool.and_false]
theorem inp_yes {l:List Iz} {t:List Nd} (h0:l.length≤16) (h1:∀k (hk:k < l.length),okZ9 t l[k]=true) (h2:∀k,k < l.length→grF l l.length (k:Nat)=true):insF l t=true:=by
 rw[insF_as]
 unfold inpF
 have e1:l.all (okZ9 t)=true:=List.all_eq_true.2 fun x hx=>by
  obtain ⟨k,hk,rfl⟩:=List.getElem_of_mem hx
  exact h1 k hk
 have e2:(List.range l.length).all (fun (j:Nat)=>grF l l.length (j:Int))=true:=List.all_eq_true.2 fun j hj=>h2 j (List.mem_range.1 hj)
 rw[decide_eq_true h0,e1,e2]
 rfl
set_option maxHeartbeats 4000000 in
set_option maxRecDepth 100000 in
theorem w_pinsts (v vt:Value) (l:List Iz) (t:List Nd) (w:World) (h:RdI w v l) (ht:RdT w vt t) (bx:∀x∈l,bytesL x.2.2.1):
  Calls Tryz.prog 39 #[v,vt] w fun e w'=>e= .returned (.bool (insF l t))∧Below w.heap.size w w':=by
 have hla:=slr_len h uI (P:=Tryz.prog)
 have hm:=slr_max h
 unfold maxLen at hm
 by_cases h16:(16:Int) < l.length
 ·have hf:=hid (inp_len (l:=l) (t:=t) (by omega))
  go_enter Tryz.func39,Tryz.ntmps39
  go_wp2_with fail
  go_ret
  exact ⟨ret_b hf.out.symm,Below.refl _ _⟩
 ·have hlen:Hid (l.length≤16):=by show _≤_;omega
  go_enter Tryz.func39,Tryz.ntmps39
  go_wp2_with fail
  go_loopw [13] (fun I wx=>∃k:Nat,(k:Int)≤l.length∧I= .int .i64 k∧Hid (∀j (g:j < k) (hj:j < l.length),okZ9 t l[j]=true)∧Below w.heap.size w wx) (fun I _=>(l.length - intOf I).toNat)
  case atStart=>exact ⟨0,by omega,rfl,hid (fun j g=>by omega),Below.refl _ _⟩
  case round=>
   obtain ⟨k,hk,rfl,hok,hb⟩:=hrel
   by_cases hlt:(k:Int) < l.length
   ·have hkl:k < l.length:=by omega
    obtain ⟨b1,o1,ar,vc,r1,f0,f1,f2,f3,e1,hc⟩:=ins_at (RdI.below h hb) k hkl
    have bk:=bx _ (List.getElem_mem hkl)
    have cf:=fun W (g:Below wr.heap.size wr W)=>w_pisfree l[k] ar vc W e1 (hc.below g) bk
    have ca:=fun W (g:Below wr.heap.size wr W)=>w_pisalive l[k] ar vc vt t W e1 (hc.below g) bk (ht.below (below_trans hb g))
    have bad:=fun g=>hid (inp_bad (l:=l) (t:=t) hkl g)
    have hokE:okZ9 t l[k]=(frI l[k]||alI t l[k]):=rfl
    obtain ⟨X1,hX1⟩:∃X,l[k].1=X:=⟨_,rfl⟩
    obtain ⟨X2,hX2⟩:∃X,l[k].2.1=X:=⟨_,rfl⟩
    obtain ⟨n4,hn4⟩:∃X,l[k].2.2.2.length=X:=⟨_,rfl⟩
    obtain ⟨a4,q4,rfl⟩:=rd_slice hc
    rw[hX1] at f0
    rw[hX2] at f1
    rw[hn4] at f3
    simp only[hX1,hX2,hn4] at cf ca
    have st:=stands_new wr #[.int .i64 X1, .int .i64 X2, .string ar, .slice a4 n4 q4] 43
    have hbx:=box_below wr (.cells #[.int .i64 X1, .int .i64 X2, .string ar, .slice a4 n4 q4] 43)
    have cfb:=cf _ hbx
    have HC:=hid hc
    clear hX1 hX2 hn4 cf hc e1 HC
    cases hF:frI l[k]
    ·rw[hF] at cfb hokE
     rw[Bool.false_or] at hokE
     cases hA:alI t l[k]
     ·have hf:=bad (by rw[hokE,hA])
      simp only[hA] at ca
      clear hF hA bad hok hokE
      go_wp2_with (first
       |(go_at_call 76;refine cfb.mono ?_;rintro e w1 ⟨rfl,d1⟩;have y:=st.below d1;have y0:=y.cell 0 _ rfl;have y1:=y.cell 1 _ rfl;have y2:=y.cell 2 _ rfl;have y3:=y.cell 3 _ rfl)
       |(go_at_call 77;refine (ca _ (below_trans hbx d1)).mono ?_;rintro e w2 ⟨rfl,d2⟩))
      go_ret
      exact ⟨ret_b hf.out.symm,below_trans hb (below_trans hbx (below_trans d1 d2))⟩
     ·have hok2:Hid (∀j (g:j < k+1) (hj:j < l.length),okZ9 t l[j]=true):=by
       show ∀j _ _,_
       intro j g hj
       by_cases hjk:j < k
       ·exact hok.out j hjk hj
       ·have:j=k:=by omega
        subst this
        rw[hokE,hA]
      simp only[hA] at ca
      clear hF hA bad hok hokE
      go_wp2_with (first
       |(go_at_call 76;refine cfb.mono ?_;rintro e w1 ⟨rfl,d1⟩;have y:=st.below d1;have y0:=y.cell 0 _ rfl;have y1:=y.cell 1 _ rfl;have y2:=y.cell 2 _ rfl;have y3:=y.cell 3 _ rfl)
       |(go_at_call 77;refine (ca _ (below_trans hbx d1)).mono ?_;rintro e w2 ⟨rfl,d2⟩))
      go_roundw
      case rel=>exact ⟨k+1,by omega,by go_num,hok2,below_trans hb (below_trans hbx (below_trans d1 d2))⟩
      case measure=>simp[intOf];omega
    ·rw[hF] at cfb hokE
     have hok2:Hid (∀j (g:j < k+1) (hj:j < l.length),okZ9 t l[j]=true):=by
      show ∀j _ _,_
      intro j g hj
      by_cases hjk:j < k
      ·exact hok.out j hjk hj
      ·have:j=k:=by omega
       subst this
       rw[hokE,Bool.true_or]
     clear hF bad hok hokE ca
     go_wp2_with (first
      |(go_at_call 76;refine cfb.mono ?_;rintro e w1 ⟨rfl,d1⟩;have y:=st.below d1;have y0:=y.cell 0 _ rfl;have y1:=y.cell 1 _ rfl;have y2:=y.cell 2 _ rfl;have y3:=y.cell 3 _ rfl))
     go_roundw
     case rel=>exact ⟨k+1,by omega,by go_num,hok2,below_trans hb (below_trans hbx d1)⟩
     case measure=>simp[intOf];omega
   ·have hok1:Hid (∀j (hj:j < l.length),okZ9 t l[j]=true):=fun j hj=>hok.out j (by omega) hj
    obtain ⟨w0,hw0⟩:∃w0,w0=wr:=⟨_,rfl⟩
    subst hw0
    have hb0:=hb
    clear hok hb
    go_wp2_with fail
    go_loopw [29] (fun I wx=>∃k:Nat,(k:Int)≤l.length∧I= .int .i64 k∧Hid (∀j (g:j < k) (hj:j < l.length),grF l l.length (j:Nat)=true)∧Below w.heap.size w wx) (fun I _=>(l.length - intOf I).toNat)
    case atStart=>exact ⟨0,by omega,rfl,hid (fun j g=>by omega),hb0⟩
    case round=>
     obtain ⟨i,hi,rfl,hoi,hb⟩:=hrel
     by_cases hlti:(i:Int) < l.length
     ·have hil:i < l.length:=by omega
      have cg:=w_pground v l i wr (RdI.below h hb) hil
      cases hG:grF l l.length (i:Nat)
      ·have hf:=hid (inp_gr (t:=t) hil hG)
       rw[hG] at cg
       clear hG hoi
       go_wp2_with (go_at_call 78;refine cg.mono ?_;rintro e w1 ⟨rfl,hw1⟩;obtain rfl:=hw1.symm)
       go_ret
       exact ⟨ret_b hf.out.symm,hb⟩
      ·have hoi2:Hid (∀j (g:j < i+1) (hj:j < l.length),grF l l.length (j:Nat)=true):=by
        show ∀j _ _,_
        intro j g hj
        by_cases hjk:j < i
        ·exact hoi.out j hjk hj
        ·have:j=i:=by omega
         subst this
         exact hG
       rw[hG] at cg
       clear hG hoi
       go_wp2_with (go_at_call 78;refine cg.mono ?_;rintro e w1 ⟨rfl,hw1⟩;obtain rfl:=hw1.symm)
       go_roundw
       case rel=>exact ⟨i+1,by omega,by go_num,hoi2,hb⟩
       case measure=>simp[intOf];omega
     ·have hf:=hid (inp_yes (t:=t) hlen.out hok1.out (fun j hj=>hoi.out j (by omega) hj))
      clear hoi
      go_wp2_with fail
      go_ret
      exact ⟨ret_b hf.out.symm,hb⟩
theorem wf8 {n:Int} (h:(Lit.int .u32 n).wf=true):0≤n∧n < 4294967296:=by
 simp[Lit.wf,IntKind.min,IntKind.max,IntKind.bits,IntKind.signed] at h
 omega
theorem all_weights {H:Type} {P:Program} {e:TypeId} {d:DataW H} {n:Nat}:∀{ds:List (DataW H)},d∈ds→n∈d.weights P e→n∈DataW.weightsAll P e ds
 |x::r,h,hn=>by
  simp only[DataW.weightsAll,List.mem_append]
  rcases List.mem_cons.1 h with rfl|h
  ·exact Or.inl hn
  ·exact Or.inr (all_weights h hn)
theorem slr_trod {α H:Type} {enc:TypeId×Value→H} {W:World} {t e:TypeId} {cs:List Value} {y:DataW H×List MemPlace} {sz fuel:Nat} (R:World→List Value→α→Prop) (Q:α→Prop)
  (ht:Tryz.prog.underlying t=some (.slice e)) (hc:Tryz.prog.cellsOf e=sz) (hsz:0 < sz) (h:DataW.trod enc Tryz.prog W 0 (fun _=>true) true fuel t cs=some y) (hw:∀n∈y.1.weights Tryz.prog t,n≤reachBytes)
  (hR:∀n cs z,DataW.trod enc Tryz.prog W 0 (fun _=>true) true n e cs=some z→(∀m∈z.1.weights Tryz.prog e,m≤reachBytes)→∃x,R W cs x∧Q x):
  ∃a l c xs,cs=[.slice a l c]∧SlR sz R W (.slice a l c) xs∧(∀x∈xs,Q x)∧xs.length*Tryz.prog.bytesOf e≤reachBytes:=by
 have g':∃x l c,cs=[.slice x l c]:=by
  rcases DataW.trod_slice ht h with ⟨h0,_⟩|⟨x,l,c,_,_,_,_,h0,_⟩
  ·exact ⟨none,0,0,h0⟩
  ·exact ⟨some x,l,c,h0⟩
 obtain ⟨a,l,c,rfl⟩:=g'
 obtain ⟨d,ps⟩:=y
 obtain ⟨rows,h1,h2,h3⟩:=slc_open ht hc hsz h
 rcases h3 with ⟨rfl,rfl⟩|⟨ds,zs,rfl,hl,h3⟩
 ·exact ⟨a,l,c,[],rfl,⟨[],h1,rfl,fun i hi=>by simp at hi⟩,fun x hx=>by simp at hx,by simp⟩
 ·have hwt:(ds.length+zs.length)*Tryz.prog.bytesOf e≤reachBytes:=hw _ (by simp[DataW.weights,ht])
  obtain ⟨xs,hx1,hx2⟩:=choose_list (rows.zip ds) (fun (r:List Value×DataW H) (x:α)=>R W r.1 x∧Q x) (fun r hr=>by
   obtain ⟨i,hi,rfl⟩:=List.getElem_of_mem hr
   have hi2:i < rows.length:=by simp at hi;omega
   obtain ⟨n,y,g,g2⟩:=h3 i hi2
   rw[List.getD_eq_getElem?_getD,List.getElem?_eq_getElem hi2] at g
   obtain ⟨x,k1,k2⟩:=hR _ _ _ g (fun m hm=>hw m (by
    simp only[DataW.weights,ht,List.mem_cons,List.mem_append]
    exact Or.inr (Or.inl (all_weights (List.mem_of_getElem? g2) hm))))
   refine ⟨x, ?_,k2⟩
   rw[List.getElem_zip];exact k1)
  have hzl:(rows.zip ds).length=rows.length:=by simp[hl]
  refine ⟨a,l,c,xs,rfl,⟨rows,h1,by omega,fun i hi=> ?_⟩,fun x hx=> ?_, ?_⟩
  ·have:=(hx2 i (by omega) hi).1
   rw[List.getElem_zip] at this
   rw[List.getD_eq_getElem?_getD,List.getElem?_eq_getElem (by omega)]
   exact this
  ·obtain ⟨i,hi,rfl⟩:=List.getElem_of_mem hx
   exact (hx2 i (by omega) hi).2
  ·refine Nat.le_trans (Nat.mul_le_mul_right _ ?_) hwt
   omega
theorem rd_trod {H:Type} {enc:TypeId×Value→H} {W:World} {t e:TypeId} {k:IntKind} {cs:List Value} {y:DataW H×List MemPlace} {fuel:Nat}
  (ht:Tryz.prog.underlying t=some (.slice e)) (he:Tryz.prog.underlying e=some (.int k)) (hc:Tryz.prog.cellsOf e=1) (h:DataW.trod enc Tryz.prog W 0 (fun _=>true) true fuel t cs=some y) (hw:∀n∈y.1.weights Tryz.prog t,n≤reachBytes):
  ∃a l c xs,cs=[.slice a l c]∧Rd k W (.slice a l c) xs∧(∀n∈xs,(Lit.int k n).wf=true)∧xs.length*Tryz.prog.bytesOf e≤reachBytes:=by
 have g':∃x l c,cs=[.slice x l c]:=by
  rcases DataW.trod_slice ht h with ⟨h0,_⟩|⟨x,l,c,_,_,_,_,h0,_⟩
  ·exact ⟨none,0,0,h0⟩
  ·exact ⟨some x,l,c,h0⟩
 obtain ⟨a,l,c,rfl⟩:=g'
 obtain ⟨d,ps⟩:=y
 obtain ⟨u,hu,hf,hd⟩:=rd_open (k:=k) (d:=d) (ps:=ps) ht he hc ⟨_,h⟩
 refine ⟨a,l,c,u,rfl,hu,hf, ?_⟩
 rcases hd with rfl|⟨ys,zs,rfl,hle⟩
 ·simp
 ·have hwt:(ys.length+zs.length)*Tryz.prog.bytesOf e≤reachBytes:=hw _ (by simp[DataW.weights,ht])
  refine Nat.le_trans (Nat.mul_le_mul_right _ ?_) hwt
  omega
theorem str_field {H:Type} {enc:TypeId×Value→H} {W:World} {t:TypeId} {fs:Array Field} {cs:List Value} {xs:List (DataW H×List MemPlace)} {n:Nat} (hu:Tryz.prog.underlying t=some (.struct fs))
  (hf:∀(i:Nat) f,fs[i]? =some f→DataW.trod enc Tryz.prog W 0 (fun _=>true) true n f.type ((cs.drop f.offset).take (Tryz.prog.cellsOf f.type))=xs[i]?) {l:List (TypeId×Nat)} (hl:fs.toList.map (fun f=>(f.type,f.offset))=l) (hw:∀m∈(DataW.agg (xs.map (·.1))).weights Tryz.prog t,m≤reachBytes)
  (i:Nat) (a:TypeId) (o:Nat) (h:l[i]? =some (a,o)) (hc:Tryz.prog.cellsOf a=1) (hi:i < xs.length):
  DataW.trod enc Tryz.prog W 0 (fun _=>true) true n a ((cs.drop o).take 1)=some xs[i]∧∀m∈xs[i].1.weights Tryz.prog a,m≤reachBytes:=by
 subst hl
 rw[List.getElem?_map] at h
 obtain ⟨f,g1,g2⟩:=Option.map_eq_some_iff.1 h
 obtain ⟨rfl,rfl⟩:=Prod.mk.inj g2
 have h1:=hf i f (by rw[←Array.getElem?_toList];exact g1)
 rw[hc,List.getElem?_eq_getElem hi] at h1
 refine ⟨h1,fun m hm=>hw m ?_⟩
 simp only[DataW.weights,hu]
 refine DataW.weights_mem_each (j:=i) (t:=f.type) (d:=xs[i].1) ?_ ?_ m hm
 ·rw[List.getElem?_map,g1];rfl
 ·rw[List.getElem?_map,List.getElem?_eq_getElem hi];rfl
theorem prp_str:Tryz.prog.underlying 92=some (.struct (Tryz.prog.fieldsOf 92)):=by kernel_rfl
theorem prpFs:(Tryz.prog.fieldsOf 92).toList.map (fun f=>(f.type,f.offset))=[(9,0),(23,1)]:=by kernel_rfl
theorem nod_str:Tryz.prog.underlying 51=some (.struct (Tryz.prog.fieldsOf 51)):=by kernel_rfl
theorem nodFs:(Tryz.prog.fieldsOf 51).toList.map (fun f=>(f.type,f.offset))=[(9,0),(22,1),(3,2),(49,3),(22,4)]:=by kernel_rfl
theorem bytI8:Tryz.prog.bytesOf 5=1:=by kernel_rfl
theorem bytI32:Tryz.prog.bytesOf 26=4:=by kernel_rfl
theorem bytPr:Tryz.prog.bytesOf 92=40:=by kernel_rfl
theorem bytNo:Tryz.prog.bytesOf 51=96:=by kernel_rfl
set_option maxRecDepth 100000 in
theorem prp_trod {H:Type} {enc:TypeId×Value→H} {W:World} (fuel:Nat) (cs:List Value) (y:DataW H×List MemPlace) (h:DataW.trod enc Tryz.prog W 0 (fun _=>true) true fuel 92 cs=some y) (hw:∀n∈y.1.weights Tryz.prog 92,n≤reachBytes):
  ∃x:Pp,propR W cs x∧bytesL x.1∧bytesL x.2∧x.1.length≤maxLen∧x.2.length≤140737488351232:=by
 obtain ⟨xs,n,_,rfl,hl,hlen,hf⟩:=DataW.trod_struct prp_str h
 rw[show Tryz.prog.cellsOf 92=2 by kernel_rfl] at hl
 rw[show (Tryz.prog.fieldsOf 92).size=2 by kernel_rfl] at hlen
 match cs,hl with
 |[c0,c1],_=>
  have g0:=str_field prp_str hf prpFs hw 0 9 0 rfl (by kernel_rfl) (by omega)
  have g1:=str_field prp_str hf prpFs hw 1 23 1 rfl (by kernel_rfl) (by omega)
  obtain ⟨k,k1,k2,k3⟩:=DataW.trod_string Tryz.underlying9 g0.1
  obtain ⟨a,l,c,u,e1,hu,hf1,hz⟩:=rd_trod Tryz.underlying23 Tryz.underlying5 (by kernel_rfl) g1.1 g1.2
  simp at k1 e1
  subst k1 e1
  rw[bytI8] at hz
  unfold reachBytes at hz
  exact ⟨(LB k,u),⟨_,by simp[nums_LB],hu⟩,LB_bytes k,wf_bytes hf1,by rw[LB_len];exact k3,by simp only;omega⟩
def goodN (x:Nd):Prop:=bytN x∧lenN x∧sizN x∧cells x.2.1∧cells x.2.2.2.2∧(Lit.int .i64 x.2.2.1).wf=true
set_option maxRecDepth 100000 in
theorem nod_trod {H:Type} {enc:TypeId×Value→H} {W:World} (fuel:Nat) (cs:List Value) (y:DataW H×List MemPlace) (h:DataW.trod enc Tryz.prog W 0 (fun _=>true) true fuel 51 cs=some y) (hw:∀n∈y.1.weights Tryz.prog 51,n≤reachBytes):
  ∃x:Nd,nodR W cs x∧goodN x:=by
 obtain ⟨xs,n,_,rfl,hl,hlen,hf⟩:=DataW.trod_struct nod_str h
 rw[show Tryz.prog.cellsOf 51=5 by kernel_rfl] at hl
 rw[show (Tryz.prog.fieldsOf 51).size=5 by kernel_rfl] at hlen
 match cs,hl with
 |[c0,c1,c2,c3,c4],_=>
  have g0:=str_field nod_str hf nodFs hw 0 9 0 rfl (by kernel_rfl) (by omega)
  have g1:=str_field nod_str hf nodFs hw 1 22 1 rfl (by kernel_rfl) (by omega)
  have g2:=str_field nod_str hf nodFs hw 2 3 2 rfl (by kernel_rfl) (by omega)
  have g3:=str_field nod_str hf nodFs hw 3 49 3 rfl (by kernel_rfl) (by omega)
  have g4:=str_field nod_str hf nodFs hw 4 22 4 rfl (by kernel_rfl) (by omega)
  obtain ⟨k,k1,k2,k3⟩:=DataW.trod_string Tryz.underlying9 g0.1
  obtain ⟨a1,l1,r1,u,e1,hu,hf1,hz1⟩:=rd_trod Tryz.underlying22 Tryz.underlying26 (by kernel_rfl) g1.1 g1.2
  obtain ⟨p,p1,p2,p3⟩:=DataW.trod_int Tryz.underlying3 g2.1
  obtain ⟨a3,l3,r3,q,e3,hq,hf3,hz3⟩:=slr_trod (sz:=2) propR (fun x:Pp=>bytesL x.1∧bytesL x.2∧x.1.length≤maxLen∧x.2.length≤140737488351232) Tryz.underlying49 (by kernel_rfl) (by omega) g3.1 g3.2 prp_trod
  obtain ⟨a4,l4,r4,c,e4,hc,hf4,hz4⟩:=rd_trod Tryz.underlying22 Tryz.underlying26 (by kernel_rfl) g4.1 g4.2
  simp at k1 e1 p1 e3 e4
  subst k1 e1 p1 e3 e4
  rw[bytI32] at hz1 hz4
  rw[bytPr] at hz3
  unfold reachBytes at hz1 hz3 hz4
  exact ⟨(LB k,u,p,q,c),⟨_,_,_,by simp[nums_LB],hu,hq,hc⟩,⟨LB_bytes k,fun x hx=>⟨(hf3 x hx).1,(hf3 x hx).2.1⟩⟩,⟨by rw[LB_len];exact k3,fun x hx=>(hf3 x hx).2.2.1⟩,⟨by simp only;omega,by simp only;omega,by simp only;omega,fun x hx=>by have:=(hf3 x hx).2.2.2;omega⟩,fun n hn=>wf8 (hf1 n hn),fun n hn=>wf8 (hf4 n hn),p3⟩
def gO (y:Opd):Prop:=(Lit.int .i64 y.1).wf=true∧0≤y.2∧y.2 < 4294967296
theorem op_str:Tryz.prog.underlying 118=some (.struct (Tryz.prog.fieldsOf 118)):=by kernel_rfl
theorem opFs:(Tryz.prog.fieldsOf 118).toList.map (fun f=>(f.type,f.offset))=[(3,0),(26,1)]:=by kernel_rfl
theorem bytOp:Tryz.prog.bytesOf 118=16:=by kernel_rfl
theorem bytI64:Tryz.prog.bytesOf 3=8:=by kernel_rfl
theorem op_trod {H:Type} {enc:TypeId×Value→H} {W:World} (fuel:Nat) (cs:List Value) (y:DataW H×List MemPlace) (h:DataW.trod enc Tryz.prog W 0 (fun _=>true) true fuel 118 cs=some y) (hw:∀n∈y.1.weights Tryz.prog 118,n≤reachBytes):
  ∃x:Opd,opR W cs x∧gO x:=by
 obtain ⟨xs,n,_,rfl,hl,hlen,hf⟩:=DataW.trod_struct op_str h
 rw[show Tryz.prog.cellsOf 118=2 by kernel_rfl] at hl
 rw[show (Tryz.prog.fieldsOf 118).size=2 by kernel_rfl] at hlen
 match cs,hl with
 |[c0,c1],_=>
  have g0:=str_field op_str hf opFs hw 0 3 0 rfl (by kernel_rfl) (by omega)
  have g1:=str_field op_str hf opFs hw 1 26 1 rfl (by kernel_rfl) (by omega)
  obtain ⟨a,a1,a2,a3⟩:=DataW.trod_int Tryz.underlying3 g0.1
  obtain ⟨b,b1,b2,b3⟩:=DataW.trod_int Tryz.underlying26 g1.1
  simp at a1 b1
  subst a1 b1
  exact ⟨(a,b),rfl,a3,wf8 b3⟩
structure gW (x:Wd):Prop where
 byt:bytesL x.1
 len:x.1.length≤maxLen
 node:(Lit.int .i64 x.2.1).wf=true
 kind:(Lit.int .i64 x.2.2.1).wf=true
 num:0≤x.2.2.2.1∧x.2.2.2.1 < 4294967296
 ops:∀y∈x.2.2.2.2,gO y
 siz:x.2.2.2.2.length*16≤140737488351232
structure gI (x:Iz):Prop where
 node:(Lit.int .i64 x.1).wf=true
 par:(Lit.int .i64 x.2.1).wf=true
 byt:bytesL x.2.2.1
 len:x.2.2.1.length≤maxLen
 cel:cells x.2.2.2
 siz:x.2.2.2.length*4≤140737488351232
structure gM (m:Mc):Prop where
 stack:cells m.stack
 stackZ:m.stack.length*4≤140737488351232
 mem:bytesL m.mem
 memZ:m.mem.length≤140737488351232
 words:∀x∈m.words,gW x
 wordsZ:m.words.length*64≤140737488351232
 codes:∀x∈m.codes,(Lit.int .i64 x).wf=true
 codesZ:m.codes.length*8≤140737488351232
 base:0≤m.base∧m.base < 4294967296
 tree:∀x∈m.tree,goodN x
 treeZ:m.tree.length*96≤140737488351232
 node:(Lit.int .i64 m.node).wf=true
 insts:∀x∈m.insts,gI x
 instsZ:m.insts.length*56≤140737488351232
 self:(Lit.int .i64 m.self).wf=true
 out:bytesL m.out
 outZ:m.out.length≤140737488351232
theorem wrd_str:Tryz.prog.underlying 34=some (.struct (Tryz.prog.fieldsOf 34)):=by kernel_rfl
theorem wrdFs:(Tryz.prog.fieldsOf 34).toList.map (fun f=>(f.type,f.offset))=[(9,0),(3,1),(3,2),(26,3),(32,4)]:=by kernel_rfl
theorem ins_str:Tryz.prog.underlying 43=some (.struct (Tryz.prog.fieldsOf 43)):=by kernel_rfl
theorem insFs:(Tryz.prog.fieldsOf 43).toList.map (fun f=>(f.type,f.offset))=[(3,0),(3,1),(9,2),(22,3)]:=by kernel_rfl
theorem mch_str:Tryz.prog.underlying 30=some (.struct (Tryz.prog.fieldsOf 30)):=by kernel_rfl
theorem mchFs:(Tryz.prog.fieldsOf 30).toList.map (fun f=>(f.type,f.offset))=[(22,0),(23,1),(24,2),(25,3),(26,4),(27,5),(3,6),(28,7),(3,8),(9,9)]:=by kernel_rfl
theorem bytWd:Tryz.prog.bytesOf 34=64:=by kernel_rfl
theorem bytIz:Tryz.prog.bytesOf 43=56:=by kernel_rfl
theorem wrd_trod {H:Type} {enc:TypeId×Value→H} {W:World} (fuel:Nat) (cs:List Value) (y:DataW H×List MemPlace) (h:DataW.trod enc Tryz.prog W 0 (fun _=>true) true fuel 34 cs=some y) (hw:∀n∈y.1.weights Tryz.prog 34,n≤reachBytes):
  ∃x:Wd,wrdR W cs x∧gW x:=by
 obtain ⟨xs,n,_,rfl,hl,hlen,hf⟩:=DataW.trod_struct wrd_str h
 rw[show Tryz.prog.cellsOf 34=5 by kernel_rfl] at hl
 rw[show (Tryz.prog.fieldsOf 34).size=5 by kernel_rfl] at hlen
 match cs,hl with
 |[c0,c1,c2,c3,c4],_=>
  have g0:=str_field wrd_str hf wrdFs hw 0 9 0 rfl (by kernel_rfl) (by omega)
  have g1:=str_field wrd_str hf wrdFs hw 1 3 1 rfl (by kernel_rfl) (by omega)
  have g2:=str_field wrd_str hf wrdFs hw 2 3 2 rfl (by kernel_rfl) (by omega)
  have g3:=str_field wrd_str hf wrdFs hw 3 26 3 rfl (by kernel_rfl) (by omega)
  have g4:=str_field wrd_str hf wrdFs hw 4 32 4 rfl (by kernel_rfl) (by omega)
  obtain ⟨k,k1,k2,k3⟩:=DataW.trod_string Tryz.underlying9 g0.1
  obtain ⟨a,a1,a2,a3⟩:=DataW.trod_int Tryz.underlying3 g1.1
  obtain ⟨b,b1,b2,b3⟩:=DataW.trod_int Tryz.underlying3 g2.1
  obtain ⟨c,d1,d2,d3⟩:=DataW.trod_int Tryz.underlying26 g3.1
  obtain ⟨a4,l4,r4,q,e4,hq,hf4,hz4⟩:=slr_trod (sz:=2) opR gO Tryz.underlying32 (by kernel_rfl) (by omega) g4.1 g4.2 op_trod
  simp at k1 a1 b1 d1 e4
  subst k1 a1 b1 d1 e4
  rw[bytOp] at hz4
  unfold reachBytes at hz4
  exact ⟨(LB k,a,b,c,q),⟨_,by simp[nums_LB],hq⟩,⟨LB_bytes k,by rw[LB_len];exact k3,a3,b3,wf8 d3,hf4,hz4⟩⟩
theorem ins_trod {H:Type} {enc:TypeId×Value→H} {W:World} (fuel:Nat) (cs:List Value) (y:DataW H×List MemPlace) (h:DataW.trod enc Tryz.prog W 0 (fun _=>true) true fuel 43 cs=some y) (hw:∀n∈y.1.weights Tryz.prog 43,n≤reachBytes):
  ∃x:Iz,insR W cs x∧gI x:=by
 obtain ⟨xs,n,_,rfl,hl,hlen,hf⟩:=DataW.trod_struct ins_str h
 rw[show Tryz.prog.cellsOf 43=4 by kernel_rfl] at hl
 rw[show (Tryz.prog.fieldsOf 43).size=4 by kernel_rfl] at hlen
 match cs,hl with
 |[c0,c1,c2,c3],_=>
  have g0:=str_field ins_str hf insFs hw 0 3 0 rfl (by kernel_rfl) (by omega)
  have g1:=str_field ins_str hf insFs hw 1 3 1 rfl (by kernel_rfl) (by omega)
  have g2:=str_field ins_str hf insFs hw 2 9 2 rfl (by kernel_rfl) (by omega)
  have g3:=str_field ins_str hf insFs hw 3 22 3 rfl (by kernel_rfl) (by omega)
  obtain ⟨a,a1,a2,a3⟩:=DataW.trod_int Tryz.underlying3 g0.1
  obtain ⟨b,b1,b2,b3⟩:=DataW.trod_int Tryz.underlying3 g1.1
  obtain ⟨k,k1,k2,k3⟩:=DataW.trod_string Tryz.underlying9 g2.1
  obtain ⟨a4,l4,r4,u,e4,hu,hf4,hz4⟩:=rd_trod Tryz.underlying22 Tryz.underlying26 (by kernel_rfl) g3.1 g3.2
  simp at k1 a1 b1 e4
  subst k1 a1 b1 e4
  rw[bytI32] at hz4
  unfold reachBytes at hz4
  exact ⟨(a,b,LB k,u),⟨_,by simp[nums_LB],hu⟩,⟨a3,b3,LB_bytes k,by rw[LB_len];exact k3,fun n hn=>wf8 (hf4 n hn),hz4⟩⟩
theorem mch_open {H:Type} {enc:TypeId×Value→H} {W:World} {base:Nat} {v:Value} {d:DataW H} {ps:List MemPlace} (hok:Value.okWide Tryz.prog W .any base 30 v) (h:DataW.Trod enc Tryz.prog W 0 (fun _=>true) true 30 v d ps) (hw:∀n∈d.weights Tryz.prog 30,n≤reachBytes):
  ∃(mv:Mv) (m:Mc) (o:ByteArray),v= .agg (mv.cs m o)∧RdM W mv m o∧gM m∧o.size≤maxLen:=by
 obtain ⟨cs0,rfl,_,_⟩:∃cs,v= .agg cs∧cs.size=Tryz.prog.cellsOf 30∧Row.okWide Tryz.prog W .any base 30 cs:=by
  simpa [Value.okWide,mch_str] using hok
 obtain ⟨fuel,hf0⟩:=h
 have hf2:DataW.trod enc Tryz.prog W 0 (fun _=>true) true fuel 30 cs0.toList=some (d,ps):=hf0
 obtain ⟨xs,n,_,hd,hl,hlen,hf⟩:=DataW.trod_struct mch_str hf2
 obtain ⟨rfl,_⟩:=Prod.mk.inj hd
 rw[show Tryz.prog.cellsOf 30=10 by kernel_rfl] at hl
 rw[show (Tryz.prog.fieldsOf 30).size=10 by kernel_rfl] at hlen
 obtain ⟨cs⟩:=cs0
 match cs,hl with
 |[c0,c1,c2,c3,c4,c5,c6,c7,c8,c9],_=>
  have g0:=str_field mch_str hf mchFs hw 0 22 0 rfl (by kernel_rfl) (by omega)
  have g1:=str_field mch_str hf mchFs hw 1 23 1 rfl (by kernel_rfl) (by omega)
  have g2:=str_field mch_str hf mchFs hw 2 24 2 rfl (by kernel_rfl) (by omega)
  have g3:=str_field mch_str hf mchFs hw 3 25 3 rfl (by kernel_rfl) (by omega)
  have g4:=str_field mch_str hf mchFs hw 4 26 4 rfl (by kernel_rfl) (by omega)
  have g5:=str_field mch_str hf mchFs hw 5 27 5 rfl (by kernel_rfl) (by omega)
  have g6:=str_field mch_str hf mchFs hw 6 3 6 rfl (by kernel_rfl) (by omega)
  have g7:=str_field mch_str hf mchFs hw 7 28 7 rfl (by kernel_rfl) (by omega)
  have g8:=str_field mch_str hf mchFs hw 8 3 8 rfl (by kernel_rfl) (by omega)
  have g9:=str_field mch_str hf mchFs hw 9 9 9 rfl (by kernel_rfl) (by omega)
  obtain ⟨a0,l0,r0,x0,e0,h0,w0,z0⟩:=rd_trod Tryz.underlying22 Tryz.underlying26 (by kernel_rfl) g0.1 g0.2
  obtain ⟨a1,l1,r1,x1,e1,h1,w1,z1⟩:=rd_trod Tryz.underlying23 Tryz.underlying5 (by kernel_rfl) g1.1 g1.2
  obtain ⟨a2,l2,r2,x2,e2,h2,w2,z2⟩:=slr_trod (sz:=5) wrdR gW Tryz.underlying24 (by kernel_rfl) (by omega) g2.1 g2.2 wrd_trod
  obtain ⟨a3,l3,r3,x3,e3,h3,w3,z3⟩:=rd_trod Tryz.underlying25 Tryz.underlying3 (by kernel_rfl) g3.1 g3.2
  obtain ⟨x4,e4,_,w4⟩:=DataW.trod_int Tryz.underlying26 g4.1
  obtain ⟨a5,l5,r5,x5,e5,h5,w5,z5⟩:=slr_trod (sz:=5) nodR goodN Tryz.underlying27 (by kernel_rfl) (by omega) g5.1 g5.2 nod_trod
  obtain ⟨x6,e6,_,w6⟩:=DataW.trod_int Tryz.underlying3 g6.1
  obtain ⟨a7,l7,r7,x7,e7,h7,w7,z7⟩:=slr_trod (sz:=4) insR gI Tryz.underlying28 (by kernel_rfl) (by omega) g7.1 g7.2 ins_trod
  obtain ⟨x8,e8,_,w8⟩:=DataW.trod_int Tryz.underlying3 g8.1
  obtain ⟨x9,e9,k9,w9⟩:=DataW.trod_string Tryz.underlying9 g9.1
  have z9:=g9.2
  rw[k9] at z9
  have z9':=z9 x9.data.toList.length (by simp[DataW.weights])
  simp at e0 e1 e2 e3 e4 e5 e6 e7 e8 e9
  subst e0 e1 e2 e3 e4 e5 e6 e7 e8 e9
  rw[bytI32] at z0
  rw[bytI8] at z1
  rw[bytWd] at z2
  rw[bytI64] at z3
  rw[bytNo] at z5
  rw[bytIz] at z7
  unfold reachBytes at z0 z1 z2 z3 z5 z7 z9'
  have s9:x9.data.toList.length=x9.size:=by simp
  exact ⟨⟨_,_,_,_,_,_⟩,⟨x0,x1,x2,x3,x4,x5,x6,x7,x8,LB x9⟩,x9,rfl,⟨h0,h1,h2,h3,h5,h7,nums_LB x9⟩,⟨fun n hn=>wf8 (w0 n hn),z0,wf_bytes w1,by simp only;omega,w2,z2,w3,z3,wf8 w4,w5,z5,w6,w7,z7,w8,LB_bytes x9,by simp only;rw[LB_len];omega⟩,w9⟩
end Go.Proofs.YtlokhciaaepenaaGreatDoor
