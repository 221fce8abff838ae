import Derived.BigQuiet
import Derived.Test.YtlokhciaaepenaaGreatDoorB14
set_option linter.unusedVariables false
set_option linter.unusedSimpArgs false
set_option maxRecDepth 100000
namespace Go.Proofs.YtlokhciaaepenaaGreatDoor
open Go.ChangeShapes Go.WideShapes Go.ChangeAt Go.RowKit
set_option maxHeartbeats 20000000 in
set_option maxRecDepth 1000000 in
theorem w_p9primsO (w:World):
  Calls Tryz.prog 71 #[] w fun e w'=>∃v,e= .returned v∧OwnR 103 2 prmR w.heap.size w' v prmL∧Below w.heap.size w w':=by
 go_enter Tryz.func71,Tryz.ntmps71
 refine wp_seq (wp_region_list (wpList_runL _ _ _ _ _ rfl ?_))
 simp only[Exit.then]
 refine wp_seq (wp_region_runL (t:=0) (v:= .slice (some ⟨w.heap.size,0,none⟩) 111 111) (w':=w.alloc (.cells (prmL.map prmV).flatten.toArray 103)) (by kernel_rfl) ?_)
 intro a' h1 h2
 simp only[Exit.then]
 refine wp_ret ?_
 refine bodyPost_ret (results_tmp rfl _ _ _) h2 ?_
 rw[h1]
 exact ⟨_,rfl,prm_own w,box_below w _⟩
set_option maxHeartbeats 1000000 in
theorem w_pbelow (X c:Int) (w:World) (h0:0≤X) (h1:X < 4294967296):
  Calls Tryz.prog 98 #[.int .u32 X, .int .i64 c] w fun e w'=>e= .returned (.bool (decide (X < c)))∧w'=w:=by
 have hw:=u32_i64 X h0 h1
 go_enter Tryz.func98,Tryz.ntmps98
 go_wp2_with fail
 go_ret
 exact ⟨rfl,rfl⟩
set_option maxHeartbeats 1000000 in
theorem w_pnob (n c:Int) (w:World):
  Calls Tryz.prog 36 #[.int .i64 n, .int .i64 c] w fun e w'=>e= .returned (.bool (decide (-1≤n∧n < c)))∧w'=w:=by
 by_cases h: -1≤n
 ·have e:decide (-1≤n∧n < c)=decide (n < c):=by rw[decide_eq_decide];omega
  rw[e]
  clear e
  go_enter Tryz.func36,Tryz.ntmps36
  go_wp2_with fail
  go_ret
  exact ⟨rfl,rfl⟩
 ·have e:decide (-1≤n∧n < c)=false:=by rw[decide_eq_false_iff_not];omega
  rw[e]
  clear e
  go_enter Tryz.func36,Tryz.ntmps36
  go_wp2_with fail
  go_ret
  exact ⟨rfl,rfl⟩
set_option maxHeartbeats 2000000 in
set_option maxRecDepth 100000 in
theorem w_p9named' (s:ByteArray) (w:World) (hs:s.size≤maxLen):
  Calls Tryz.prog 96 #[.string s] w fun e w'=>e= .returned (.bool (namF (L s)))∧w'=w:=by
 have hs2:=hs
 unfold maxLen at hs2
 by_cases h0:s=⟨#[]⟩
 ·have hf:Hid (namF (L s)=false):=by show _=_;subst h0;decide+kernel
  have q0:(s.toList==(⟨#[]⟩:ByteArray).toList)=true:=by subst h0;decide+kernel
  have q1:s.toList.isEmpty=true:=by subst h0;decide+kernel
  clear h0
  go_enter Tryz.func96,Tryz.ntmps96
  go_wp2_with fail
  go_ret
  exact ⟨ret_b hf.out.symm,rfl⟩
 ·have q0:(s.toList==(⟨#[]⟩:ByteArray).toList)=false:=by rw[str_beq];exact decide_eq_false h0
  have q1:s.toList.isEmpty=false:=emp_no h0
  by_cases h31:(31:Int) < s.size
  ·have hf:Hid (namF (L s)=false):=by
    show _=_
    unfold namF
    rw[L_len,Bool.and_eq_false_iff]
    right
    rw[decide_eq_false_iff_not]
    omega
   clear h0
   go_enter Tryz.func96,Tryz.ntmps96
   go_wp2_with fail
   go_ret
   exact ⟨ret_b hf.out.symm,rfl⟩
  ·have hsz:Hid (1≤s.size∧s.size≤31):=by
    show _∧_
    refine ⟨?_,by omega⟩
    apply Classical.byContradiction
    intro g
    apply h0
    apply ByteArray.ext
    apply Array.ext
    ·show s.size=0
     omega
    ·intro i hi
     have:i < s.size:=hi
     omega
   have h31b:decide ((31:Int) < s.size)=false:=decide_eq_false h31
   clear h0
   go_enter Tryz.func96,Tryz.ntmps96
   go_wp2_with fail
   go_loopw [14] (fun I wx=>∃(k:Nat),(k:Int)≤s.size∧I= .int .i64 k∧Hid (((L s).take k).all okC=true)∧wx=w) (fun I _=>(s.size - intOf I).toNat)
   case atStart=>exact ⟨0,by omega,rfl,hid rfl,rfl⟩
   case round=>
    obtain ⟨k,hk,rfl,ha,hb⟩:=hrel
    obtain rfl:=hb.symm
    by_cases hlt:(k:Int) < s.size
    ·have hkk:k < s.size:=by omega
     obtain ⟨c,hc⟩:∃c,(s[k].toNat:Int)=c:=⟨_,rfl⟩
     have hcb:=L_bd s k hkk
     rw[hc] at hcb
     obtain ⟨c0,c1⟩:=hcb
     have hLt:Hid ((L s).take (k+1)=(L s).take k++[c]):=by show _=_;rw[←hc];exact L_take s k hkk
     have hLd:Hid (L s=(L s).take k++c::(L s).drop (k+1)):=by
      show _=_
      rw[←hc,←L_drop s k hkk,List.take_append_drop]
     have hrun:=fun W=>run_at (w:=W) s k hkk hs
     simp only[hc] at hrun
     cases hcc:okC c
     ·have hf:Hid (namF (L s)=false):=by
       show _=_
       unfold namF
       rw[hLd.out,List.all_append,List.all_cons,hcc]
       simp
      have hcs:c < 33∨126 < c∨(65≤c∧c≤90):=by simp[okC] at hcc;omega
      clear hcc hLd hLt hc
      rcases hcs with h|h|h
      ·go_wp2_with fail
       go_ret
       exact ⟨ret_b hf.out.symm,rfl⟩
      ·go_wp2_with fail
       go_ret
       exact ⟨ret_b hf.out.symm,rfl⟩
      ·obtain ⟨h,h'⟩:=h
       go_wp2_with fail
       go_ret
       exact ⟨ret_b hf.out.symm,rfl⟩
     ·have ha2:Hid (((L s).take (k+1)).all okC=true):=by
       show _=_
       rw[hLt.out,List.all_append,ha.out]
       simp[hcc]
      have hcs:33≤c∧c≤126∧(c < 65∨90 < c):=by simp[okC] at hcc;omega
      obtain ⟨q1,q2,q3⟩:=hcs
      clear hcc hLd hLt hc
      rcases q3 with hq|hq
      all_goals go_wp2_with fail
      all_goals go_roundw
      case rel=>exact ⟨k+1,by omega,by go_num,ha2,trivial⟩
      case measure=>simp[intOf];omega
      case rel=>exact ⟨k+1,by omega,by go_num,ha2,trivial⟩
      case measure=>simp[intOf];omega
    ·have hf:Hid (namF (L s)=true):=by
      show _=_
      have:=ha.out
      rw[List.take_of_length_le (by rw[L_len];omega)] at this
      unfold namF
      rw[this,L_len,decide_eq_true hsz.out]
      rfl
     go_wp2_with fail
     go_ret
     exact ⟨ret_b hf.out.symm,rfl⟩
set_option maxHeartbeats 2000000 in
set_option maxRecDepth 100000 in
theorem w_popsound (K X words:Int) (n:Nat) (w:World) (u0:0≤X) (u1:X < 4294967296) (hn:n≤256):
  Calls Tryz.prog 116 #[.agg #[.int .i64 K, .int .u32 X], .int .i64 words, .int .i64 n] w fun e w'=>e= .returned (.bool (okO n words (K,X)))∧Below w.heap.size w w':=by
 have hok:okO n words (K,X)=decide (K=1∨(K=2∨K=13)∧X < words∨(K=11∨K=12)∧X=0∨3≤K∧K≤10∧X≤n):=rfl
 have st:=stands_new w #[.int .i64 K, .int .u32 X] 118
 have bx:=box_below w (.cells #[.int .i64 K, .int .u32 X] 118)
 have z0:=st.cell 0 _ rfl
 have z1:=st.cell 1 _ rfl
 have cw:=fun W=>w_pbelow X words W u0 u1
 have cn:=fun W=>w_pbelow X ((n:Int)+1) W u0 u1
 have hcs:K=1∨K=2∨K=3∨K=4∨K=5∨K=6∨K=7∨K=8∨K=9∨K=10∨K=11∨K=12∨K=13∨K < 1∨13 < K:=by omega
 rcases hcs with rfl|rfl|rfl|rfl|rfl|rfl|rfl|rfl|rfl|rfl|rfl|rfl|rfl|hcs
 ·skip
  have hf:Hid (okO n words (1,X)=true):=by show _=_;rw[hok];simp
  clear hok
  go_enter Tryz.func116,Tryz.ntmps116
  go_wp2_with fail
  go_ret
  exact ⟨ret_b hf.out.symm,bx⟩
 ·skip
  have hf:Hid (okO n words (2,X)=decide (X < words)):=by show _=_;rw[hok,decide_eq_decide];omega
  clear hok
  go_enter Tryz.func116,Tryz.ntmps116
  go_wp2_with (go_at_call 98;refine (cw _).mono ?_;rintro e w1 ⟨rfl,hw1⟩;obtain rfl:=hw1.symm)
  go_ret
  exact ⟨ret_b hf.out.symm,bx⟩
 ·skip
  have hf:Hid (okO n words (3,X)=decide (X < (n:Int)+1)):=by show _=_;rw[hok,decide_eq_decide];omega
  clear hok
  go_enter Tryz.func116,Tryz.ntmps116
  go_wp2_with (go_at_call 98;refine (cn _).mono ?_;rintro e w1 ⟨rfl,hw1⟩;obtain rfl:=hw1.symm)
  go_ret
  exact ⟨ret_b hf.out.symm,bx⟩
 ·skip
  have hf:Hid (okO n words (4,X)=decide (X < (n:Int)+1)):=by show _=_;rw[hok,decide_eq_decide];omega
  clear hok
  go_enter Tryz.func116,Tryz.ntmps116
  go_wp2_with (go_at_call 98;refine (cn _).mono ?_;rintro e w1 ⟨rfl,hw1⟩;obtain rfl:=hw1.symm)
  go_ret
  exact ⟨ret_b hf.out.symm,bx⟩
 ·skip
  have hf:Hid (okO n words (5,X)=decide (X < (n:Int)+1)):=by show _=_;rw[hok,decide_eq_decide];omega
  clear hok
  go_enter Tryz.func116,Tryz.ntmps116
  go_wp2_with (go_at_call 98;refine (cn _).mono ?_;rintro e w1 ⟨rfl,hw1⟩;obtain rfl:=hw1.symm)
  go_ret
  exact ⟨ret_b hf.out.symm,bx⟩
 ·skip
  have hf:Hid (okO n words (6,X)=decide (X < (n:Int)+1)):=by show _=_;rw[hok,decide_eq_decide];omega
  clear hok
  go_enter Tryz.func116,Tryz.ntmps116
  go_wp2_with (go_at_call 98;refine (cn _).mono ?_;rintro e w1 ⟨rfl,hw1⟩;obtain rfl:=hw1.symm)
  go_ret
  exact ⟨ret_b hf.out.symm,bx⟩
 ·skip
  have hf:Hid (okO n words (7,X)=decide (X < (n:Int)+1)):=by show _=_;rw[hok,decide_eq_decide];omega
  clear hok
  go_enter Tryz.func116,Tryz.ntmps116
  go_wp2_with (go_at_call 98;refine (cn _).mono ?_;rintro e w1 ⟨rfl,hw1⟩;obtain rfl:=hw1.symm)
  go_ret
  exact ⟨ret_b hf.out.symm,bx⟩
 ·skip
  have hf:Hid (okO n words (8,X)=decide (X < (n:Int)+1)):=by show _=_;rw[hok,decide_eq_decide];omega
  clear hok
  go_enter Tryz.func116,Tryz.ntmps116
  go_wp2_with (go_at_call 98;refine (cn _).mono ?_;rintro e w1 ⟨rfl,hw1⟩;obtain rfl:=hw1.symm)
  go_ret
  exact ⟨ret_b hf.out.symm,bx⟩
 ·skip
  have hf:Hid (okO n words (9,X)=decide (X < (n:Int)+1)):=by show _=_;rw[hok,decide_eq_decide];omega
  clear hok
  go_enter Tryz.func116,Tryz.ntmps116
  go_wp2_with (go_at_call 98;refine (cn _).mono ?_;rintro e w1 ⟨rfl,hw1⟩;obtain rfl:=hw1.symm)
  go_ret
  exact ⟨ret_b hf.out.symm,bx⟩
 ·skip
  have hf:Hid (okO n words (10,X)=decide (X < (n:Int)+1)):=by show _=_;rw[hok,decide_eq_decide];omega
  clear hok
  go_enter Tryz.func116,Tryz.ntmps116
  go_wp2_with (go_at_call 98;refine (cn _).mono ?_;rintro e w1 ⟨rfl,hw1⟩;obtain rfl:=hw1.symm)
  go_ret
  exact ⟨ret_b hf.out.symm,bx⟩
 ·skip
  have hf:Hid (okO n words (11,X)=(X==0)):=by show _=_;rw[hok,Bool.eq_iff_iff,decide_eq_true_eq,beq_iff_eq];omega
  clear hok
  go_enter Tryz.func116,Tryz.ntmps116
  go_wp2_with fail
  go_ret
  exact ⟨ret_b hf.out.symm,bx⟩
 ·skip
  have hf:Hid (okO n words (12,X)=(X==0)):=by show _=_;rw[hok,Bool.eq_iff_iff,decide_eq_true_eq,beq_iff_eq];omega
  clear hok
  go_enter Tryz.func116,Tryz.ntmps116
  go_wp2_with fail
  go_ret
  exact ⟨ret_b hf.out.symm,bx⟩
 ·skip
  have hf:Hid (okO n words (13,X)=decide (X < words)):=by show _=_;rw[hok,decide_eq_decide];omega
  clear hok
  go_enter Tryz.func116,Tryz.ntmps116
  go_wp2_with (go_at_call 98;refine (cw _).mono ?_;rintro e w1 ⟨rfl,hw1⟩;obtain rfl:=hw1.symm)
  go_ret
  exact ⟨ret_b hf.out.symm,bx⟩
 ·skip
  have hf:Hid (okO n words (K,X)=false):=by show _=_;rw[hok,decide_eq_false_iff_not];omega
  have y1:(K==1)=false:=by rw[beq_eq_false_iff_ne];omega
  have y2:(K==2)=false:=by rw[beq_eq_false_iff_ne];omega
  have y3:(K==3)=false:=by rw[beq_eq_false_iff_ne];omega
  have y4:(K==4)=false:=by rw[beq_eq_false_iff_ne];omega
  have y5:(K==5)=false:=by rw[beq_eq_false_iff_ne];omega
  have y6:(K==6)=false:=by rw[beq_eq_false_iff_ne];omega
  have y7:(K==7)=false:=by rw[beq_eq_false_iff_ne];omega
  have y8:(K==8)=false:=by rw[beq_eq_false_iff_ne];omega
  have y9:(K==9)=false:=by rw[beq_eq_false_iff_ne];omega
  have y10:(K==10)=false:=by rw[beq_eq_false_iff_ne];omega
  have y11:(K==11)=false:=by rw[beq_eq_false_iff_ne];omega
  have y12:(K==12)=false:=by rw[beq_eq_false_iff_ne];omega
  have y13:(K==13)=false:=by rw[beq_eq_false_iff_ne];omega
  clear hok hcs
  go_enter Tryz.func116,Tryz.ntmps116
  go_wp2_with fail
  go_ret
  exact ⟨ret_b hf.out.symm,bx⟩
set_option maxHeartbeats 2000000 in
set_option maxRecDepth 100000 in
theorem w_p9sound' (v:Value) (l:List Opd) (words:Int) (w:World) (h:RdO w v l) (hu:∀x∈l,0≤x.2∧x.2 < 4294967296):
  Calls Tryz.prog 97 #[v, .int .i64 words] w fun e w'=>e= .returned (.bool (sndF l words))∧Below w.heap.size w w':=by
 have hla:=slr_len h uO (P:=Tryz.prog)
 have hm:=slr_max h
 unfold maxLen at hm
 by_cases h256:(256:Int) < l.length
 ·have hf:Hid (sndF l words=false):=by show _=_;unfold sndF;rw[decide_eq_false (by omega)];simp
  go_enter Tryz.func97,Tryz.ntmps97
  go_wp2_with fail
  go_ret
  exact ⟨ret_b hf.out.symm,Below.refl _ _⟩
 ·go_enter Tryz.func97,Tryz.ntmps97
  go_wp2_with fail
  go_loopw [12] (fun I wx=>∃(k:Nat),(k:Int)≤l.length∧I= .int .i64 k∧Hid ((l.take k).all (okO l.length words)=true)∧Below w.heap.size w wx) (fun I _=>(l.length - intOf I).toNat)
  case atStart=>exact ⟨0,by omega,rfl,hid rfl,Below.refl _ _⟩
  case round=>
   obtain ⟨k,hk,rfl,ha,hb⟩:=hrel
   by_cases hlt:(k:Int) < l.length
   ·have hkl:k < l.length:=by omega
    obtain ⟨b1,o1,r1,f0,f1⟩:=op_at (RdO.below h hb) k hkl
    have hub:=hu _ (List.getElem_mem hkl)
    have yes:=fun hx=>snd_step (words:=words) hkl ha.out hx
    have no:=fun hx=>snd_no (l:=l) (words:=words) (k:=k) hkl hx
    have hok:okO l.length words l[k]=okO l.length words (l[k].1,l[k].2):=rfl
    obtain ⟨K,hK⟩:∃K,l[k].1=K:=⟨_,rfl⟩
    obtain ⟨X,hX⟩:∃X,l[k].2=X:=⟨_,rfl⟩
    rw[hK,hX] at hok
    rw[hK] at f0
    rw[hX] at f1 hub
    obtain ⟨u0,u1⟩:=hub
    have bx:=box_below wr (.cells #[.int .i64 K, .int .u32 X] 118)
    have co:=fun W=>w_popsound K X words l.length W u0 u1 (by omega)
    cases hc:okO l.length words (K,X)
    ·have hf:=hid (no (by rw[hok,hc]))
     simp only[hc] at co
     clear yes no hok hK hX ha hc
     go_wp2_with (go_at_call 116;refine (co _).mono ?_;rintro e w1 ⟨rfl,d1⟩)
     go_ret
     exact ⟨ret_b hf.out.symm,below_trans hb (below_trans bx d1)⟩
    ·have hx:=hid (yes (by rw[hok,hc]))
     simp only[hc] at co
     clear yes no hok hK hX ha hc
     go_wp2_with (go_at_call 116;refine (co _).mono ?_;rintro e w1 ⟨rfl,d1⟩)
     go_roundw
     case rel=>exact ⟨k+1,by omega,by go_num,hx,below_trans hb (below_trans bx d1)⟩
     case measure=>simp[intOf];omega
   ·have hf:Hid (sndF l words=true):=by
     show _=_
     have:=ha.out
     rw[List.take_of_length_le (by omega)] at this
     unfold sndF
     rw[this,decide_eq_true (by omega)]
     rfl
    go_wp2_with fail
    go_ret
    exact ⟨ret_b hf.out.symm,hb⟩
def AskW (w:World) (g:Nat) (lb:Array Value) (p:Wd→Bool) (l:List Wd):Prop:=
 ∀(W:World) (nm:ByteArray) (vc:Value) (x:Wd),Below w.heap.size w W→x∈l→strOfNums x.1=nm→RdO W vc x.2.2.2.2→
  Calls Tryz.prog g (#[.agg #[.string nm, .int .i64 x.2.1, .int .i64 x.2.2.1, .int .u32 x.2.2.2.1,vc]]++lb) W fun e w'=>e= .returned (.bool (p x))∧Below W.heap.size W w'
set_option maxHeartbeats 2000000 in
set_option maxRecDepth 100000 in
theorem w_pnewest (v:Value) (l:List Wd) (g:Nat) (lb:Array Value) (p:Wd→Bool) (w:World) (eg:∀args w,(callFunc g args).run Tryz.prog w= .ok (.enter g args) w) (h:RdW w v l) (hp:AskW w g lb p l):
  Calls Tryz.prog 101 #[v, .func (.func g) #[] lb] w fun e w'=>e= .returned (.tuple #[.int .i64 (fnI (lstF p l)), .bool (lstF p l).isSome])∧Below w.heap.size w w':=by
 have hla:=slr_len h uW (P:=Tryz.prog)
 have hm:=slr_max h
 unfold maxLen at hm
 obtain ⟨F,hF⟩:∃X,lstF p l=X:=⟨_,rfl⟩
 rw[hF]
 have HF:=hid hF
 clear hF
 go_enter Tryz.func101,Tryz.ntmps101
 go_wp2_with fail
 go_loopw [6] (fun I wx=>∃(k:Nat),(k:Int)≤l.length∧I= .int .i64 ((k:Int) - 1)∧Hid (lstF p (l.take k)=F)∧Below w.heap.size w wx) (fun I _=>(intOf I+1).toNat)
 case atStart=>exact ⟨l.length,by omega,by go_num,hid (by rw[List.take_length];exact HF.out),Below.refl _ _⟩
 case round=>
  obtain ⟨k,hk,rfl,ht,hg⟩:=hrel
  cases k with
  |zero=>
   have hFn:F=none:=by rw[←ht.out];rfl
   subst hFn
   have hI:((0:Nat):Int) - 1= -1:=by omega
   rw[hI]
   clear ht HF
   go_wp2_with fail
   go_ret2
   exact ⟨rfl,hg⟩
  |succ j=>
   have hI:((j+1:Nat):Int) - 1=(j:Int):=by omega
   rw[hI]
   have hjl:j < l.length:=by omega
   have hj0:(0:Int)≤(j:Int):=by omega
   obtain ⟨b1,o1,nm,vc,r1,f0,f1,f2,f3,f4,e1,hc1⟩:=wrd_at (RdW.below h hg) j hjl
   have hc:=hp wr nm vc l[j] hg (List.getElem_mem hjl) e1 hc1
   obtain ⟨ca,cq,rfl⟩:=slr_slice hc1
   have hit:=lst_hit p l j hjl
   have miss:=lst_take p l j hjl
   obtain ⟨X1,hX1⟩:∃X,l[j].2.1=X:=⟨_,rfl⟩
   obtain ⟨X2,hX2⟩:∃X,l[j].2.2.1=X:=⟨_,rfl⟩
   obtain ⟨X3,hX3⟩:∃X,l[j].2.2.2.1=X:=⟨_,rfl⟩
   rw[hX1] at f1 hc
   rw[hX2] at f2 hc
   rw[hX3] at f3 hc
   cases hpj:p l[j]
   ·have ht2:Hid (lstF p (l.take j)=F):=by
     show _=_
     rw[←ht.out]
     exact (miss hpj).symm
    rw[hpj] at hc
    clear hpj ht e1 hit miss hX1 hX2 hX3 hp HF
    go_wp2_with (go_at_fn g;refine hc.mono ?_;rintro e w1 ⟨rfl,d1⟩)
    go_roundw
    case rel=>exact ⟨j,by omega,by go_num,ht2,below_trans hg d1⟩
    case measure=>simp[intOf]
   ·have hFj:F=some j:=by
     rw[←ht.out]
     exact hit hpj
    rw[hpj] at hc
    subst hFj
    clear hpj ht e1 hit miss hX1 hX2 hX3 hp HF hI
    go_wp2_with (go_at_fn g;refine hc.mono ?_;rintro e w1 ⟨rfl,d1⟩)
    go_ret2
    exact ⟨rfl,below_trans hg d1⟩
set_option maxHeartbeats 1000000 in
set_option maxRecDepth 100000 in
theorem w_pmethod1 (nm s:ByteArray) (vc:Value) (x:Wd) (n:Int) (B B2:Nat) (W:World) (e0:strOfNums x.1=nm) (hb:bytesL x.1) (hc:RdO W vc x.2.2.2.2) (hs:W.cell? ⟨B,0,none⟩=some (.int .i64 n)) (hs2:W.cell? ⟨B2,0,none⟩=some (.string s)):
  Calls Tryz.prog 102 #[.agg #[.string nm, .int .i64 x.2.1, .int .i64 x.2.2.1, .int .u32 x.2.2.2.1,vc], .pointer (some ⟨B,0,none⟩), .pointer (some ⟨B2,0,none⟩)] W fun e w'=>e= .returned (.bool (decide (x.1=L s)&&decide (x.2.1=n)))∧Below W.heap.size W w':=by
 have hq:=str_eq8 nm s _ (L s) hb (LB_bytes s) e0 (nums_LB s)
 obtain ⟨ca,cq,rfl⟩:=slr_slice hc
 obtain ⟨X1,hX1⟩:∃X,x.2.1=X:=⟨_,rfl⟩
 obtain ⟨X2,hX2⟩:∃X,x.2.2.1=X:=⟨_,rfl⟩
 obtain ⟨X3,hX3⟩:∃X,x.2.2.2.1=X:=⟨_,rfl⟩
 rw[hX1,hX2,hX3]
 have st:=stands_new W #[.string nm, .int .i64 X1, .int .i64 X2, .int .u32 X3, .slice ca x.2.2.2.2.length cq] 34
 have bx:=box_below W (.cells #[.string nm, .int .i64 X1, .int .i64 X2, .int .u32 X3, .slice ca x.2.2.2.2.length cq] 34)
 have z0:=st.cell 0 _ rfl
 have z1:=st.cell 1 _ rfl
 have l0:=below_cell bx hs
 have l1:=below_cell bx hs2
 by_cases h1:X1=n
 ·have hq1:(X1==n)=true:=by simpa using h1
  rw[decide_eq_true h1,Bool.and_true]
  clear hX1 hX2 hX3 e0 h1
  go_enter Tryz.func102,Tryz.ntmps102
  go_wp2_with fail
  go_ret
  exact ⟨rfl,bx⟩
 ·have hq1:(X1==n)=false:=by simpa using h1
  rw[decide_eq_false h1,Bool.and_false]
  clear hX1 hX2 hX3 e0 h1
  go_enter Tryz.func102,Tryz.ntmps102
  go_wp2_with fail
  go_ret
  exact ⟨rfl,bx⟩
set_option maxHeartbeats 2000000 in
set_option maxRecDepth 100000 in
theorem w_p9method' (v:Mv) (m:Mc) (o s:ByteArray) (n:Int) (w:World) (h:RdW w v.vw m.words) (hby:∀x∈m.words,bytesL x.1):
  Calls Tryz.prog 79 #[.agg (v.cs m o), .int .i64 n, .string s] w fun e w'=>e= .returned (.tuple #[.int .i64 (fnI (mthF m.words n (L s))), .bool (mthF m.words n (L s)).isSome])∧Below w.heap.size w w':=by
 have hmf:∀(fn:Fn) (first cap:Array Value) (w:World),(Instr.makeFunc fn first cap).run Tryz.prog w= .ok (.func fn first cap) w:=fun _ _ _ _=>rfl
 have eg:∀args w,(callFunc 102 args).run Tryz.prog w= .ok (.enter 102 args) w:=enters_of Tryz.func102 (by kernel_rfl) rfl
 have b1:=box_below w (.cells (v.cs m o) 30)
 have b2:=box_below (w.alloc (.cells (v.cs m o) 30)) (.cells #[.int .i64 n] 3)
 have b3:=box_below ((w.alloc (.cells (v.cs m o) 30)).alloc (.cells #[.int .i64 n] 3)) (.cells #[.string s] 9)
 have k2:=(((stands_new w (v.cs m o) 30).below b2).below b3).cell 2 v.vw rfl
 have z0:=((stands_new (w.alloc (.cells (v.cs m o) 30)) #[.int .i64 n] 3).below b3).cell 0 _ rfl
 have z1:=(stands_new ((w.alloc (.cells (v.cs m o) 30)).alloc (.cells #[.int .i64 n] 3)) #[.string s] 9).cell 0 _ rfl
 rw[size_al] at z0
 rw[size_al,size_al] at z1
 have bw:=below_trans (below_trans b1 b2) b3
 obtain ⟨F,hF⟩:∃X,mthF m.words n (L s)=X:=⟨_,rfl⟩
 rw[hF]
 obtain ⟨wa,wq,hvw⟩:=slr_slice h
 by_cases h0:s=⟨#[]⟩
 ·have q0:(s.toList==(⟨#[]⟩:ByteArray).toList)=true:=by subst h0;decide+kernel
  have q1:s.toList.isEmpty=true:=by subst h0;decide+kernel
  have hF2:F=none:=by
   rw[←hF]
   unfold mthF
   rw[if_pos]
   left
   subst h0
   decide+kernel
  subst hF2
  obtain ⟨U,hU⟩:∃X,v.cs m o=X:=⟨_,rfl⟩
  rw[hU] at k2 z0 z1 bw ⊢
  clear h0 hF hU b1 b2 b3
  go_enter Tryz.func79,Tryz.ntmps79
  go_wp2_with fail
  go_ret2
  exact ⟨rfl,bw⟩
 ·have q1:(s.toList==(⟨#[]⟩:ByteArray).toList)=false:=by rw[str_beq];exact decide_eq_false h0
  have q0:s.toList.isEmpty=false:=emp_no h0
  by_cases hn0:n < 0
  ·have hF2:F=none:=by
    rw[←hF]
    unfold mthF
    rw[if_pos (Or.inr hn0)]
   subst hF2
   have q3:decide (n < 0)=true:=decide_eq_true hn0
   obtain ⟨U,hU⟩:∃X,v.cs m o=X:=⟨_,rfl⟩
   rw[hU] at k2 z0 z1 bw ⊢
   clear h0 hF hU b1 b2 b3
   go_enter Tryz.func79,Tryz.ntmps79
   go_wp2_with fail
   go_ret2
   exact ⟨rfl,bw⟩
  ·have hn:¬(L s=[]∨n < 0):=fun g=>g.elim (fun g=>h0 (L_nil g)) hn0
   have q3:decide (n < 0)=false:=decide_eq_false hn0
   have hF2:lstF (fun x:Wd=>decide (x.1=L s)&&decide (x.2.1=n)) m.words=F:=by rw[←hF];unfold mthF;rw[if_neg hn]
   have ha:AskW (((w.alloc (.cells (v.cs m o) 30)).alloc (.cells #[.int .i64 n] 3)).alloc (.cells #[.string s] 9)) 102 #[.pointer (some ⟨w.heap.size+1,0,none⟩), .pointer (some ⟨w.heap.size+1+1,0,none⟩)] (fun x=>decide (x.1=L s)&&decide (x.2.1=n)) m.words:=by
    intro W nm vc x hb hx e0 hc
    exact w_pmethod1 nm s vc x n _ _ W e0 (hby x hx) hc (below_cell hb z0) (below_cell hb z1)
   have hc:=w_pnewest v.vw m.words _ _ _ _ eg (RdW.below h bw) ha
   rw[hF2] at hc
   obtain ⟨U,hU⟩:∃X,v.cs m o=X:=⟨_,rfl⟩
   rw[hU] at k2 z0 z1 bw hc ⊢
   rw[hvw] at k2 hc
   clear h0 hF hF2 hU b1 b2 b3 ha hn
   go_enter Tryz.func79,Tryz.ntmps79
   go_wp2_with (go_at_call 101;refine hc.mono ?_;rintro e w1 ⟨rfl,d1⟩)
   go_ret2
   exact ⟨rfl,below_trans bw d1⟩
theorem emp_is {s:ByteArray} (h:s=⟨#[]⟩):s.toList.isEmpty=true:=by subst h;decide+kernel
set_option maxHeartbeats 4000000 in
set_option maxRecDepth 100000 in
theorem w_pwof (x:Wd) (nm:ByteArray) (vc vt:Value) (words:Int) (t:List Nd) (w:World) (e1:strOfNums x.1=nm) (hc:RdO w vc x.2.2.2.2) (ht:RdT w vt t) (bx:bytesL x.1) (lx:x.1.length≤maxLen) (hu:∀y∈x.2.2.2.2,0≤y.2∧y.2 < 4294967296) (hN:0≤x.2.2.2.1∧x.2.2.2.1 < 4294967296):
  Calls Tryz.prog 73 #[.agg #[.string nm, .int .i64 x.2.1, .int .i64 x.2.2.1, .int .u32 x.2.2.2.1,vc], .int .i64 words,vt] w fun e w'=>e= .returned (.bool (wofF x words t))∧Below w.heap.size w w':=by
 obtain ⟨x1,x2,x3,x4,x5⟩:=x
 simp only at e1 hc bx lx hu hN ⊢
 have hL:L nm=x1:=by rw[←e1];exact LB_nums _ bx
 have hs:nm.size≤maxLen:=by rw[←L_len,hL];exact lx
 have cn:=fun W=>w_p9named' nm W hs
 have cs:=fun W (g:Below w.heap.size w W)=>w_p9sound' vc x5 words W (RdO.below hc g) hu
 have cb:=fun W=>w_pnob x2 t.length W
 have cl:=fun c W=>w_pbelow x4 c W hN.1 hN.2
 rw[hL] at cn
 have hla:=slr_len hc uO (P:=Tryz.prog)
 have hlt:=slr_len ht uN (P:=Tryz.prog)
 have hm:=slr_max ht
 unfold maxLen at hm
 obtain ⟨ca,cq,rfl⟩:=slr_slice hc
 obtain ⟨n5,hn5⟩:∃n,x5.length=n:=⟨_,rfl⟩
 rw[hn5] at hla hc cs ⊢
 have bw:=box_below w (.cells #[.string nm, .int .i64 x2, .int .i64 x3, .int .u32 x4, .slice ca n5 cq] 34)
 have st:=stands_new w #[.string nm, .int .i64 x2, .int .i64 x3, .int .u32 x4, .slice ca n5 cq] 34
 have f0:=st.cell 0 _ rfl
 have f1:=st.cell 1 _ rfl
 have f2:=st.cell 2 _ rfl
 have f3:=st.cell 3 _ rfl
 have f4:=st.cell 4 _ rfl
 have csb:=cs _ bw
 obtain ⟨R,hR⟩:∃R,wofF (x1,x2,x3,x4,x5) words t=R:=⟨_,rfl⟩
 rw[hR]
 unfold wofF at hR
 simp only at hR
 have hname:((decide (x1=[])||namF x1)=true∧(nm.toList.isEmpty=true∨nm.toList.isEmpty=false∧namF x1=true))∨((decide (x1=[])||namF x1)=false∧nm.toList.isEmpty=false∧namF x1=false):=by
  by_cases g:nm=⟨#[]⟩
  ·left
   have:x1=[]:=by rw[←hL,g];decide+kernel
   exact ⟨by simp[this],Or.inl (emp_is g)⟩
  ·have g2:¬x1=[]:=fun q=>g (L_nil (by rw[hL];exact q))
   cases g3:namF x1
   ·right
    exact ⟨by simp[g2],emp_no g,rfl⟩
   ·left
    exact ⟨by simp,Or.inr ⟨emp_no g,rfl⟩⟩
 have HT:=hid ht
 clear hL e1 bx lx hu ht cs st
 rcases hname with ⟨hn,hname⟩|⟨hn,q0,q1⟩
 ·rw[hn,Bool.true_and] at hR
  by_cases hnd: -1≤x2∧x2 < (t.length:Int)
  ·rw[decide_eq_true hnd,Bool.true_and] at hR
   simp only[decide_eq_true hnd] at cb
   by_cases hK2:x3=2
   ·subst hK2
    rw[if_pos rfl,decide_eq_true (by omega:(2:Int)≤2∧(2:Int)≤7),Bool.true_and] at hR
    by_cases h4:x4=0
    ·have q4:(x4==0)=true:=by simpa using h4
     rw[decide_eq_true h4,Bool.true_and] at hR
     subst hR
     clear h4
     rcases hname with q0|⟨q0,q1⟩
     ·skip
      clear hn5 HT
      go_enter Tryz.func73,Tryz.ntmps73
      go_wp2_with (first|(go_at_call 36;refine (cb _).mono ?_;rintro e r2 ⟨rfl,hw2⟩;obtain rfl:=hw2.symm)|(go_at_call 97;refine csb.mono ?_;rintro e r3 ⟨rfl,b3⟩))
      go_ret
      exact ⟨rfl,below_trans bw b3⟩
     ·skip
      simp only[q1] at cn
      clear q1
      clear hn5 HT
      go_enter Tryz.func73,Tryz.ntmps73
      go_wp2_with (first|(go_at_call 96;refine (cn _).mono ?_;rintro e r1 ⟨rfl,hw1⟩;obtain rfl:=hw1.symm)|(go_at_call 36;refine (cb _).mono ?_;rintro e r2 ⟨rfl,hw2⟩;obtain rfl:=hw2.symm)|(go_at_call 97;refine csb.mono ?_;rintro e r3 ⟨rfl,b3⟩))
      go_ret
      exact ⟨rfl,below_trans bw b3⟩
    ·have q4:(x4==0)=false:=by simpa using h4
     rw[decide_eq_false h4,Bool.false_and] at hR
     subst hR
     clear h4
     rcases hname with q0|⟨q0,q1⟩
     ·skip
      clear hn5 HT
      go_enter Tryz.func73,Tryz.ntmps73
      go_wp2_with (first|(go_at_call 36;refine (cb _).mono ?_;rintro e r2 ⟨rfl,hw2⟩;obtain rfl:=hw2.symm))
      go_ret
      exact ⟨rfl,bw⟩
     ·skip
      simp only[q1] at cn
      clear q1
      clear hn5 HT
      go_enter Tryz.func73,Tryz.ntmps73
      go_wp2_with (first|(go_at_call 96;refine (cn _).mono ?_;rintro e r1 ⟨rfl,hw1⟩;obtain rfl:=hw1.symm)|(go_at_call 36;refine (cb _).mono ?_;rintro e r2 ⟨rfl,hw2⟩;obtain rfl:=hw2.symm))
      go_ret
      exact ⟨rfl,bw⟩
   ·rw[if_neg hK2] at hR
    have qK:(x3 !=2)=true:=by simpa using hK2
    have qK2:(x3==2)=false:=by simpa using hK2
    by_cases h5:(0:Int) < n5
    ·have hE:x5≠[]:=by intro g;rw[g] at hn5;simp at hn5;omega
     have hF:R=false:=by rw[←hR,decide_eq_false hE];simp
     subst hF
     clear hE
     rcases hname with q0|⟨q0,q1⟩
     ·skip
      clear hR hn5 HT
      go_enter Tryz.func73,Tryz.ntmps73
      go_wp2_with (first|(go_at_call 36;refine (cb _).mono ?_;rintro e r2 ⟨rfl,hw2⟩;obtain rfl:=hw2.symm))
      go_ret
      exact ⟨rfl,bw⟩
     ·skip
      simp only[q1] at cn
      clear q1
      clear hR hn5 HT
      go_enter Tryz.func73,Tryz.ntmps73
      go_wp2_with (first|(go_at_call 96;refine (cn _).mono ?_;rintro e r1 ⟨rfl,hw1⟩;obtain rfl:=hw1.symm)|(go_at_call 36;refine (cb _).mono ?_;rintro e r2 ⟨rfl,hw2⟩;obtain rfl:=hw2.symm))
      go_ret
      exact ⟨rfl,bw⟩
    ·have hE:x5=[]:=List.eq_nil_of_length_eq_zero (by omega)
     rw[decide_eq_true hE,Bool.and_true] at hR
     have hz5:n5=0:=by omega
     subst hz5
     clear hE h5
     have hcs:x3=3∨x3=4∨x3=5∨x3=6∨x3=7∨(x3 < 2∨7 < x3):=by omega
     rcases hcs with rfl|rfl|rfl|rfl|rfl|hcs
     ·have hF:R=true:=by rw[←hR];simp
      subst hF
      rcases hname with q0|⟨q0,q1⟩
      ·skip
       clear hR hn5 HT hK2
       go_enter Tryz.func73,Tryz.ntmps73
       go_wp2_with (first|(go_at_call 36;refine (cb _).mono ?_;rintro e r2 ⟨rfl,hw2⟩;obtain rfl:=hw2.symm))
       go_ret
       exact ⟨rfl,bw⟩
      ·skip
       simp only[q1] at cn
       clear q1
       clear hR hn5 HT hK2
       go_enter Tryz.func73,Tryz.ntmps73
       go_wp2_with (first|(go_at_call 96;refine (cn _).mono ?_;rintro e r1 ⟨rfl,hw1⟩;obtain rfl:=hw1.symm)|(go_at_call 36;refine (cb _).mono ?_;rintro e r2 ⟨rfl,hw2⟩;obtain rfl:=hw2.symm))
       go_ret
       exact ⟨rfl,bw⟩
     ·have hF:R=true:=by rw[←hR];simp
      subst hF
      rcases hname with q0|⟨q0,q1⟩
      ·skip
       clear hR hn5 HT hK2
       go_enter Tryz.func73,Tryz.ntmps73
       go_wp2_with (first|(go_at_call 36;refine (cb _).mono ?_;rintro e r2 ⟨rfl,hw2⟩;obtain rfl:=hw2.symm))
       go_ret
       exact ⟨rfl,bw⟩
      ·skip
       simp only[q1] at cn
       clear q1
       clear hR hn5 HT hK2
       go_enter Tryz.func73,Tryz.ntmps73
       go_wp2_with (first|(go_at_call 96;refine (cn _).mono ?_;rintro e r1 ⟨rfl,hw1⟩;obtain rfl:=hw1.symm)|(go_at_call 36;refine (cb _).mono ?_;rintro e r2 ⟨rfl,hw2⟩;obtain rfl:=hw2.symm))
       go_ret
       exact ⟨rfl,bw⟩
     ·have hF:R=true:=by rw[←hR];simp
      subst hF
      rcases hname with q0|⟨q0,q1⟩
      ·skip
       clear hR hn5 HT hK2
       go_enter Tryz.func73,Tryz.ntmps73
       go_wp2_with (first|(go_at_call 36;refine (cb _).mono ?_;rintro e r2 ⟨rfl,hw2⟩;obtain rfl:=hw2.symm))
       go_ret
       exact ⟨rfl,bw⟩
      ·skip
       simp only[q1] at cn
       clear q1
       clear hR hn5 HT hK2
       go_enter Tryz.func73,Tryz.ntmps73
       go_wp2_with (first|(go_at_call 96;refine (cn _).mono ?_;rintro e r1 ⟨rfl,hw1⟩;obtain rfl:=hw1.symm)|(go_at_call 36;refine (cb _).mono ?_;rintro e r2 ⟨rfl,hw2⟩;obtain rfl:=hw2.symm))
       go_ret
       exact ⟨rfl,bw⟩
     ·have hF:R=decide (x4 < words):=by rw[←hR];simp
      subst hF
      rcases hname with q0|⟨q0,q1⟩
      ·skip
       clear hR hn5 HT hK2
       go_enter Tryz.func73,Tryz.ntmps73
       go_wp2_with (first|(go_at_call 36;refine (cb _).mono ?_;rintro e r2 ⟨rfl,hw2⟩;obtain rfl:=hw2.symm)|(go_at_call 98;refine (cl _ _).mono ?_;rintro e r4 ⟨rfl,hw4⟩;obtain rfl:=hw4.symm))
       go_ret
       exact ⟨rfl,bw⟩
      ·skip
       simp only[q1] at cn
       clear q1
       clear hR hn5 HT hK2
       go_enter Tryz.func73,Tryz.ntmps73
       go_wp2_with (first|(go_at_call 96;refine (cn _).mono ?_;rintro e r1 ⟨rfl,hw1⟩;obtain rfl:=hw1.symm)|(go_at_call 36;refine (cb _).mono ?_;rintro e r2 ⟨rfl,hw2⟩;obtain rfl:=hw2.symm)|(go_at_call 98;refine (cl _ _).mono ?_;rintro e r4 ⟨rfl,hw4⟩;obtain rfl:=hw4.symm))
       go_ret
       exact ⟨rfl,bw⟩
     ·by_cases h2:x2= -1
      ·have hF:R=false:=by rw[←hR,h2];simp
       subst hF
       have q2:(x2 != -1)=false:=by simp[h2]
       clear h2
       rcases hname with q0|⟨q0,q1⟩
       ·skip
        clear hR hn5 HT hK2 hnd
        go_enter Tryz.func73,Tryz.ntmps73
        go_wp2_with (first|(go_at_call 36;refine (cb _).mono ?_;rintro e r2 ⟨rfl,hw2⟩;obtain rfl:=hw2.symm))
        go_quiet (fail)
        go_wp2_with fail
        go_ret
        exact ⟨rfl,below_drewN bw _⟩
       ·skip
        simp only[q1] at cn
        clear q1
        clear hR hn5 HT hK2 hnd
        go_enter Tryz.func73,Tryz.ntmps73
        go_wp2_with (first|(go_at_call 96;refine (cn _).mono ?_;rintro e r1 ⟨rfl,hw1⟩;obtain rfl:=hw1.symm)|(go_at_call 36;refine (cb _).mono ?_;rintro e r2 ⟨rfl,hw2⟩;obtain rfl:=hw2.symm))
        go_quiet (fail)
        go_wp2_with fail
        go_ret
        exact ⟨rfl,below_drewN bw _⟩
      ·obtain ⟨j,rfl⟩:∃j:Nat,x2=(j:Int):=⟨x2.toNat,by omega⟩
       have hj:j < t.length:=by omega
       have hjt:(j:Int) < (t.length:Int):=by omega
       obtain ⟨bn,on,nn,vu,vp,vc2,rn,fn0,fn1,fn2,fn3,fn4,en,hun,hpn,hcn⟩:=nod_at (RdT.below HT.out bw) j hj
       have hlc:=rd_len hcn uU (P:=Tryz.prog)
       obtain ⟨na,nq,rfl⟩:=rd_slice hcn
       have hF:R=decide (x4 < (t[j].2.2.2.2.length:Int)):=by
        rw[←hR,Int.toNat_natCast,List.getD_eq_getElem?_getD,List.getElem?_eq_getElem hj,Option.getD_some]
        simp
       subst hF
       have q2:((j:Int) != -1)=true:=by rw[bne_iff_ne];omega
       clear h2 en
       rcases hname with q0|⟨q0,q1⟩
       ·skip
        clear hR hn5 HT hK2 hnd hun hpn hcn
        go_enter Tryz.func73,Tryz.ntmps73
        go_wp2_with (first|(go_at_call 36;refine (cb _).mono ?_;rintro e r2 ⟨rfl,hw2⟩;obtain rfl:=hw2.symm))
        go_quiet (first|(go_at_call 98;exact Calls.quiet_of_same (cl _ _)))
        go_wp2_with fail
        go_ret
        exact ⟨rfl,below_drewN bw _⟩
       ·skip
        simp only[q1] at cn
        clear q1
        clear hR hn5 HT hK2 hnd hun hpn hcn
        go_enter Tryz.func73,Tryz.ntmps73
        go_wp2_with (first|(go_at_call 96;refine (cn _).mono ?_;rintro e r1 ⟨rfl,hw1⟩;obtain rfl:=hw1.symm)|(go_at_call 36;refine (cb _).mono ?_;rintro e r2 ⟨rfl,hw2⟩;obtain rfl:=hw2.symm))
        go_quiet (first|(go_at_call 98;exact Calls.quiet_of_same (cl _ _)))
        go_wp2_with fail
        go_ret
        exact ⟨rfl,below_drewN bw _⟩
     ·have hF:R=false:=by rw[←hR,decide_eq_false (by omega:¬(2≤x3∧x3≤7))];simp
      subst hF
      have y3:(x3==3)=false:=by rw[beq_eq_false_iff_ne];omega
      have y4:(x3==4)=false:=by rw[beq_eq_false_iff_ne];omega
      have y5:(x3==5)=false:=by rw[beq_eq_false_iff_ne];omega
      have y6:(x3==6)=false:=by rw[beq_eq_false_iff_ne];omega
      have y7:(x3==7)=false:=by rw[beq_eq_false_iff_ne];omega
      rcases hname with q0|⟨q0,q1⟩
      ·skip
       clear hR hn5 HT hK2 hcs
       go_enter Tryz.func73,Tryz.ntmps73
       go_wp2_with (first|(go_at_call 36;refine (cb _).mono ?_;rintro e r2 ⟨rfl,hw2⟩;obtain rfl:=hw2.symm))
       go_ret
       exact ⟨rfl,bw⟩
      ·skip
       simp only[q1] at cn
       clear q1
       clear hR hn5 HT hK2 hcs
       go_enter Tryz.func73,Tryz.ntmps73
       go_wp2_with (first|(go_at_call 96;refine (cn _).mono ?_;rintro e r1 ⟨rfl,hw1⟩;obtain rfl:=hw1.symm)|(go_at_call 36;refine (cb _).mono ?_;rintro e r2 ⟨rfl,hw2⟩;obtain rfl:=hw2.symm))
       go_ret
       exact ⟨rfl,bw⟩
  ·rw[decide_eq_false hnd] at hR
   have hF:R=false:=by rw[←hR];simp
   subst hF
   simp only[decide_eq_false hnd] at cb
   rcases hname with q0|⟨q0,q1⟩
   ·skip
    clear hR hn5 HT
    go_enter Tryz.func73,Tryz.ntmps73
    go_wp2_with (first|(go_at_call 36;refine (cb _).mono ?_;rintro e r2 ⟨rfl,hw2⟩;obtain rfl:=hw2.symm))
    go_ret
    exact ⟨rfl,bw⟩
   ·skip
    simp only[q1] at cn
    clear q1
    clear hR hn5 HT
    go_enter Tryz.func73,Tryz.ntmps73
    go_wp2_with (first|(go_at_call 96;refine (cn _).mono ?_;rintro e r1 ⟨rfl,hw1⟩;obtain rfl:=hw1.symm)|(go_at_call 36;refine (cb _).mono ?_;rintro e r2 ⟨rfl,hw2⟩;obtain rfl:=hw2.symm))
    go_ret
    exact ⟨rfl,bw⟩
 ·have hF:R=false:=by rw[←hR,hn];simp
  subst hF
  simp only[q1] at cn
  clear hR hn5 HT q1
  go_enter Tryz.func73,Tryz.ntmps73
  go_wp2_with (first|(go_at_call 96;refine (cn _).mono ?_;rintro e r1 ⟨rfl,hw1⟩;obtain rfl:=hw1.symm))
  go_ret
  exact ⟨rfl,bw⟩
theorem prmW_eq (x:Wd) (p:List Int×Int):(x=prmW p)↔(x.2.2.1=1∧x.1=p.1∧x.2.2.2.1=p.2∧x.2.1= -1∧x.2.2.2.2=[]):=by
 obtain ⟨x1,x2,x3,x4,x5⟩:=x
 unfold prmW
 simp only[Prod.mk.injEq]
 constructor
 ·rintro ⟨a,b,c,d,e⟩
  exact ⟨c,a,d,b,e⟩
 ·rintro ⟨c,a,d,b,e⟩
  exact ⟨a,b,c,d,e⟩
set_option maxHeartbeats 4000000 in
set_option maxRecDepth 100000 in
theorem w_pisprim (x:Wd) (p:List Int×Int) (nm pn:ByteArray) (vc:Value) (w:World) (e1:strOfNums x.1=nm) (e2:strOfNums p.1=pn) (hc:RdO w vc x.2.2.2.2) (b1:bytesL x.1) (b2:bytesL p.1) (hN:0≤x.2.2.2.1∧x.2.2.2.1 < 4294967296) (hP:0≤p.2∧p.2 < 65536):
  Calls Tryz.prog 72 #[.agg #[.string nm, .int .i64 x.2.1, .int .i64 x.2.2.1, .int .u32 x.2.2.2.1,vc], .agg #[.string pn, .int .i64 p.2]] w fun e w'=>e= .returned (.bool (decide (x=prmW p)))∧Below w.heap.size w w':=by
 have hE:decide (x=prmW p)=(decide (x.2.2.1=1)&&(decide (x.1=p.1)&&(decide (x.2.2.2.1=p.2)&&(decide (x.2.1= -1)&&decide (x.2.2.2.2=[]))))):=by
  rw[Bool.eq_iff_iff,decide_eq_true_eq,prmW_eq]
  simp only[Bool.and_eq_true,decide_eq_true_eq]
 rw[hE]
 clear hE
 have hq:=str_eq8 nm pn _ _ b1 b2 e1 e2
 obtain ⟨x1,x2,x3,x4,x5⟩:=x
 obtain ⟨p1,p2⟩:=p
 simp only at e1 hc b1 b2 hN hP hq ⊢
 have hla:=slr_len hc uO (P:=Tryz.prog)
 obtain ⟨ca,cq,rfl⟩:=slr_slice hc
 obtain ⟨n5,hn5⟩:∃n,x5.length=n:=⟨_,rfl⟩
 rw[hn5] at hla hc ⊢
 have hw4:=u32_i64 x4 hN.1 hN.2
 have hE5:decide (x5=[])=((n5:Int)==0):=by
  subst hn5
  cases x5 with
  |nil=>rfl
  |cons a r=>
   have:((((a::r).length:Nat):Int)==0)=false:=by rw[beq_eq_false_iff_ne];simp;omega
   rw[this]
   simp
 rw[hE5]
 have bb1:=box_below w (.cells #[.string nm, .int .i64 x2, .int .i64 x3, .int .u32 x4, .slice ca n5 cq] 34)
 have bb2:=box_below (w.alloc (.cells #[.string nm, .int .i64 x2, .int .i64 x3, .int .u32 x4, .slice ca n5 cq] 34)) (.cells #[.string pn, .int .i64 p2] 103)
 have st:=(stands_new w #[.string nm, .int .i64 x2, .int .i64 x3, .int .u32 x4, .slice ca n5 cq] 34).below bb2
 have sp:=stands_new (w.alloc (.cells #[.string nm, .int .i64 x2, .int .i64 x3, .int .u32 x4, .slice ca n5 cq] 34)) #[.string pn, .int .i64 p2] 103
 rw[size_al] at sp
 have f0:=st.cell 0 _ rfl
 have f1:=st.cell 1 _ rfl
 have f2:=st.cell 2 _ rfl
 have f3:=st.cell 3 _ rfl
 have f4:=st.cell 4 _ rfl
 have g0:=sp.cell 0 _ rfl
 have g1:=sp.cell 1 _ rfl
 have bw:=below_trans bb1 bb2
 clear bb1 bb2 st sp hE5 hn5 e1 e2 b1 b2 hc
 by_cases h3:x3=1
 ·have q3:(x3==1)=true:=by simpa using h3
  rw[decide_eq_true h3,Bool.true_and]
  clear h3
  by_cases h1:x1=p1
  ·rw[decide_eq_true h1] at hq ⊢
   rw[Bool.true_and]
   clear h1
   by_cases h4:x4=p2
   ·have q4:(x4==p2)=true:=by simpa using h4
    rw[decide_eq_true h4,Bool.true_and]
    clear h4
    by_cases h2:x2= -1
    ·have q2:(x2== -1)=true:=by simpa using h2
     rw[decide_eq_true h2,Bool.true_and]
     clear h2
     go_enter Tryz.func72,Tryz.ntmps72
     go_wp2_with fail
     go_ret
     exact ⟨rfl,bw⟩
    ·have q2:(x2== -1)=false:=by simpa using h2
     rw[decide_eq_false h2,Bool.false_and]
     clear h2
     go_enter Tryz.func72,Tryz.ntmps72
     go_wp2_with fail
     go_ret
     exact ⟨rfl,bw⟩
   ·have q4:(x4==p2)=false:=by simpa using h4
    rw[decide_eq_false h4,Bool.false_and]
    clear h4
    go_enter Tryz.func72,Tryz.ntmps72
    go_wp2_with fail
    go_ret
    exact ⟨rfl,bw⟩
  ·rw[decide_eq_false h1] at hq ⊢
   rw[Bool.false_and]
   clear h1
   go_enter Tryz.func72,Tryz.ntmps72
   go_wp2_with fail
   go_ret
   exact ⟨rfl,bw⟩
 ·have q3:(x3==1)=false:=by simpa using h3
  rw[decide_eq_false h3,Bool.false_and]
  clear h3
  go_enter Tryz.func72,Tryz.ntmps72
  go_wp2_with fail
  go_ret
  exact ⟨rfl,bw⟩
end Go.Proofs.YtlokhciaaepenaaGreatDoor
