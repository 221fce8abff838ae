import Derived.Deep.RegionHeld
import Derived.Deep.Cut
import Derived.Deep.CutRange
import Derived.Deep.DeepCutAuto
import Derived.Test.YtlokhciaaepenaaGreatDoorB9
set_option linter.unusedVariables false
set_option linter.unusedSimpArgs false
set_option maxRecDepth 100000
namespace Go.Proofs.YtlokhciaaepenaaGreatDoor
open Go.ChangeShapes Go.WideShapes Go.ChangeAt Go.RowKit
theorem eg_called:∀args w,(callFunc 111 args).run Tryz.prog w= .ok (.enter 111 args) w:=enters_of Tryz.func111 (by kernel_rfl) rfl
theorem eg_meant:∀args w,(callFunc 90 args).run Tryz.prog w= .ok (.enter 90 args) w:=enters_of Tryz.func90 (by kernel_rfl) rfl
set_option maxHeartbeats 1000000 in
set_option maxRecDepth 100000 in
theorem w_pmeant (nm ar:ByteArray) (vu:Value) (x:Sp) (t:List Nd) (w:World) (e0:strOfNums x.1=nm) (bx:bytesL x.1) (hu:Rd .u32 w vu x.2.1) (bt:∀x∈t,bytN x):
  Calls Tryz.prog 56 #[.agg #[.string nm,vu, .string ar]] w fun e w'=>∃g lb,e= .returned (.func (.func g) #[] lb)∧(∀args w,(callFunc g args).run Tryz.prog w= .ok (.enter g args) w)∧AskN w' g lb (fun y=>decide (y.1=x.1)&&(decide (x.2.1=[])||decide (y.2.1=x.2.1))) t∧Below w.heap.size w w':=by
 have hmf:∀(fn:Fn) (first cap:Array Value) (w:World),(Instr.makeFunc fn first cap).run Tryz.prog w= .ok (.func fn first cap) w:=fun _ _ _ _=>rfl
 have hl:=rd_len hu uU (P:=Tryz.prog)
 obtain ⟨ua,uq,rfl⟩:=rd_slice hu
 have st:=stands_new w #[.string nm, .slice ua x.2.1.length uq, .string ar] 47
 have bw:=box_below w (.cells #[.string nm, .slice ua x.2.1.length uq, .string ar] 47)
 have z0:=st.cell 0 _ rfl
 have z1:=st.cell 1 _ rfl
 have hL:L nm=x.1:=by rw[←e0];exact LB_nums x.1 bx
 by_cases h0:(0:Int) < x.2.1.length
 ·have hne:¬x.2.1=[]:=by intro h;rw[h] at h0;simp at h0
  have cc:=w_pcalled nm _ x.2.1 t _ (hu.below bw) bt
  have hA:Hid (∀W lb,AskN W 111 lb (fun y=>decide (y.1=L nm)&&decide (y.2.1=x.2.1)) t→AskN W 111 lb (fun y=>decide (y.1=x.1)&&(decide (x.2.1=[])||decide (y.2.1=x.2.1))) t):=by
   show ∀W lb,_
   intro W lb h
   rw[decide_eq_false hne]
   simpa only[hL,Bool.false_or] using h
  clear hne hL e0
  go_enter Tryz.func56,Tryz.ntmps56
  go_wp2_with (go_at_call 89;refine cc.mono ?_;rintro e w1 ⟨lb,rfl,ha,b1⟩)
  go_ret
  exact ⟨_,lb,rfl,eg_called,hA.out _ _ ha,below_trans bw b1⟩
 ·have he:x.2.1=[]:=List.eq_nil_of_length_eq_zero (by omega)
  have ha:Hid (AskN (w.alloc (.cells #[.string nm, .slice ua x.2.1.length uq, .string ar] 47)) 90 #[.pointer (some ⟨w.heap.size,0,none⟩)] (fun y=>decide (y.1=x.1)&&(decide (x.2.1=[])||decide (y.2.1=x.2.1))) t):=by
   show AskN _ _ _ _ _
   rw[he]
   intro W nm2 vu2 vp2 vc2 y hb hy e2 hu2 hp2 hc2
   have:=w_pmeant1 nm2 nm vu2 vp2 vc2 y _ W e2 (bt y hy).1 hu2 hp2 hc2 (below_cell hb (by rw[he] at z0;exact z0))
   rw[hL] at this
   simpa using this
  clear he hL e0
  go_enter Tryz.func56,Tryz.ntmps56
  go_wp2_with fail
  go_ret
  exact ⟨_,_,rfl,eg_meant,ha.out,bw⟩
set_option maxHeartbeats 1000000 in
theorem w_paddressed (s:ByteArray) (vu:Value) (un:List Int) (w:World) (hs:s.size≤maxLen) (hu:Rd .u32 w vu un):
  Calls Tryz.prog 94 #[.string s,vu] w fun e w'=>e= .returned (.bool (nmF (L s)&&decide (un.length≤4)))∧Below w.heap.size w w':=by
 have hl:=rd_len hu uU (P:=Tryz.prog)
 have cn:=w_pnamed s w hs
 cases hnm:nmF (L s)
 ·rw[hnm] at cn
  clear hnm
  go_enter Tryz.func94,Tryz.ntmps94
  go_wp2_with (go_at_call 85;refine cn.mono ?_;rintro e w1 ⟨rfl,b1⟩)
  go_ret
  exact ⟨rfl,b1⟩
 ·rw[hnm] at cn
  have he:Hid (decide ((un.length:Int)≤4)=(true&&decide (un.length≤4))):=by
   show _=_
   rw[Bool.true_and]
   exact decide_eq_decide.2 ⟨fun h=>by omega,fun h=>by omega⟩
  clear hnm
  go_enter Tryz.func94,Tryz.ntmps94
  go_wp2_with (go_at_call 85;refine cn.mono ?_;rintro e w1 ⟨rfl,b1⟩)
  go_ret
  exact ⟨ret_b he.out,b1⟩
set_option maxHeartbeats 1000000 in
set_option maxRecDepth 100000 in
theorem w_pisroot (nm:ByteArray) (vu vp vc:Value) (x:Nd) (w:World) (e0:strOfNums x.1=nm) (bx:bytesL x.1) (hu:Rd .u32 w vu x.2.1) (hp:SlR 2 propR w vp x.2.2.2.1) (hc:Rd .u32 w vc x.2.2.2.2):
  Calls Tryz.prog 68 #[.agg #[.string nm,vu, .int .i64 x.2.2.1,vp,vc]] w fun e w'=>e= .returned (.bool (rootF x))∧Below w.heap.size w w':=by
 have hq:=str_eq8 nm ⟨#[]⟩ _ (L ⟨#[]⟩) bx (LB_bytes _) e0 (nums_LB _)
 have hl:=rd_len hu uU (P:=Tryz.prog)
 obtain ⟨ua,uq,rfl⟩:=rd_slice hu
 obtain ⟨pa,pq,rfl⟩:=slr_slice hp
 obtain ⟨ca,cq,rfl⟩:=rd_slice hc
 obtain ⟨X,hX⟩:∃X,x.2.2.1=X:=⟨_,rfl⟩
 have hr:rootF x=(decide (x.1=L ⟨#[]⟩)&&(decide (x.2.1=[])&&decide (X= -1))):=by unfold rootF;rw[hX];rfl
 rw[hr,hX]
 have st:=stands_new w #[.string nm, .slice ua x.2.1.length uq, .int .i64 X, .slice pa x.2.2.2.1.length pq, .slice ca x.2.2.2.2.length cq] 51
 have bw:=box_below w (.cells #[.string nm, .slice ua x.2.1.length uq, .int .i64 X, .slice pa x.2.2.2.1.length pq, .slice ca x.2.2.2.2.length cq] 51)
 have z0:=st.cell 0 _ rfl
 have z1:=st.cell 1 _ rfl
 have z2:=st.cell 2 _ rfl
 by_cases h1:x.1=L ⟨#[]⟩
 ·rw[decide_eq_true h1] at hq ⊢
  have hnm:nm=⟨#[]⟩:=by rw[←e0,h1];exact nums_LB _
  clear e0
  subst hnm
  by_cases h2:x.2.1=[]
  ·have h2b:((x.2.1.length:Int)==0)=true:=by rw[h2];rfl
   rw[decide_eq_true h2]
   obtain ⟨n,hn⟩:∃n,x.2.1.length=n:=⟨_,rfl⟩
   rw[hn] at hl z0 z1 z2 h2b st bw ⊢
   clear h1 h2 hX hr hn hq
   go_enter Tryz.func68,Tryz.ntmps68
   go_wp2_with fail
   go_ret
   exact ⟨ret_b (by by_cases h:X= -1 <;> simp[h]),bw⟩
  ·have h2b:((x.2.1.length:Int)==0)=false:=by simp;exact h2
   rw[decide_eq_false h2]
   obtain ⟨n,hn⟩:∃n,x.2.1.length=n:=⟨_,rfl⟩
   rw[hn] at hl z0 z1 z2 h2b st bw ⊢
   clear h1 h2 hX hr hn hq
   go_enter Tryz.func68,Tryz.ntmps68
   go_wp2_with fail
   go_ret
   exact ⟨rfl,bw⟩
 ·rw[decide_eq_false h1] at hq ⊢
  have hE:¬nm.toList=[]:=by intro h;rw[h] at hq;exact absurd hq (by decide+kernel)
  clear h1 e0 hX hr hq
  go_enter Tryz.func68,Tryz.ntmps68
  go_wp2_with fail
  go_ret
  exact ⟨rfl,bw⟩
theorem tw_idx (t:List Nd) (p:Int) (nm un:List Int):twF t p nm un=(t.findIdx? (fun x=>decide (x.2.2.1=p)&&(decide (x.1=nm)&&decide (x.2.1=un)))).isSome:=by
 unfold twF
 rw[List.findIdx?_isSome]
theorem fdI_none (o:Option Nat):(fdI o== -1)= !o.isSome:=by
 cases o with
 |none=>rfl
 |some k=>
  simp only[fdI,Option.isSome_some,Bool.not_true]
  simp
theorem fdI_some (o:Option Nat):(fdI o != -1)=o.isSome:=by
 unfold bne
 rw[fdI_none,Bool.not_not]
set_option maxHeartbeats 2000000 in
set_option maxRecDepth 100000 in
theorem w_pplaced (v:Value) (t:List Nd) (nm:ByteArray) (vu vp vc:Value) (x:Nd) (w:World) (h:RdT w v t) (bt:∀x∈t,bytN x) (e0:strOfNums x.1=nm) (bx:bytesL x.1) (lx:x.1.length≤maxLen) (hu:Rd .u32 w vu x.2.1) (hp:SlR 2 propR w vp x.2.2.2.1) (hc:Rd .u32 w vc x.2.2.2.2):
  Calls Tryz.prog 69 #[v, .agg #[.string nm,vu, .int .i64 x.2.2.1,vp,vc]] w fun e w'=>e= .returned (.bool (nmF x.1&&(decide (x.2.1.length≤4)&&(decide (0≤x.2.2.1)&&(decide (x.2.2.1 < t.length)&& !twF t x.2.2.1 x.1 x.2.1)))))∧Below w.heap.size w w':=by
 have hl:=slr_len h uN (P:=Tryz.prog)
 have hL:L nm=x.1:=by rw[←e0];exact LB_nums x.1 bx
 have hsz:nm.size≤maxLen:=by have:=LB_len nm;rw[show LB nm=x.1 from hL] at this;omega
 obtain ⟨X,hX⟩:∃X,x.2.2.1=X:=⟨_,rfl⟩
 rw[hX]
 obtain ⟨ua,uq,rfl⟩:=rd_slice hu
 obtain ⟨pa,pq,rfl⟩:=slr_slice hp
 obtain ⟨ca,cq,rfl⟩:=rd_slice hc
 have st:=stands_new w #[.string nm, .slice ua x.2.1.length uq, .int .i64 X, .slice pa x.2.2.2.1.length pq, .slice ca x.2.2.2.2.length cq] 51
 have bw:=box_below w (.cells #[.string nm, .slice ua x.2.1.length uq, .int .i64 X, .slice pa x.2.2.2.1.length pq, .slice ca x.2.2.2.2.length cq] 51)
 have ca1:=w_paddressed nm _ x.2.1 _ hsz (hu.below bw)
 rw[hL] at ca1
 have z0:=st.cell 0 _ rfl
 have z1:=st.cell 1 _ rfl
 have z2:=st.cell 2 _ rfl
 cases hA:nmF x.1&&decide (x.2.1.length≤4)
 ·have hR:Hid ((nmF x.1&&(decide (x.2.1.length≤4)&&(decide (0≤X)&&(decide (X < t.length)&& !twF t X x.1 x.2.1))))=false):=by show _=_;rw[←Bool.and_assoc,hA,Bool.false_and]
  rw[hA] at ca1
  clear hA hL e0 hX
  go_enter Tryz.func69,Tryz.ntmps69
  go_wp2_with (go_at_call 94;refine ca1.mono ?_;rintro e w1 ⟨rfl,b1⟩)
  go_ret
  exact ⟨ret_b hR.out.symm,below_trans bw b1⟩
 ·rw[hA] at ca1
  have hR:Hid ((nmF x.1&&(decide (x.2.1.length≤4)&&(decide (0≤X)&&(decide (X < t.length)&& !twF t X x.1 x.2.1))))=(decide (0≤X)&&(decide (X < t.length)&& !twF t X x.1 x.2.1))):=by show _=_;rw[←Bool.and_assoc,hA,Bool.true_and]
  clear hA
  by_cases h0:X < 0
  ·have hR2:Hid ((decide (0≤X)&&(decide (X < t.length)&& !twF t X x.1 x.2.1))=false):=by show _=_;rw[decide_eq_false (by omega),Bool.false_and]
   clear hL e0 hX
   go_enter Tryz.func69,Tryz.ntmps69
   go_wp2_with (go_at_call 94;refine ca1.mono ?_;rintro e w1 ⟨rfl,b1⟩;have st1:=st.below b1;have y0:=st1.cell 0 _ rfl;have y1:=st1.cell 1 _ rfl;have y2:=st1.cell 2 _ rfl)
   go_ret
   exact ⟨ret_b (by rw[hR.out,hR2.out]),below_trans bw b1⟩
  ·by_cases h1:(t.length:Int)≤X
   ·have hR2:Hid ((decide (0≤X)&&(decide (X < t.length)&& !twF t X x.1 x.2.1))=false):=by show _=_;rw[decide_eq_false (show ¬X < t.length by omega),Bool.false_and,Bool.and_false]
    clear hL e0 hX
    go_enter Tryz.func69,Tryz.ntmps69
    go_wp2_with (go_at_call 94;refine ca1.mono ?_;rintro e w1 ⟨rfl,b1⟩;have st1:=st.below b1;have y0:=st1.cell 0 _ rfl;have y1:=st1.cell 1 _ rfl;have y2:=st1.cell 2 _ rfl)
    go_ret
    exact ⟨ret_b (by rw[hR.out,hR2.out]),below_trans bw b1⟩
   ·have hR2:Hid ((decide (0≤X)&&(decide (X < t.length)&& !twF t X x.1 x.2.1))= !twF t X x.1 x.2.1):=by show _=_;rw[decide_eq_true (show 0≤X by omega),decide_eq_true (show X < t.length by omega),Bool.true_and,Bool.true_and]
    have cc:=fun W (g:Below w.heap.size w W)=>w_pcalled nm _ x.2.1 t W (hu.below g) bt
    have ck:=fun W lb (g:Below w.heap.size w W) ha=>w_pchild v t X _ lb (fun y:Nd=>decide (y.1=x.1)&&decide (y.2.1=x.2.1)) W eg_called (h.below g) ha
    rw[hL] at cc
    have CC:=hid cc
    have CK:=hid ck
    have hT:=hid (tw_idx t X x.1 x.2.1)
    clear hL e0 hX cc ck
    go_enter Tryz.func69,Tryz.ntmps69
    go_wp2_with (go_at_call 94;refine ca1.mono ?_;rintro e w1 ⟨rfl,b1⟩;have st1:=st.below b1;have y0:=st1.cell 0 _ rfl;have y1:=st1.cell 1 _ rfl;have y2:=st1.cell 2 _ rfl)
    have Z:Hid (∀W,Below w1.heap.size w1 W→W.cell? ⟨w.heap.size,0,none⟩=some (.string nm)∧W.cell? ⟨w.heap.size,1,none⟩=some (.slice ua x.2.1.length uq)∧W.cell? ⟨w.heap.size,2,none⟩=some (.int .i64 X)):=fun W g=>⟨below_cell g y0,below_cell g y1,below_cell g y2⟩
    have HB:=hid (below_trans bw b1)
    have hbd:Hid (Below w.heap.size w w1.drew):=below_drewN HB.out 1
    have hrd:Hid (Below w1.heap.size w1 w1.drew):=below_drewN (Below.refl _ _) 1
    clear y0 y1 y2 z0 z1 z2 st st1 bw b1 ca1
    go_region_held (fun W=>W.cell? ⟨w.heap.size,0,none⟩=some (.string nm)∧W.cell? ⟨w.heap.size,1,none⟩=some (.slice ua x.2.1.length uq)∧W.cell? ⟨w.heap.size,2,none⟩=some (.int .i64 X)) (first|with_reducible exact Z.out _ hrd.out|with_reducible exact Z.out _ R2.out|with_reducible exact Z.out _ R3.out)
     (first
      |(go_at_call 89;refine (CC.out _ (by with_reducible exact hbd.out)).mono ?_;rintro e w2 ⟨lb,rfl,ha,b2⟩;have A2:=hid ha;have G2:Hid (Below w.heap.size w w2):=below_trans hbd.out b2;have R2:Hid (Below w1.heap.size w1 w2):=below_trans hrd.out b2;clear ha b2)
      |(go_at_call 55;refine (CK.out _ lb (by with_reducible exact G2.out) A2.out).mono ?_;rintro e w3 ⟨rfl,b3⟩;have G3:Hid (Below w.heap.size w w3):=below_trans G2.out b3;have R3:Hid (Below w1.heap.size w1 w3):=below_trans R2.out b3;clear b3))
    go_wp2_with fail
    go_ret
    refine ⟨ret_b ?_,G3.out⟩
    rw[hR.out,hR2.out,hT.out]
    exact fdI_none _
theorem dr_trans {a b c:World} (h:Dr a b) (g:Dr b c):Dr a c:=by
 obtain ⟨m,rfl⟩:=h
 obtain ⟨n,rfl⟩:=g
 exact ⟨m+n,by rw[World.drewN_drewN]⟩
set_option maxHeartbeats 1000000 in
set_option maxRecDepth 100000 in
theorem w_innQ (c:Int) (w:World) (h0:0≤c) (h1:c < 256):Calls Tryz.prog 109 #[.int .u8 c] w fun e w'=>e= .returned (.bool (nmC c))∧Dr w w':=by
 rcases (show c < 33∨126 < c∨(65≤c∧c≤90)∨(33≤c∧c < 65)∨(90 < c∧c≤126) by omega) with h|h|⟨h,g⟩|⟨h,g⟩|⟨h,g⟩
 ·have e:nmC c=false:=by unfold nmC;simp;omega
  rw[e]
  clear e
  go_enter Tryz.func109,Tryz.ntmps109
  go_wp2_with fail
  go_ret
  exact ⟨rfl,dr_refl _⟩
 ·have e:nmC c=false:=by unfold nmC;simp;omega
  rw[e]
  clear e
  go_enter Tryz.func109,Tryz.ntmps109
  go_wp2_with fail
  go_ret
  exact ⟨rfl,dr_refl _⟩
 ·have e:nmC c=false:=by unfold nmC;simp;omega
  rw[e]
  clear e
  go_enter Tryz.func109,Tryz.ntmps109
  go_wp2_with fail
  go_ret
  exact ⟨rfl,dr_refl _⟩
 ·go_enter Tryz.func109,Tryz.ntmps109
  go_wp2_with (go_at_call 123;refine (w_sib _ c _ h0 h1).mono ?_;rintro e w1 ⟨i,rfl,hi,rfl⟩;have H:=hid (atB_bar hi (by omega) (by omega) (by omega));clear hi)
  go_ret
  exact ⟨ret_b (by first|exact H.out|(rw[←H.out,decide_eq_false (show ¬c≤90 by omega)];rfl)),dr_refl _⟩
 ·go_enter Tryz.func109,Tryz.ntmps109
  go_wp2_with (go_at_call 123;refine (w_sib _ c _ h0 h1).mono ?_;rintro e w1 ⟨i,rfl,hi,rfl⟩;have H:=hid (atB_bar hi (by omega) (by omega) (by omega));clear hi)
  go_ret
  exact ⟨ret_b (by first|exact H.out|(rw[←H.out,decide_eq_false (show ¬c≤90 by omega)];rfl)),dr_refl _⟩
set_option maxHeartbeats 1000000 in
set_option maxRecDepth 100000 in
theorem w_pnamedQ (s:ByteArray) (w:World) (hs:s.size≤maxLen):
  Calls Tryz.prog 85 #[.string s] w fun e w'=>e= .returned (.bool (nmF (L s)))∧Dr w w':=by
 have hs2:=hs
 unfold maxLen at hs2
 by_cases h0:s.size=0
 ·have hs:s=⟨#[]⟩:=by
   apply ByteArray.ext
   exact Array.eq_empty_of_size_eq_zero h0
  subst hs
  go_enter Tryz.func85,Tryz.ntmps85
  go_wp2_with fail
  go_ret
  exact ⟨rfl,dr_refl _⟩
 ·have hemp:s.toList.isEmpty=false:=by
   rw[←decide_eq_emptyBytes]
   exact decide_eq_false (fun h=>h0 (by rw[h];rfl))
  by_cases h31:(31:Int) < s.size
  ·have e:nmF (L s)=false:=by unfold nmF;rw[L_len,show decide (1≤s.size∧s.size≤31)=false by simp;omega];rfl
   rw[e]
   clear e
   go_enter Tryz.func85,Tryz.ntmps85
   go_wp2_with fail
   go_ret
   exact ⟨rfl,dr_refl _⟩
  ·go_enter Tryz.func85,Tryz.ntmps85
   go_wp2_with fail
   go_loopw [13] (fun I wx=>∃(k:Nat),(k:Int)≤s.size∧I= .int .i64 k∧Hid (((L s).take k).all nmC=true)∧Dr w wx) (fun I _=>(s.size - intOf I).toNat)
   case atStart=>exact ⟨0,by omega,rfl,hid rfl,dr_refl _⟩
   case round=>
    obtain ⟨k,hk,rfl,ha,hb⟩:=hrel
    by_cases hlt:(k:Int) < s.size
    ·have hkk:k < s.size:=by omega
     obtain ⟨c,hc⟩:∃c,(s[k].toNat:Int)=c:=⟨_,rfl⟩
     have hcb:=L_bd s k hkk
     rw[hc] at hcb
     obtain ⟨c0,c1⟩:=hcb
     have hLd:Hid (L s=(L s).take k++c::(L s).drop (k+1)):=by
      show _=_
      rw[←hc,←L_drop s k hkk,List.take_append_drop]
     have hLt:Hid ((L s).take (k+1)=(L s).take k++[c]):=by show _=_;rw[←hc];exact L_take s k hkk
     have hrun:=run_at (w:=wr) s k hkk hs
     rw[hc] at hrun
     have cn:=w_innQ c wr c0 c1
     cases hcc:nmC c
     ·have hf:Hid (nmF (L s)=false):=by show _=_;rw[hLd.out];exact nm_mid _ _ _ hcc
      rw[hcc] at cn
      clear hcc hLd hLt hc
      go_wp2_with (go_at_call 109;refine cn.mono ?_;rintro e w1 ⟨rfl,b1⟩)
      go_ret
      exact ⟨ret_b hf.out.symm,dr_trans hb b1⟩
     ·have ha2:Hid (((L s).take (k+1)).all nmC=true):=by
       show _=_
       rw[hLt.out,List.all_append,ha.out]
       simp[hcc]
      rw[hcc] at cn
      clear hcc hLd hLt hc
      go_wp2_with (go_at_call 109;refine cn.mono ?_;rintro e w1 ⟨rfl,b1⟩)
      go_roundw
      case rel=>exact ⟨k+1,by omega,by go_num,ha2,dr_trans hb b1⟩
      case measure=>simp[intOf];omega
    ·have hall:=ha.out
     rw[List.take_of_length_le (by rw[L_len];omega)] at hall
     have hf:Hid (nmF (L s)=true):=by show _=_;unfold nmF;rw[hall,L_len];simp;omega
     clear hall
     obtain rfl:k=s.size:=by omega
     go_wp2_with fail
     go_ret
     exact ⟨ret_b hf.out.symm,hb⟩
theorem fdI_ge (o:Option Nat):(fdI o != -1)=decide ((0:Int)≤fdI o):=by
 cases o with
 |none=>rfl
 |some k=>
  have h0:(0:Int)≤fdI (some k):=Int.natCast_nonneg k
  rw[decide_eq_true h0,fdI_some]
  rfl
set_option maxHeartbeats 2000000 in
set_option maxRecDepth 100000 in
theorem w_ppropsformed (v:Value) (l:List Pp) (w:World) (h:SlR 2 propR w v l) (bl:∀x∈l,bytesL x.1) (ll:∀x∈l,x.1.length≤maxLen):
  Calls Tryz.prog 70 #[v] w fun e w'=>e= .returned (.bool (decide (l.length≤16)&&okR l))∧Below w.heap.size w w':=by
 have hl:=slr_len h uR (P:=Tryz.prog)
 by_cases h16:(16:Int) < l.length
 ·have hf:Hid ((decide (l.length≤16)&&okR l)=false):=by show _=_;rw[decide_eq_false (by omega),Bool.false_and]
  go_enter Tryz.func70,Tryz.ntmps70
  go_wp2_with fail
  go_ret
  exact ⟨ret_b hf.out.symm,Below.refl _ _⟩
 ·have he:(decide (l.length≤16)&&okR l)=okR l:=by rw[decide_eq_true (by omega),Bool.true_and]
  rw[he]
  clear he
  go_enter Tryz.func70,Tryz.ntmps70
  go_wp2_with fail
  go_loopw [10] (fun I wx=>∃k:Nat,(k:Int)≤l.length∧I= .int .i64 k∧Hid (∀j (g:j < k) (hj:j < l.length),okP l j l[j]=true)∧Below w.heap.size w wx) (fun I _=>(l.length - intOf I).toNat)
  case atStart=>exact ⟨0,by omega,rfl,hid (fun j g=>by omega),Below.refl _ _⟩
  case round=>
   obtain ⟨k,hk,rfl,hok,hb⟩:=hrel
   by_cases hlt:(k:Int) < l.length
   ·have hkl:k < l.length:=by omega
    obtain ⟨b0,o0,nm,vd,r0,f0,f1,e0,hd0⟩:=prp_at8 (h.below hb (propR_below hb)) k hkl
    have hld:=rd_len hd0 uB (P:=Tryz.prog)
    obtain ⟨da,dq,rfl⟩:=rd_slice hd0
    have hL:L nm=l[k].1:=by rw[←e0];exact LB_nums _ (bl _ (List.getElem_mem hkl))
    have hsz:nm.size≤maxLen:=by
     have h1:=LB_len nm
     rw[show LB nm=l[k].1 from hL] at h1
     have:=ll _ (List.getElem_mem hkl)
     omega
    obtain ⟨vh,hh,hhR⟩:=slr_head h uR zR k (by omega)
    have st:=stands_new wr #[.string nm, .slice da l[k].2.length dq] 92
    have hbx:=box_below wr (.cells #[.string nm, .slice da l[k].2.length dq] 92)
    have hb0:=below_trans hb hbx
    have cn:=fun W=>w_pnamed nm W hsz
    have cnq:=fun W=>w_pnamedQ nm W hsz
    have cp:=fun W (g:Below w.heap.size w W)=>w_pplace vh (l.take k) nm W (hhR.below g (propR_below g)) (fun x hx=>bl x (List.mem_of_mem_take hx))
    simp only[hL] at cn cp cnq
    obtain ⟨n,hn⟩:∃n,l[k].2.length=n:=⟨_,rfl⟩
    have bad:=fun g=>hid (okR_bad k hkl (okP_bad g))
    have good:=fun (g1:nmF (l[k]'hkl).1=true) (g2:¬256 < (l[k]'hkl).2.length) (g3:¬(0:Int)≤fdI (pfF (l.take k) (l[k]'hkl).1))=>hid (okP_good (l:=l) (k:=k) (x:=l[k]'hkl) g1 g2 g3)
    rw[hn] at hld f1 st hbx hb0
    obtain ⟨F,hF⟩:∃F,fdI (pfF (l.take k) l[k].1)=F:=⟨_,rfl⟩
    simp only[hF] at cp
    cases hnm:nmF l[k].1
    ·have hf:=bad (Or.inl hnm)
     simp only[hnm] at cnq
     clear hnm hL e0 hF bad good cp hn cn
     have CN:=hid cnq
     clear cnq
     go_wp2_with fail
     generalize wr.alloc (.cells #[.string nm, .slice da n dq] 92)=w1 at st hbx hb0 ⊢
     have Z:Hid (∀W,Below w1.heap.size w1 W→W.cell? ⟨wr.heap.size,0,none⟩=some (.string nm)∧W.cell? ⟨wr.heap.size,1,none⟩=some (.slice da n dq)):=fun W g=>⟨(st.below g).cell 0 _ rfl,(st.below g).cell 1 _ rfl⟩
     have hrd:Hid (Below w1.heap.size w1 w1.drew):=below_drewN (Below.refl _ _) 1
     have B0:=hid hb0
     clear st hbx hb0
     obtain ⟨y0,y1⟩:=Z.out _ (Below.refl _ _)
     go_quiet (first|(go_at_call 85;exact Calls.quiet_of (CN.out _)))
     go_wp2_with fail
     go_ret
     exact ⟨ret_b hf.out.symm,below_drewN B0.out _⟩
    ·simp only[hnm] at cn cnq
     by_cases h256:(256:Int) < n
     ·have hf:=bad (Or.inr (Or.inl (by omega)))
      have hd:decide ((256:Int) < n)=true:=decide_eq_true h256
      clear hnm hL e0 hF bad good cp hn cn
      have CN:=hid cnq
      clear cnq
      go_wp2_with fail
      generalize wr.alloc (.cells #[.string nm, .slice da n dq] 92)=w1 at st hbx hb0 ⊢
      have Z:Hid (∀W,Below w1.heap.size w1 W→W.cell? ⟨wr.heap.size,0,none⟩=some (.string nm)∧W.cell? ⟨wr.heap.size,1,none⟩=some (.slice da n dq)):=fun W g=>⟨(st.below g).cell 0 _ rfl,(st.below g).cell 1 _ rfl⟩
      have hrd:Hid (Below w1.heap.size w1 w1.drew):=below_drewN (Below.refl _ _) 1
      have B0:=hid hb0
      clear st hbx hb0
      obtain ⟨y0,y1⟩:=Z.out _ (Below.refl _ _)
      go_quiet (first|(go_at_call 85;exact Calls.quiet_of (CN.out _)))
      go_wp2_with fail
      go_ret
      exact ⟨ret_b hf.out.symm,below_drewN B0.out _⟩
     ·have hd:decide ((256:Int) < n)=false:=decide_eq_false h256
      have hF2:(F != -1)=decide ((0:Int)≤F):=by rw[←hF];exact fdI_ge _
      cases hFc:decide ((0:Int)≤F)
      ·have hF3:(F != -1)=false:=by rw[hF2,hFc]
       have hg:=good hnm (by omega) (by rw[hF];exact of_decide_eq_false hFc)
       have hok2:Hid (∀j (g:j < k+1) (hj:j < l.length),okP l j l[j]=true):=by
        show ∀j _ _,_
        intro j g hj
        by_cases hjk:j < k
        ·exact hok.out j hjk hj
        ·have:j=k:=by omega
         subst this
         exact hg.out
       clear hnm hL e0 hF bad good hn hF2 hFc hg h256
       have CN:=hid cn
       have CP:=hid cp
       clear cn cp
       go_wp2_with fail
       generalize wr.alloc (.cells #[.string nm, .slice da n dq] 92)=w1 at st hbx hb0 ⊢
       have Z:Hid (∀W,Below w1.heap.size w1 W→W.cell? ⟨wr.heap.size,0,none⟩=some (.string nm)∧W.cell? ⟨wr.heap.size,1,none⟩=some (.slice da n dq)):=fun W g=>⟨(st.below g).cell 0 _ rfl,(st.below g).cell 1 _ rfl⟩
       have hrd:Hid (Below w1.heap.size w1 w1.drew):=below_drewN (Below.refl _ _) 1
       have B0:=hid hb0
       clear st hbx hb0
       go_region_held (fun W=>W.cell? ⟨wr.heap.size,0,none⟩=some (.string nm)∧W.cell? ⟨wr.heap.size,1,none⟩=some (.slice da n dq)) (first|with_reducible exact Z.out _ hrd.out|with_reducible exact Z.out _ R2.out|with_reducible exact Z.out _ R3.out)
        (first
         |(go_at_call 85;refine (CN.out _).mono ?_;rintro e w2 ⟨rfl,b2⟩;have R2:Hid (Below w1.heap.size w1 w2):=below_trans hrd.out b2;clear b2)
         |(go_at_call 95;refine (CP.out _ (below_trans B0.out R2.out)).mono ?_;rintro e w3 ⟨rfl,b3⟩;have R3:Hid (Below w1.heap.size w1 w3):=below_trans R2.out b3;clear b3))
       go_wp2_with fail
       go_roundw
       case rel=>exact ⟨k+1,by omega,by go_num,hok2,below_trans B0.out R3.out⟩
       case measure=>simp[intOf];omega
      ·have hF3:(F != -1)=true:=by rw[hF2,hFc]
       have hf:=bad (Or.inr (Or.inr (by rw[hF];exact of_decide_eq_true hFc)))
       clear hnm hL e0 hF bad good hn hF2 hFc h256
       have CN:=hid cn
       have CP:=hid cp
       clear cn cp
       go_wp2_with fail
       generalize wr.alloc (.cells #[.string nm, .slice da n dq] 92)=w1 at st hbx hb0 ⊢
       have Z:Hid (∀W,Below w1.heap.size w1 W→W.cell? ⟨wr.heap.size,0,none⟩=some (.string nm)∧W.cell? ⟨wr.heap.size,1,none⟩=some (.slice da n dq)):=fun W g=>⟨(st.below g).cell 0 _ rfl,(st.below g).cell 1 _ rfl⟩
       have hrd:Hid (Below w1.heap.size w1 w1.drew):=below_drewN (Below.refl _ _) 1
       have B0:=hid hb0
       clear st hbx hb0
       go_region_held (fun W=>W.cell? ⟨wr.heap.size,0,none⟩=some (.string nm)∧W.cell? ⟨wr.heap.size,1,none⟩=some (.slice da n dq)) (first|with_reducible exact Z.out _ hrd.out|with_reducible exact Z.out _ R2.out|with_reducible exact Z.out _ R3.out)
        (first
         |(go_at_call 85;refine (CN.out _).mono ?_;rintro e w2 ⟨rfl,b2⟩;have R2:Hid (Below w1.heap.size w1 w2):=below_trans hrd.out b2;clear b2)
         |(go_at_call 95;refine (CP.out _ (below_trans B0.out R2.out)).mono ?_;rintro e w3 ⟨rfl,b3⟩;have R3:Hid (Below w1.heap.size w1 w3):=below_trans R2.out b3;clear b3))
       go_wp2_with fail
       go_ret
       exact ⟨ret_b hf.out.symm,below_trans B0.out R3.out⟩
   ·have hf:Hid (okR l=true):=by
     show _=_
     unfold okR
     rw[decide_eq_true_eq]
     intro j hj
     exact hok.out j (by omega) hj
    go_wp2_with fail
    go_ret
    exact ⟨ret_b hf.out.symm,hb⟩
end Go.Proofs.YtlokhciaaepenaaGreatDoor
