import Derived.Deep.RegionHeld
import Derived.Deep.Cut
import Derived.Deep.CutRange
import Derived.Deep.DeepCutAuto
import Derived.Deep.RegionLaw
import Derived.BigFrame
import Derived.Test.YtbamcchghecpeaaGreatDoorB6
set_option linter.unusedVariables false
set_option linter.unusedSimpArgs false
set_option maxRecDepth 100000
namespace Go.Proofs.YtbamcchghecpeaaGreatDoor
open Go.ChangeShapes Go.WideShapes Go.ChangeAt Go.RowKit
def AskN (w:World) (g:Nat) (lb:Array Value) (p:Nd→Bool) (t:List Nd):Prop:=
 ∀(W:World) (nm:ByteArray) (vu vp vc:Value) (x:Nd),Below w.heap.size w W→x∈t→strOfNums x.1=nm→Rd .u32 W vu x.2.1→SlR 2 propR W vp x.2.2.2.1→Rd .u32 W vc x.2.2.2.2→
  Calls Tryz.prog g (#[.agg #[.string nm,vu, .int .i64 x.2.2.1,vp,vc]]++lb) W fun e w'=>e= .returned (.bool (p x))∧Below W.heap.size W w'
theorem idx_hit {α:Type} {t:List α} {p:α→Bool} {k:Nat} (hk:k < t.length) (h:p t[k]=true) (hn:∀j (hj:j < k),p (t[j]'(by omega))=false):t.findIdx? p=some k:=by
 rw[List.findIdx?_eq_some_iff_getElem]
 exact ⟨hk,h,fun j hj=>by simp[hn j hj]⟩
theorem idx_miss {α:Type} {t:List α} {p:α→Bool} (hn:∀j (hj:j < t.length),p t[j]=false):t.findIdx? p=none:=by
 rw[List.findIdx?_eq_none_iff]
 intro x hx
 obtain ⟨j,hj,rfl⟩:=List.getElem_of_mem hx
 exact hn j hj
set_option maxHeartbeats 1000000 in
set_option maxRecDepth 100000 in
theorem w_pindexN (v:Value) (t:List Nd) (g:Nat) (lb:Array Value) (p:Nd→Bool) (w:World) (eg:∀args w,(callFunc g args).run Tryz.prog w= .ok (.enter g args) w) (h:RdT w v t) (hp:AskN w g lb p t):
  Calls Tryz.prog 231 #[v, .func (.func g) #[] lb] w fun e w'=>e= .returned (.int .i64 (fdI (t.findIdx? p)))∧Below w.heap.size w w':=by
 have hl:=slr_len h uN (P:=Tryz.prog)
 have hm:=slr_max h
 unfold maxLen at hm
 obtain ⟨R,hR⟩:∃R,fdI (t.findIdx? p)=R:=⟨_,rfl⟩
 rw[hR]
 have HR:=hid hR
 clear hR
 go_enter Tryz.func231,Tryz.ntmps231
 go_wp2_with fail
 go_loopw [8] (fun I wx=>∃k:Nat,(k:Int)≤t.length∧I= .int .i64 k∧Hid (∀j (hj:j < k) (hl:j < t.length),p t[j]=false)∧Below w.heap.size w wx) (fun I _=>(t.length - intOf I).toNat)
 case atStart=>exact ⟨0,by omega,rfl,hid (fun j hj=>by omega),Below.refl _ _⟩
 case round=>
  obtain ⟨k,hk,rfl,hq,hg⟩:=hrel
  by_cases hlt:(k:Int) < t.length
  ·have hkl:k < t.length:=by omega
   obtain ⟨b1,o1,N1,u1,p1,c1,r1,f0,f1,f2,f3,f4,e1,hu1,hp1,hc1⟩:=nod_at (h.below hg) k hkl
   have hc:=hp wr N1 u1 p1 c1 t[k] hg (List.getElem_mem hkl) e1 hu1 hp1 hc1
   obtain ⟨X,hX⟩:∃X,t[k].2.2.1=X:=⟨_,rfl⟩
   rw[hX] at f2 hc
   obtain ⟨ua,uq,rfl⟩:=rd_slice hu1
   obtain ⟨pa,pq,rfl⟩:=slr_slice hp1
   obtain ⟨ca,cq,rfl⟩:=rd_slice hc1
   cases hpk:p t[k]
   ·rw[hpk] at hc
    have hq2:Hid (∀j (hj:j < k+1) (hl:j < t.length),p t[j]=false):=by
     show ∀j _ _,_
     intro j hj hl
     by_cases hjk:j < k
     ·exact hq.out j hjk hl
     ·have:j=k:=by omega
      subst this
      exact hpk
    clear hpk e1 hX hp
    go_wp2_with (go_at_fn g;refine hc.mono ?_;rintro e w1 ⟨rfl,b1⟩)
    go_roundw
    case rel=>exact ⟨k+1,by omega,by go_num,hq2,below_trans hg b1⟩
    case measure=>simp[intOf];omega
   ·rw[hpk] at hc
    have hf:Hid (R=k):=by
     show _=_
     rw[←HR.out,idx_hit hkl hpk (fun j hj=>hq.out j hj (by omega))]
     rfl
    clear hpk e1 hX hp
    go_wp2_with (go_at_fn g;refine hc.mono ?_;rintro e w1 ⟨rfl,b1⟩)
    go_ret
    rw[hf.out]
    exact ⟨rfl,below_trans hg b1⟩
  ·have hf:Hid (R= -1):=by
    show _=_
    rw[←HR.out,idx_miss (fun j hj=>hq.out j (by omega) hj)]
    rfl
   go_wp2_with fail
   go_ret
   rw[hf.out]
   exact ⟨rfl,hg⟩
set_option maxHeartbeats 1000000 in
set_option maxRecDepth 100000 in
theorem w_pplace1 (nm s:ByteArray) (vd:Value) (x:Pp) (B:Nat) (W:World) (e0:strOfNums x.1=nm) (hb:bytesL x.1) (hd:Rd .u8 W vd x.2) (hs:W.cell? ⟨B,0,none⟩=some (.string s)):
  Calls Tryz.prog 237 #[.agg #[.string nm,vd], .pointer (some ⟨B,0,none⟩)] W fun e w'=>e= .returned (.bool (decide (x.1=L s)))∧Below W.heap.size W w':=by
 have hq:=str_eq8 nm s _ (L s) hb (LB_bytes s) e0 (nums_LB s)
 obtain ⟨da,dq,rfl⟩:=rd_slice hd
 have bx:=box_below W (.cells #[.string nm, .slice da x.2.length dq] 93)
 have hs2:=below_cell bx hs
 have z0:=(stands_new W #[.string nm, .slice da x.2.length dq] 93).cell 0 _ rfl
 go_enter Tryz.func237,Tryz.ntmps237
 go_wp2_with fail
 go_ret
 exact ⟨rfl,bx⟩
set_option maxHeartbeats 1000000 in
set_option maxRecDepth 100000 in
theorem w_pindexP (v:Value) (l:List Pp) (s:ByteArray) (B:Nat) (w:World) (h:SlR 2 propR w v l) (bl:∀x∈l,bytesL x.1) (hs:w.cell? ⟨B,0,none⟩=some (.string s)):
  Calls Tryz.prog 236 #[v, .func (.func 237) #[] #[.pointer (some ⟨B,0,none⟩)]] w fun e w'=>e= .returned (.int .i64 (fdI (pfF l (L s))))∧Below w.heap.size w w':=by
 have eg:∀args w,(callFunc 237 args).run Tryz.prog w= .ok (.enter 237 args) w:=enters_of Tryz.func237 (by kernel_rfl) rfl
 have hl:=slr_len h uR (P:=Tryz.prog)
 have hm:=slr_max h
 unfold maxLen at hm
 obtain ⟨R,hR⟩:∃R,fdI (pfF l (L s))=R:=⟨_,rfl⟩
 rw[hR]
 have HR:=hid hR
 clear hR
 go_enter Tryz.func236,Tryz.ntmps236
 go_wp2_with fail
 go_loopw [8] (fun I wx=>∃k:Nat,(k:Int)≤l.length∧I= .int .i64 k∧Hid (∀j (hj:j < k) (g:j < l.length),¬l[j].1=L s)∧Below w.heap.size w wx) (fun I _=>(l.length - intOf I).toNat)
 case atStart=>exact ⟨0,by omega,rfl,hid (fun j hj=>by omega),Below.refl _ _⟩
 case round=>
  obtain ⟨k,hk,rfl,hp,hg⟩:=hrel
  by_cases hlt:(k:Int) < l.length
  ·have hkl:k < l.length:=by omega
   obtain ⟨b,o,nm,vd,r,f0,f1,e0,hd0⟩:=prp_at8 (h.below hg (propR_below hg)) k hkl
   have hc:=w_pplace1 nm s vd l[k] B wr e0 (bl _ (List.getElem_mem hkl)) hd0 (below_cell hg hs)
   obtain ⟨da,dq,rfl⟩:=rd_slice hd0
   by_cases hx:l[k].1=L s
   ·have hf:Hid (R=k):=by
     show _=_
     rw[←HR.out,pf_hit hkl hx (fun j hj=>hp.out j hj (by omega))]
     rfl
    rw[decide_eq_true hx] at hc
    clear hx e0
    go_wp2_with (go_at_fn 237;refine hc.mono ?_;rintro e w1 ⟨rfl,b1⟩)
    go_ret
    rw[hf.out]
    exact ⟨rfl,below_trans hg b1⟩
   ·rw[decide_eq_false hx] at hc
    have hp2:Hid (∀j (hj:j < k+1) (g:j < l.length),¬l[j].1=L s):=by
     show ∀j _ _,_
     intro j hj g
     by_cases hjk:j < k
     ·exact hp.out j hjk g
     ·have:j=k:=by omega
      subst this
      exact hx
    clear hx e0
    go_wp2_with (go_at_fn 237;refine hc.mono ?_;rintro e w1 ⟨rfl,b1⟩)
    go_roundw
    case rel=>exact ⟨k+1,by omega,by go_num,hp2,below_trans hg b1⟩
    case measure=>simp[intOf];omega
  ·have hf:Hid (R= -1):=by
    show _=_
    have:pfF l (L s)=none:=by
     rw[pf_none]
     intro x hx
     obtain ⟨j,hj,rfl⟩:=List.getElem_of_mem hx
     exact hp.out j (by omega) hj
    rw[←HR.out,this]
    rfl
   go_wp2_with fail
   go_ret
   rw[hf.out]
   exact ⟨rfl,hg⟩
set_option maxHeartbeats 1000000 in
theorem w_pplace (v:Value) (l:List Pp) (s:ByteArray) (w:World) (h:SlR 2 propR w v l) (bl:∀x∈l,bytesL x.1):
  Calls Tryz.prog 171 #[v, .string s] w fun e w'=>e= .returned (.int .i64 (fdI (pfF l (L s))))∧Below w.heap.size w w':=by
 have hmf:∀(fn:Fn) (first cap:Array Value) (w:World),(Instr.makeFunc fn first cap).run Tryz.prog w= .ok (.func fn first cap) w:=fun _ _ _ _=>rfl
 have bx:=box_below w (.cells #[.string s] 9)
 have z0:=(stands_new w #[.string s] 9).cell 0 _ rfl
 have hc:=w_pindexP v l s w.heap.size _ (h.below bx (propR_below bx)) bl z0
 go_enter Tryz.func171,Tryz.ntmps171
 go_wp2_with (go_at_call 236;refine hc.mono ?_;rintro e w1 ⟨rfl,b1⟩)
 go_ret
 exact ⟨rfl,below_trans bx b1⟩
set_option maxHeartbeats 1000000 in
set_option maxRecDepth 100000 in
theorem w_pcalled1 (nm s:ByteArray) (vu vp vc vw:Value) (x:Nd) (un:List Int) (B B2:Nat) (W:World) (e0:strOfNums x.1=nm) (hb:bytesL x.1) (hu:Rd .u32 W vu x.2.1) (hp:SlR 2 propR W vp x.2.2.2.1) (hc:Rd .u32 W vc x.2.2.2.2) (hs:W.cell? ⟨B,0,none⟩=some (.string s)) (hs2:W.cell? ⟨B2,0,none⟩=some vw) (hw:Rd .u32 W vw un):
  Calls Tryz.prog 233 #[.agg #[.string nm,vu, .int .i64 x.2.2.1,vp,vc], .pointer (some ⟨B,0,none⟩), .pointer (some ⟨B2,0,none⟩)] W fun e w'=>e= .returned (.bool (decide (x.1=L s)&&decide (x.2.1=un)))∧Below W.heap.size W w':=by
 have hq:=str_eq8 nm s _ (L s) hb (LB_bytes s) e0 (nums_LB s)
 obtain ⟨ua,uq,rfl⟩:=rd_slice hu
 obtain ⟨pa,pq,rfl⟩:=slr_slice hp
 obtain ⟨ca,cq,rfl⟩:=rd_slice hc
 obtain ⟨wa,wq,rfl⟩:=rd_slice hw
 obtain ⟨X,hX⟩:∃X,x.2.2.1=X:=⟨_,rfl⟩
 rw[hX]
 have st:=stands_new W #[.string nm, .slice ua x.2.1.length uq, .int .i64 X, .slice pa x.2.2.2.1.length pq, .slice ca x.2.2.2.2.length cq] 91
 have bx:=box_below W (.cells #[.string nm, .slice ua x.2.1.length uq, .int .i64 X, .slice pa x.2.2.2.1.length pq, .slice ca x.2.2.2.2.length cq] 91)
 have z0:=st.cell 0 _ rfl
 have z1:=st.cell 1 _ rfl
 have l0:=below_cell bx hs
 have l1:=below_cell bx hs2
 by_cases h1:x.1=L s
 ·rw[decide_eq_true h1] at hq ⊢
  have ce:=w_pequal _ _ _ _ _ (hu.below bx) (hw.below bx)
  rw[Bool.true_and]
  obtain ⟨b,hb⟩:∃b,decide (x.2.1=un)=b:=⟨_,rfl⟩
  rw[hb] at ce ⊢
  clear h1 hb e0 hX
  go_enter Tryz.func233,Tryz.ntmps233
  go_wp2_with (go_at_call 234;refine ce.mono ?_;rintro e w1 ⟨rfl,d1⟩)
  go_ret
  exact ⟨rfl,below_trans bx (dr_below d1)⟩
 ·rw[decide_eq_false h1] at hq ⊢
  clear h1 e0 hX
  go_enter Tryz.func233,Tryz.ntmps233
  go_wp2_with fail
  go_ret
  exact ⟨rfl,bx⟩
set_option maxHeartbeats 1000000 in
set_option maxRecDepth 100000 in
theorem w_pcalled (s:ByteArray) (vw:Value) (un:List Int) (t:List Nd) (w:World) (hw:Rd .u32 w vw un) (bt:∀x∈t,bytN x):
  Calls Tryz.prog 169 #[.string s,vw] w fun e w'=>∃lb,e= .returned (.func (.func 233) #[] lb)∧AskN w' 233 lb (fun x=>decide (x.1=L s)&&decide (x.2.1=un)) t∧Below w.heap.size w w':=by
 have hmf:∀(fn:Fn) (first cap:Array Value) (w:World),(Instr.makeFunc fn first cap).run Tryz.prog w= .ok (.func fn first cap) w:=fun _ _ _ _=>rfl
 obtain ⟨wa,wq,rfl⟩:=rd_slice hw
 have b1:=box_below w (.cells #[.string s] 9)
 have b2:=box_below (w.alloc (.cells #[.string s] 9)) (.cells #[.slice wa un.length wq] 22)
 have z1:=((stands_new w #[.string s] 9).below b2).cell 0 _ rfl
 have z2:=(stands_new (w.alloc (.cells #[.string s] 9)) #[.slice wa un.length wq] 22).cell 0 _ rfl
 rw[size_al] at z2
 have b3:=below_trans b1 b2
 have ha:AskN ((w.alloc (.cells #[.string s] 9)).alloc (.cells #[.slice wa un.length wq] 22)) 233 #[.pointer (some ⟨w.heap.size,0,none⟩), .pointer (some ⟨w.heap.size+1,0,none⟩)] (fun x=>decide (x.1=L s)&&decide (x.2.1=un)) t:=by
  intro W nm vu vp vc x hb hx e0 hu hp hc
  exact w_pcalled1 nm s vu vp vc _ x un _ _ W e0 (bt x hx).1 hu hp hc (below_cell hb z1) (below_cell hb z2) ((hw.below b3).below hb)
 clear z1 z2
 go_enter Tryz.func169,Tryz.ntmps169
 go_wp2_with fail
 go_ret
 exact ⟨_,rfl,ha,b3⟩
set_option maxHeartbeats 1000000 in
set_option maxRecDepth 100000 in
theorem w_pchild1 (nm:ByteArray) (vu vp vc:Value) (x:Nd) (P:Int) (g:Nat) (lb:Array Value) (q:Bool) (B B2:Nat) (W:World) (eg:∀args w,(callFunc g args).run Tryz.prog w= .ok (.enter g args) w) (hu:Rd .u32 W vu x.2.1) (hp:SlR 2 propR W vp x.2.2.2.1) (hc:Rd .u32 W vc x.2.2.2.2) (hs:W.cell? ⟨B,0,none⟩=some (.int .i64 P)) (hs2:W.cell? ⟨B2,0,none⟩=some (.func (.func g) #[] lb))
  (ha:∀W2,Below W.heap.size W W2→Calls Tryz.prog g (#[.agg #[.string nm,vu, .int .i64 x.2.2.1,vp,vc]]++lb) W2 fun e w'=>e= .returned (.bool q)∧Below W2.heap.size W2 w'):
  Calls Tryz.prog 232 #[.agg #[.string nm,vu, .int .i64 x.2.2.1,vp,vc], .pointer (some ⟨B,0,none⟩), .pointer (some ⟨B2,0,none⟩)] W fun e w'=>e= .returned (.bool (decide (x.2.2.1=P)&&q))∧Below W.heap.size W w':=by
 obtain ⟨ua,uq,rfl⟩:=rd_slice hu
 obtain ⟨pa,pq,rfl⟩:=slr_slice hp
 obtain ⟨ca,cq,rfl⟩:=rd_slice hc
 obtain ⟨X,hX⟩:∃X,x.2.2.1=X:=⟨_,rfl⟩
 rw[hX] at ha ⊢
 have st:=stands_new W #[.string nm, .slice ua x.2.1.length uq, .int .i64 X, .slice pa x.2.2.2.1.length pq, .slice ca x.2.2.2.2.length cq] 91
 have bx:=box_below W (.cells #[.string nm, .slice ua x.2.1.length uq, .int .i64 X, .slice pa x.2.2.2.1.length pq, .slice ca x.2.2.2.2.length cq] 91)
 have z0:=st.cell 0 _ rfl
 have z1:=st.cell 1 _ rfl
 have z2:=st.cell 2 _ rfl
 have z3:=st.cell 3 _ rfl
 have z4:=st.cell 4 _ rfl
 have l0:=below_cell bx hs
 have l1:=below_cell bx hs2
 have hca:=ha _ bx
 by_cases h1:X=P
 ·have hq:(X==P)=true:=by simpa using h1
  rw[decide_eq_true h1,Bool.true_and]
  clear h1 hX ha
  go_enter Tryz.func232,Tryz.ntmps232
  go_wp2_with (go_at_fn g;refine hca.mono ?_;rintro e w1 ⟨rfl,d1⟩)
  go_ret
  exact ⟨rfl,below_trans bx d1⟩
 ·have hq:(X==P)=false:=by simpa using h1
  rw[decide_eq_false h1,Bool.false_and]
  clear h1 hX ha hca
  go_enter Tryz.func232,Tryz.ntmps232
  go_wp2_with fail
  go_ret
  exact ⟨rfl,bx⟩
set_option maxHeartbeats 1000000 in
set_option maxRecDepth 100000 in
theorem w_pchild (v:Value) (t:List Nd) (P:Int) (g:Nat) (lb:Array Value) (p:Nd→Bool) (w:World) (eg:∀args w,(callFunc g args).run Tryz.prog w= .ok (.enter g args) w) (h:RdT w v t) (hp:AskN w g lb p t):
  Calls Tryz.prog 168 #[v, .int .i64 P, .func (.func g) #[] lb] w fun e w'=>e= .returned (.int .i64 (fdI (t.findIdx? (fun x=>decide (x.2.2.1=P)&&p x))))∧Below w.heap.size w w':=by
 have hmf:∀(fn:Fn) (first cap:Array Value) (w:World),(Instr.makeFunc fn first cap).run Tryz.prog w= .ok (.func fn first cap) w:=fun _ _ _ _=>rfl
 have ec:∀args w,(callFunc 232 args).run Tryz.prog w= .ok (.enter 232 args) w:=enters_of Tryz.func232 (by kernel_rfl) rfl
 obtain ⟨F,hF⟩:∃F,134=F:=⟨_,rfl⟩
 have b1:=box_below w (.cells #[.int .i64 P] 3)
 have b2:=box_below (w.alloc (.cells #[.int .i64 P] 3)) (.cells #[.func (.func g) #[] lb] F)
 have z1:=((stands_new w #[.int .i64 P] 3).below b2).cell 0 _ rfl
 have z2:=(stands_new (w.alloc (.cells #[.int .i64 P] 3)) #[.func (.func g) #[] lb] F).cell 0 _ rfl
 rw[size_al] at z2
 have b3:=below_trans b1 b2
 have ha:AskN ((w.alloc (.cells #[.int .i64 P] 3)).alloc (.cells #[.func (.func g) #[] lb] F)) 232 #[.pointer (some ⟨w.heap.size,0,none⟩), .pointer (some ⟨w.heap.size+1,0,none⟩)] (fun x=>decide (x.2.2.1=P)&&p x) t:=by
  intro W nm vu vp vc x hb hx e0 hu hq hc
  exact w_pchild1 nm vu vp vc x P g lb (p x) _ _ W eg hu hq hc (below_cell hb z1) (below_cell hb z2) (fun W2 g2=>hp W2 nm vu vp vc x (below_trans (below_trans b3 hb) g2) hx e0 (hu.below g2) (hq.below g2 (propR_below g2)) (hc.below g2))
 have hc:=w_pindexN v t _ _ _ _ ec (h.below b3) ha
 clear z1 z2 ha hp
 subst hF
 go_enter Tryz.func168,Tryz.ntmps168
 go_wp2_with (go_at_call 231;refine hc.mono ?_;rintro e w1 ⟨rfl,d1⟩)
 go_ret
 exact ⟨rfl,below_trans b3 d1⟩
theorem eg_called:∀args w,(callFunc 233 args).run Tryz.prog w= .ok (.enter 233 args) w:=enters_of Tryz.func233 (by kernel_rfl) rfl
set_option maxHeartbeats 1000000 in
theorem w_paddressed (s:ByteArray) (vu:Value) (un:List Int) (w:World) (hs:s.size≤maxLen) (hu:Rd .u32 w vu un):
  Calls Tryz.prog 167 #[.string s,vu] w fun e w'=>e= .returned (.bool (nmF (L s)&&decide (un.length≤4)))∧Below w.heap.size w w':=by
 have hl:=rd_len hu uU (P:=Tryz.prog)
 have cn:=w_pnamed s w hs
 cases hnm:nmF (L s)
 ·rw[hnm] at cn
  clear hnm
  go_enter Tryz.func167,Tryz.ntmps167
  go_wp2_with (go_at_call 170;refine cn.mono ?_;rintro e w1 ⟨rfl,b1⟩)
  go_ret
  exact ⟨rfl,b1⟩
 ·rw[hnm] at cn
  have he:Hid (decide ((un.length:Int)≤4)=(true&&decide (un.length≤4))):=by
   show _=_
   rw[Bool.true_and]
   exact decide_eq_decide.2 ⟨fun h=>by omega,fun h=>by omega⟩
  clear hnm
  go_enter Tryz.func167,Tryz.ntmps167
  go_wp2_with (go_at_call 170;refine cn.mono ?_;rintro e w1 ⟨rfl,b1⟩)
  go_ret
  exact ⟨ret_b he.out,b1⟩
set_option maxHeartbeats 1000000 in
set_option maxRecDepth 100000 in
theorem w_pisroot (nm:ByteArray) (vu vp vc:Value) (x:Nd) (w:World) (e0:strOfNums x.1=nm) (bx:bytesL x.1) (hu:Rd .u32 w vu x.2.1) (hp:SlR 2 propR w vp x.2.2.2.1) (hc:Rd .u32 w vc x.2.2.2.2):
  Calls Tryz.prog 101 #[.agg #[.string nm,vu, .int .i64 x.2.2.1,vp,vc]] w fun e w'=>e= .returned (.bool (rootF x))∧Below w.heap.size w w':=by
 have hq:=str_eq8 nm ⟨#[]⟩ _ (L ⟨#[]⟩) bx (LB_bytes _) e0 (nums_LB _)
 have hl:=rd_len hu uU (P:=Tryz.prog)
 obtain ⟨ua,uq,rfl⟩:=rd_slice hu
 obtain ⟨pa,pq,rfl⟩:=slr_slice hp
 obtain ⟨ca,cq,rfl⟩:=rd_slice hc
 obtain ⟨X,hX⟩:∃X,x.2.2.1=X:=⟨_,rfl⟩
 have hr:rootF x=(decide (x.1=L ⟨#[]⟩)&&(decide (x.2.1=[])&&decide (X= -1))):=by unfold rootF;rw[hX];rfl
 rw[hr,hX]
 have st:=stands_new w #[.string nm, .slice ua x.2.1.length uq, .int .i64 X, .slice pa x.2.2.2.1.length pq, .slice ca x.2.2.2.2.length cq] 91
 have bw:=box_below w (.cells #[.string nm, .slice ua x.2.1.length uq, .int .i64 X, .slice pa x.2.2.2.1.length pq, .slice ca x.2.2.2.2.length cq] 91)
 have z0:=st.cell 0 _ rfl
 have z1:=st.cell 1 _ rfl
 have z2:=st.cell 2 _ rfl
 by_cases h1:x.1=L ⟨#[]⟩
 ·rw[decide_eq_true h1] at hq ⊢
  have hnm:nm=⟨#[]⟩:=by rw[←e0,h1];exact nums_LB _
  clear e0
  subst hnm
  by_cases h2:x.2.1=[]
  ·have h2b:((x.2.1.length:Int)==0)=true:=by rw[h2];rfl
   rw[decide_eq_true h2]
   obtain ⟨n,hn⟩:∃n,x.2.1.length=n:=⟨_,rfl⟩
   rw[hn] at hl z0 z1 z2 h2b st bw ⊢
   clear h1 h2 hX hr hn hq
   go_enter Tryz.func101,Tryz.ntmps101
   go_wp2_with fail
   go_ret
   exact ⟨ret_b (by by_cases h:X= -1 <;> simp[h]),bw⟩
  ·have h2b:((x.2.1.length:Int)==0)=false:=by simp;exact h2
   rw[decide_eq_false h2]
   obtain ⟨n,hn⟩:∃n,x.2.1.length=n:=⟨_,rfl⟩
   rw[hn] at hl z0 z1 z2 h2b st bw ⊢
   clear h1 h2 hX hr hn hq
   go_enter Tryz.func101,Tryz.ntmps101
   go_wp2_with fail
   go_ret
   exact ⟨rfl,bw⟩
 ·rw[decide_eq_false h1] at hq ⊢
  have hE:¬nm.toList=[]:=by intro h;rw[h] at hq;exact absurd hq (by decide+kernel)
  clear h1 e0 hX hr hq
  go_enter Tryz.func101,Tryz.ntmps101
  go_wp2_with fail
  go_ret
  exact ⟨rfl,bw⟩
theorem tw_idx (t:List Nd) (p:Int) (nm un:List Int):twF t p nm un=(t.findIdx? (fun x=>decide (x.2.2.1=p)&&(decide (x.1=nm)&&decide (x.2.1=un)))).isSome:=by
 unfold twF
 rw[List.findIdx?_isSome]
theorem fdI_none (o:Option Nat):(fdI o== -1)= !o.isSome:=by
 cases o with
 |none=>rfl
 |some k=>
  simp only[fdI,Option.isSome_some,Bool.not_true]
  simp
theorem fdI_some (o:Option Nat):(fdI o != -1)=o.isSome:=by
 unfold bne
 rw[fdI_none,Bool.not_not]
set_option maxHeartbeats 2000000 in
set_option maxRecDepth 100000 in
theorem w_pplaced (v:Value) (t:List Nd) (nm:ByteArray) (vu vp vc:Value) (x:Nd) (w:World) (h:RdT w v t) (bt:∀x∈t,bytN x) (e0:strOfNums x.1=nm) (bx:bytesL x.1) (lx:x.1.length≤maxLen) (hu:Rd .u32 w vu x.2.1) (hp:SlR 2 propR w vp x.2.2.2.1) (hc:Rd .u32 w vc x.2.2.2.2):
  Calls Tryz.prog 102 #[v, .agg #[.string nm,vu, .int .i64 x.2.2.1,vp,vc]] w fun e w'=>e= .returned (.bool (nmF x.1&&(decide (x.2.1.length≤4)&&(decide (0≤x.2.2.1)&&(decide (x.2.2.1 < t.length)&& !twF t x.2.2.1 x.1 x.2.1)))))∧Below w.heap.size w w':=by
 have hl:=slr_len h uN (P:=Tryz.prog)
 have hL:L nm=x.1:=by rw[←e0];exact LB_nums x.1 bx
 have hsz:nm.size≤maxLen:=by have:=LB_len nm;rw[show LB nm=x.1 from hL] at this;omega
 obtain ⟨X,hX⟩:∃X,x.2.2.1=X:=⟨_,rfl⟩
 rw[hX]
 obtain ⟨ua,uq,rfl⟩:=rd_slice hu
 obtain ⟨pa,pq,rfl⟩:=slr_slice hp
 obtain ⟨ca,cq,rfl⟩:=rd_slice hc
 have st:=stands_new w #[.string nm, .slice ua x.2.1.length uq, .int .i64 X, .slice pa x.2.2.2.1.length pq, .slice ca x.2.2.2.2.length cq] 91
 have bw:=box_below w (.cells #[.string nm, .slice ua x.2.1.length uq, .int .i64 X, .slice pa x.2.2.2.1.length pq, .slice ca x.2.2.2.2.length cq] 91)
 have ca1:=w_paddressed nm _ x.2.1 _ hsz (hu.below bw)
 rw[hL] at ca1
 have z0:=st.cell 0 _ rfl
 have z1:=st.cell 1 _ rfl
 have z2:=st.cell 2 _ rfl
 cases hA:nmF x.1&&decide (x.2.1.length≤4)
 ·have hR:Hid ((nmF x.1&&(decide (x.2.1.length≤4)&&(decide (0≤X)&&(decide (X < t.length)&& !twF t X x.1 x.2.1))))=false):=by show _=_;rw[←Bool.and_assoc,hA,Bool.false_and]
  rw[hA] at ca1
  clear hA hL e0 hX
  go_enter Tryz.func102,Tryz.ntmps102
  go_wp2_with (go_at_call 167;refine ca1.mono ?_;rintro e w1 ⟨rfl,b1⟩)
  go_ret
  exact ⟨ret_b hR.out.symm,below_trans bw b1⟩
 ·rw[hA] at ca1
  have hR:Hid ((nmF x.1&&(decide (x.2.1.length≤4)&&(decide (0≤X)&&(decide (X < t.length)&& !twF t X x.1 x.2.1))))=(decide (0≤X)&&(decide (X < t.length)&& !twF t X x.1 x.2.1))):=by show _=_;rw[←Bool.and_assoc,hA,Bool.true_and]
  clear hA
  by_cases h0:X < 0
  ·have hR2:Hid ((decide (0≤X)&&(decide (X < t.length)&& !twF t X x.1 x.2.1))=false):=by show _=_;rw[decide_eq_false (by omega),Bool.false_and]
   clear hL e0 hX
   go_enter Tryz.func102,Tryz.ntmps102
   go_wp2_with (go_at_call 167;refine ca1.mono ?_;rintro e w1 ⟨rfl,b1⟩;have st1:=st.below b1;have y0:=st1.cell 0 _ rfl;have y1:=st1.cell 1 _ rfl;have y2:=st1.cell 2 _ rfl)
   go_ret
   exact ⟨ret_b (by rw[hR.out,hR2.out]),below_trans bw b1⟩
  ·by_cases h1:(t.length:Int)≤X
   ·have hR2:Hid ((decide (0≤X)&&(decide (X < t.length)&& !twF t X x.1 x.2.1))=false):=by show _=_;rw[decide_eq_false (show ¬X < t.length by omega),Bool.false_and,Bool.and_false]
    clear hL e0 hX
    go_enter Tryz.func102,Tryz.ntmps102
    go_wp2_with (go_at_call 167;refine ca1.mono ?_;rintro e w1 ⟨rfl,b1⟩;have st1:=st.below b1;have y0:=st1.cell 0 _ rfl;have y1:=st1.cell 1 _ rfl;have y2:=st1.cell 2 _ rfl)
    go_ret
    exact ⟨ret_b (by rw[hR.out,hR2.out]),below_trans bw b1⟩
   ·have hR2:Hid ((decide (0≤X)&&(decide (X < t.length)&& !twF t X x.1 x.2.1))= !twF t X x.1 x.2.1):=by show _=_;rw[decide_eq_true (show 0≤X by omega),decide_eq_true (show X < t.length by omega),Bool.true_and,Bool.true_and]
    have cc:=fun W (g:Below w.heap.size w W)=>w_pcalled nm _ x.2.1 t W (hu.below g) bt
    have ck:=fun W lb (g:Below w.heap.size w W) ha=>w_pchild v t X _ lb (fun y:Nd=>decide (y.1=x.1)&&decide (y.2.1=x.2.1)) W eg_called (h.below g) ha
    rw[hL] at cc
    have CC:=hid cc
    have CK:=hid ck
    have hT:=hid (tw_idx t X x.1 x.2.1)
    clear hL e0 hX cc ck
    go_enter Tryz.func102,Tryz.ntmps102
    go_wp2_with (go_at_call 167;refine ca1.mono ?_;rintro e w1 ⟨rfl,b1⟩;have st1:=st.below b1;have y0:=st1.cell 0 _ rfl;have y1:=st1.cell 1 _ rfl;have y2:=st1.cell 2 _ rfl)
    have Z:Hid (∀W,Below w1.heap.size w1 W→W.cell? ⟨w.heap.size,0,none⟩=some (.string nm)∧W.cell? ⟨w.heap.size,1,none⟩=some (.slice ua x.2.1.length uq)∧W.cell? ⟨w.heap.size,2,none⟩=some (.int .i64 X)):=fun W g=>⟨below_cell g y0,below_cell g y1,below_cell g y2⟩
    have HB:=hid (below_trans bw b1)
    have hbd:Hid (Below w.heap.size w w1.drew):=below_drewN HB.out 1
    have hrd:Hid (Below w1.heap.size w1 w1.drew):=below_drewN (Below.refl _ _) 1
    clear y0 y1 y2 z0 z1 z2 st st1 bw b1 ca1
    go_region_held (fun W=>W.cell? ⟨w.heap.size,0,none⟩=some (.string nm)∧W.cell? ⟨w.heap.size,1,none⟩=some (.slice ua x.2.1.length uq)∧W.cell? ⟨w.heap.size,2,none⟩=some (.int .i64 X)) (first|with_reducible exact Z.out _ hrd.out|with_reducible exact Z.out _ R2.out|with_reducible exact Z.out _ R3.out)
     (first
      |(go_at_call 169;refine (CC.out _ (by with_reducible exact hbd.out)).mono ?_;rintro e w2 ⟨lb,rfl,ha,b2⟩;have A2:=hid ha;have G2:Hid (Below w.heap.size w w2):=below_trans hbd.out b2;have R2:Hid (Below w1.heap.size w1 w2):=below_trans hrd.out b2;clear ha b2)
      |(go_at_call 168;refine (CK.out _ lb (by with_reducible exact G2.out) A2.out).mono ?_;rintro e w3 ⟨rfl,b3⟩;have G3:Hid (Below w.heap.size w w3):=below_trans G2.out b3;have R3:Hid (Below w1.heap.size w1 w3):=below_trans R2.out b3;clear b3))
    go_wp2_with fail
    go_ret
    refine ⟨ret_b ?_,G3.out⟩
    rw[hR.out,hR2.out,hT.out]
    exact fdI_none _
theorem dr_trans {a b c:World} (h:Dr a b) (g:Dr b c):Dr a c:=by
 obtain ⟨m,rfl⟩:=h
 obtain ⟨n,rfl⟩:=g
 exact ⟨m+n,by rw[World.drewN_drewN]⟩
set_option maxHeartbeats 1000000 in
set_option maxRecDepth 100000 in
theorem w_innQ (c:Int) (w:World) (h0:0≤c) (h1:c < 256):Calls Tryz.prog 235 #[.int .u8 c] w fun e w'=>e= .returned (.bool (nmC c))∧Dr w w':=by
 rcases (show c < 33∨126 < c∨(65≤c∧c≤90)∨(33≤c∧c < 65)∨(90 < c∧c≤126) by omega) with h|h|⟨h,g⟩|⟨h,g⟩|⟨h,g⟩
 ·have e:nmC c=false:=by unfold nmC;simp;omega
  rw[e]
  clear e
  go_enter Tryz.func235,Tryz.ntmps235
  go_wp2_with fail
  go_ret
  exact ⟨rfl,dr_refl _⟩
 ·have e:nmC c=false:=by unfold nmC;simp;omega
  rw[e]
  clear e
  go_enter Tryz.func235,Tryz.ntmps235
  go_wp2_with fail
  go_ret
  exact ⟨rfl,dr_refl _⟩
 ·have e:nmC c=false:=by unfold nmC;simp;omega
  rw[e]
  clear e
  go_enter Tryz.func235,Tryz.ntmps235
  go_wp2_with fail
  go_ret
  exact ⟨rfl,dr_refl _⟩
 ·go_enter Tryz.func235,Tryz.ntmps235
  go_wp2_with (go_at_call 265;refine (w_sib _ c _ h0 h1).mono ?_;rintro e w1 ⟨i,rfl,hi,rfl⟩;have H:=hid (atB_bar hi (by omega) (by omega) (by omega));clear hi)
  go_ret
  exact ⟨ret_b (by first|exact H.out|(rw[←H.out,decide_eq_false (show ¬c≤90 by omega)];rfl)),dr_refl _⟩
 ·go_enter Tryz.func235,Tryz.ntmps235
  go_wp2_with (go_at_call 265;refine (w_sib _ c _ h0 h1).mono ?_;rintro e w1 ⟨i,rfl,hi,rfl⟩;have H:=hid (atB_bar hi (by omega) (by omega) (by omega));clear hi)
  go_ret
  exact ⟨ret_b (by first|exact H.out|(rw[←H.out,decide_eq_false (show ¬c≤90 by omega)];rfl)),dr_refl _⟩
set_option maxHeartbeats 1000000 in
set_option maxRecDepth 100000 in
theorem w_pnamedQ (s:ByteArray) (w:World) (hs:s.size≤maxLen):
  Calls Tryz.prog 170 #[.string s] w fun e w'=>e= .returned (.bool (nmF (L s)))∧Dr w w':=by
 have hs2:=hs
 unfold maxLen at hs2
 by_cases h0:s.size=0
 ·have hs:s=⟨#[]⟩:=by
   apply ByteArray.ext
   exact Array.eq_empty_of_size_eq_zero h0
  subst hs
  go_enter Tryz.func170,Tryz.ntmps170
  go_wp2_with fail
  go_ret
  exact ⟨rfl,dr_refl _⟩
 ·have hemp:s.toList.isEmpty=false:=by
   rw[←decide_eq_emptyBytes]
   exact decide_eq_false (fun h=>h0 (by rw[h];rfl))
  by_cases h31:(31:Int) < s.size
  ·have e:nmF (L s)=false:=by unfold nmF;rw[L_len,show decide (1≤s.size∧s.size≤31)=false by simp;omega];rfl
   rw[e]
   clear e
   go_enter Tryz.func170,Tryz.ntmps170
   go_wp2_with fail
   go_ret
   exact ⟨rfl,dr_refl _⟩
  ·go_enter Tryz.func170,Tryz.ntmps170
   go_wp2_with fail
   go_loopw [13] (fun I wx=>∃(k:Nat),(k:Int)≤s.size∧I= .int .i64 k∧Hid (((L s).take k).all nmC=true)∧Dr w wx) (fun I _=>(s.size - intOf I).toNat)
   case atStart=>exact ⟨0,by omega,rfl,hid rfl,dr_refl _⟩
   case round=>
    obtain ⟨k,hk,rfl,ha,hb⟩:=hrel
    by_cases hlt:(k:Int) < s.size
    ·have hkk:k < s.size:=by omega
     obtain ⟨c,hc⟩:∃c,(s[k].toNat:Int)=c:=⟨_,rfl⟩
     have hcb:=L_bd s k hkk
     rw[hc] at hcb
     obtain ⟨c0,c1⟩:=hcb
     have hLd:Hid (L s=(L s).take k++c::(L s).drop (k+1)):=by
      show _=_
      rw[←hc,←L_drop s k hkk,List.take_append_drop]
     have hLt:Hid ((L s).take (k+1)=(L s).take k++[c]):=by show _=_;rw[←hc];exact L_take s k hkk
     have hrun:=run_at (w:=wr) s k hkk hs
     rw[hc] at hrun
     have cn:=w_innQ c wr c0 c1
     cases hcc:nmC c
     ·have hf:Hid (nmF (L s)=false):=by show _=_;rw[hLd.out];exact nm_mid _ _ _ hcc
      rw[hcc] at cn
      clear hcc hLd hLt hc
      go_wp2_with (go_at_call 235;refine cn.mono ?_;rintro e w1 ⟨rfl,b1⟩)
      go_ret
      exact ⟨ret_b hf.out.symm,dr_trans hb b1⟩
     ·have ha2:Hid (((L s).take (k+1)).all nmC=true):=by
       show _=_
       rw[hLt.out,List.all_append,ha.out]
       simp[hcc]
      rw[hcc] at cn
      clear hcc hLd hLt hc
      go_wp2_with (go_at_call 235;refine cn.mono ?_;rintro e w1 ⟨rfl,b1⟩)
      go_roundw
      case rel=>exact ⟨k+1,by omega,by go_num,ha2,dr_trans hb b1⟩
      case measure=>simp[intOf];omega
    ·have hall:=ha.out
     rw[List.take_of_length_le (by rw[L_len];omega)] at hall
     have hf:Hid (nmF (L s)=true):=by show _=_;unfold nmF;rw[hall,L_len];simp;omega
     clear hall
     obtain rfl:k=s.size:=by omega
     go_wp2_with fail
     go_ret
     exact ⟨ret_b hf.out.symm,hb⟩
theorem fdI_ge (o:Option Nat):(fdI o != -1)=decide ((0:Int)≤fdI o):=by
 cases o with
 |none=>rfl
 |some k=>
  have h0:(0:Int)≤fdI (some k):=Int.natCast_nonneg k
  rw[decide_eq_true h0,fdI_some]
  rfl
set_option maxHeartbeats 2000000 in
set_option maxRecDepth 100000 in
theorem w_ppropsformed (v:Value) (l:List Pp) (w:World) (h:SlR 2 propR w v l) (bl:∀x∈l,bytesL x.1) (ll:∀x∈l,x.1.length≤maxLen):
  Calls Tryz.prog 103 #[v] w fun e w'=>e= .returned (.bool (decide (l.length≤16)&&okR l))∧Below w.heap.size w w':=by
 have hl:=slr_len h uR (P:=Tryz.prog)
 by_cases h16:(16:Int) < l.length
 ·have hf:Hid ((decide (l.length≤16)&&okR l)=false):=by show _=_;rw[decide_eq_false (by omega),Bool.false_and]
  go_enter Tryz.func103,Tryz.ntmps103
  go_wp2_with fail
  go_ret
  exact ⟨ret_b hf.out.symm,Below.refl _ _⟩
 ·have he:(decide (l.length≤16)&&okR l)=okR l:=by rw[decide_eq_true (by omega),Bool.true_and]
  rw[he]
  clear he
  go_enter Tryz.func103,Tryz.ntmps103
  go_wp2_with fail
  go_loopw [10] (fun I wx=>∃k:Nat,(k:Int)≤l.length∧I= .int .i64 k∧Hid (∀j (g:j < k) (hj:j < l.length),okP l j l[j]=true)∧Below w.heap.size w wx) (fun I _=>(l.length - intOf I).toNat)
  case atStart=>exact ⟨0,by omega,rfl,hid (fun j g=>by omega),Below.refl _ _⟩
  case round=>
   obtain ⟨k,hk,rfl,hok,hb⟩:=hrel
   by_cases hlt:(k:Int) < l.length
   ·have hkl:k < l.length:=by omega
    obtain ⟨b0,o0,nm,vd,r0,f0,f1,e0,hd0⟩:=prp_at8 (h.below hb (propR_below hb)) k hkl
    have hld:=rd_len hd0 uB (P:=Tryz.prog)
    obtain ⟨da,dq,rfl⟩:=rd_slice hd0
    have hL:L nm=l[k].1:=by rw[←e0];exact LB_nums _ (bl _ (List.getElem_mem hkl))
    have hsz:nm.size≤maxLen:=by
     have h1:=LB_len nm
     rw[show LB nm=l[k].1 from hL] at h1
     have:=ll _ (List.getElem_mem hkl)
     omega
    obtain ⟨vh,hh,hhR⟩:=slr_head h uR zR k (by omega)
    have st:=stands_new wr #[.string nm, .slice da l[k].2.length dq] 93
    have hbx:=box_below wr (.cells #[.string nm, .slice da l[k].2.length dq] 93)
    have hb0:=below_trans hb hbx
    have cn:=fun W=>w_pnamed nm W hsz
    have cnq:=fun W=>w_pnamedQ nm W hsz
    have cp:=fun W (g:Below w.heap.size w W)=>w_pplace vh (l.take k) nm W (hhR.below g (propR_below g)) (fun x hx=>bl x (List.mem_of_mem_take hx))
    simp only[hL] at cn cp cnq
    obtain ⟨n,hn⟩:∃n,l[k].2.length=n:=⟨_,rfl⟩
    have bad:=fun g=>hid (okR_bad k hkl (okP_bad g))
    have good:=fun (g1:nmF (l[k]'hkl).1=true) (g2:¬256 < (l[k]'hkl).2.length) (g3:¬(0:Int)≤fdI (pfF (l.take k) (l[k]'hkl).1))=>hid (okP_good (l:=l) (k:=k) (x:=l[k]'hkl) g1 g2 g3)
    rw[hn] at hld f1 st hbx hb0
    obtain ⟨F,hF⟩:∃F,fdI (pfF (l.take k) l[k].1)=F:=⟨_,rfl⟩
    simp only[hF] at cp
    cases hnm:nmF l[k].1
    ·have hf:=bad (Or.inl hnm)
     simp only[hnm] at cnq
     clear hnm hL e0 hF bad good cp hn cn
     have CN:=hid cnq
     clear cnq
     go_wp2_with fail
     generalize wr.alloc (.cells #[.string nm, .slice da n dq] 93)=w1 at st hbx hb0 ⊢
     have Z:Hid (∀W,Below w1.heap.size w1 W→W.cell? ⟨wr.heap.size,0,none⟩=some (.string nm)∧W.cell? ⟨wr.heap.size,1,none⟩=some (.slice da n dq)):=fun W g=>⟨(st.below g).cell 0 _ rfl,(st.below g).cell 1 _ rfl⟩
     have hrd:Hid (Below w1.heap.size w1 w1.drew):=below_drewN (Below.refl _ _) 1
     have B0:=hid hb0
     clear st hbx hb0
     obtain ⟨y0,y1⟩:=Z.out _ (Below.refl _ _)
     go_quiet (first|(go_at_call 170;exact Calls.quiet_of (CN.out _)))
     go_wp2_with fail
     go_ret
     exact ⟨ret_b hf.out.symm,below_drewN B0.out _⟩
    ·simp only[hnm] at cn cnq
     by_cases h256:(256:Int) < n
     ·have hf:=bad (Or.inr (Or.inl (by omega)))
      have hd:decide ((256:Int) < n)=true:=decide_eq_true h256
      clear hnm hL e0 hF bad good cp hn cn
      have CN:=hid cnq
      clear cnq
      go_wp2_with fail
      generalize wr.alloc (.cells #[.string nm, .slice da n dq] 93)=w1 at st hbx hb0 ⊢
      have Z:Hid (∀W,Below w1.heap.size w1 W→W.cell? ⟨wr.heap.size,0,none⟩=some (.string nm)∧W.cell? ⟨wr.heap.size,1,none⟩=some (.slice da n dq)):=fun W g=>⟨(st.below g).cell 0 _ rfl,(st.below g).cell 1 _ rfl⟩
      have hrd:Hid (Below w1.heap.size w1 w1.drew):=below_drewN (Below.refl _ _) 1
      have B0:=hid hb0
      clear st hbx hb0
      obtain ⟨y0,y1⟩:=Z.out _ (Below.refl _ _)
      go_quiet (first|(go_at_call 170;exact Calls.quiet_of (CN.out _)))
      go_wp2_with fail
      go_ret
      exact ⟨ret_b hf.out.symm,below_drewN B0.out _⟩
     ·have hd:decide ((256:Int) < n)=false:=decide_eq_false h256
      have hF2:(F != -1)=decide ((0:Int)≤F):=by rw[←hF];exact fdI_ge _
      cases hFc:decide ((0:Int)≤F)
      ·have hF3:(F != -1)=false:=by rw[hF2,hFc]
       have hg:=good hnm (by omega) (by rw[hF];exact of_decide_eq_false hFc)
       have hok2:Hid (∀j (g:j < k+1) (hj:j < l.length),okP l j l[j]=true):=by
        show ∀j _ _,_
        intro j g hj
        by_cases hjk:j < k
        ·exact hok.out j hjk hj
        ·have:j=k:=by omega
         subst this
         exact hg.out
       clear hnm hL e0 hF bad good hn hF2 hFc hg h256
       have CN:=hid cn
       have CP:=hid cp
       clear cn cp
       go_wp2_with fail
       generalize wr.alloc (.cells #[.string nm, .slice da n dq] 93)=w1 at st hbx hb0 ⊢
       have Z:Hid (∀W,Below w1.heap.size w1 W→W.cell? ⟨wr.heap.size,0,none⟩=some (.string nm)∧W.cell? ⟨wr.heap.size,1,none⟩=some (.slice da n dq)):=fun W g=>⟨(st.below g).cell 0 _ rfl,(st.below g).cell 1 _ rfl⟩
       have hrd:Hid (Below w1.heap.size w1 w1.drew):=below_drewN (Below.refl _ _) 1
       have B0:=hid hb0
       clear st hbx hb0
       go_region_held (fun W=>W.cell? ⟨wr.heap.size,0,none⟩=some (.string nm)∧W.cell? ⟨wr.heap.size,1,none⟩=some (.slice da n dq)) (first|with_reducible exact Z.out _ hrd.out|with_reducible exact Z.out _ R2.out|with_reducible exact Z.out _ R3.out)
        (first
         |(go_at_call 170;refine (CN.out _).mono ?_;rintro e w2 ⟨rfl,b2⟩;have R2:Hid (Below w1.heap.size w1 w2):=below_trans hrd.out b2;clear b2)
         |(go_at_call 171;refine (CP.out _ (below_trans B0.out R2.out)).mono ?_;rintro e w3 ⟨rfl,b3⟩;have R3:Hid (Below w1.heap.size w1 w3):=below_trans R2.out b3;clear b3))
       go_wp2_with fail
       go_roundw
       case rel=>exact ⟨k+1,by omega,by go_num,hok2,below_trans B0.out R3.out⟩
       case measure=>simp[intOf];omega
      ·have hF3:(F != -1)=true:=by rw[hF2,hFc]
       have hf:=bad (Or.inr (Or.inr (by rw[hF];exact of_decide_eq_true hFc)))
       clear hnm hL e0 hF bad good hn hF2 hFc h256
       have CN:=hid cn
       have CP:=hid cp
       clear cn cp
       go_wp2_with fail
       generalize wr.alloc (.cells #[.string nm, .slice da n dq] 93)=w1 at st hbx hb0 ⊢
       have Z:Hid (∀W,Below w1.heap.size w1 W→W.cell? ⟨wr.heap.size,0,none⟩=some (.string nm)∧W.cell? ⟨wr.heap.size,1,none⟩=some (.slice da n dq)):=fun W g=>⟨(st.below g).cell 0 _ rfl,(st.below g).cell 1 _ rfl⟩
       have hrd:Hid (Below w1.heap.size w1 w1.drew):=below_drewN (Below.refl _ _) 1
       have B0:=hid hb0
       clear st hbx hb0
       go_region_held (fun W=>W.cell? ⟨wr.heap.size,0,none⟩=some (.string nm)∧W.cell? ⟨wr.heap.size,1,none⟩=some (.slice da n dq)) (first|with_reducible exact Z.out _ hrd.out|with_reducible exact Z.out _ R2.out|with_reducible exact Z.out _ R3.out)
        (first
         |(go_at_call 170;refine (CN.out _).mono ?_;rintro e w2 ⟨rfl,b2⟩;have R2:Hid (Below w1.heap.size w1 w2):=below_trans hrd.out b2;clear b2)
         |(go_at_call 171;refine (CP.out _ (below_trans B0.out R2.out)).mono ?_;rintro e w3 ⟨rfl,b3⟩;have R3:Hid (Below w1.heap.size w1 w3):=below_trans R2.out b3;clear b3))
       go_wp2_with fail
       go_ret
       exact ⟨ret_b hf.out.symm,below_trans B0.out R3.out⟩
   ·have hf:Hid (okR l=true):=by
     show _=_
     unfold okR
     rw[decide_eq_true_eq]
     intro j hj
     exact hok.out j (by omega) hj
    go_wp2_with fail
    go_ret
    exact ⟨ret_b hf.out.symm,hb⟩
set_option maxHeartbeats 2000000 in
set_option maxRecDepth 100000 in
theorem w_p8formed' (v:Value) (t:List Nd) (w:World) (h:RdT w v t) (bt:∀x∈t,bytN x) (ls:∀x∈t,lenN x):
  Calls Tryz.prog 70 #[v] w fun e w'=>e= .returned (.bool (frmT t))∧Below w.heap.size w w':=by
 have hla:=slr_len h uN (P:=Tryz.prog)
 have hm:=slr_max h
 unfold maxLen at hm
 by_cases h0:t.length=0
 ·have hf:=hid (frm_len (Or.inl h0))
  have hl1:((t.length:Int)==0)=true:=by simp;exact List.eq_nil_of_length_eq_zero h0
  obtain ⟨n,hn⟩:∃n,t.length=n:=⟨_,rfl⟩
  rw[hn] at hla hl1
  clear h0 hn hm
  go_enter Tryz.func70,Tryz.ntmps70
  go_wp2_with fail
  go_ret
  exact ⟨ret_b hf.out.symm,Below.refl _ _⟩
 ·have hl1:((t.length:Int)==0)=false:=by simp;intro h;exact h0 (by rw[h];rfl)
  by_cases h32:(32:Int) < t.length
  ·have hf:=hid (frm_len (Or.inr (show 32 < t.length by omega)))
   clear h0
   go_enter Tryz.func70,Tryz.ntmps70
   go_wp2_with fail
   go_ret
   exact ⟨ret_b hf.out.symm,Below.refl _ _⟩
  ·have ht0:0 < t.length:=by omega
   obtain ⟨b0,o0,N0,u0,p0,k0,r0,z0,z1,z2,z3,z4,e0,hu0,hp0,hc0⟩:=nod_at h 0 ht0
   have r0':∀w',(Instr.indexAt 27 v (.int .i64 0)).run Tryz.prog w'= .ok (.pointer (some ⟨b0,o0,none⟩)) w':=r0
   have cr:=w_pisroot N0 u0 p0 k0 t[0] w e0 (bt _ (List.getElem_mem ht0)).1 hu0 hp0 hc0
   obtain ⟨ua0,uq0,rfl⟩:=rd_slice hu0
   obtain ⟨pa0,pq0,rfl⟩:=slr_slice hp0
   obtain ⟨ca0,cq0,rfl⟩:=rd_slice hc0
   obtain ⟨P0,hP0⟩:∃X,t[0].2.2.1=X:=⟨_,rfl⟩
   rw[hP0] at z2 cr
   cases hrt:rootF t[0]
   ·have hf:=hid (frm_root ht0 hrt)
    rw[hrt] at cr
    clear hrt hP0 e0 r0 h0
    go_enter Tryz.func70,Tryz.ntmps70
    go_wp2_with (go_at_call 101;refine cr.mono ?_;rintro e w1 ⟨rfl,b1⟩)
    go_ret
    exact ⟨ret_b hf.out.symm,b1⟩
   ·rw[hrt] at cr
    have hroot:=hid hrt
    have hlen32:Hid (t.length≤32∧1≤t.length):=⟨by omega,by omega⟩
    clear hrt hP0 e0 r0 h0
    go_enter Tryz.func70,Tryz.ntmps70
    go_wp2_with (go_at_call 101;refine cr.mono ?_;rintro e w1 ⟨rfl,b1⟩)
    clear cr z0 z1 z2 z3 z4 r0'
    go_loopw [22] (fun I wx=>∃i:Nat,(i:Int)≤t.length∧I= .int .i64 i∧Hid (∀j (g:j < i) (hj:j < t.length),okN t j t[j]=true)∧Below w.heap.size w wx) (fun I _=>(t.length - intOf I).toNat)
    case atStart=>exact ⟨0,by omega,rfl,hid (fun j g=>by omega),b1⟩
    case round=>
     clear b1
     obtain ⟨i,hi,rfl,hok,hb⟩:=hrel
     by_cases hlt:(i:Int) < t.length
     ·have hil:i < t.length:=by omega
      obtain ⟨b1,o1,nm,u1,p1,c1,r1,f0,f1,f2,f3,f4,e1,hu1,hp1,hc1⟩:=nod_at (h.below hb) i hil
      obtain ⟨vh,hh,hhR⟩:=slr_head h uN zN i (by omega)
      have hbt:=bt _ (List.getElem_mem hil)
      have hlt2:=ls _ (List.getElem_mem hil)
      have cq:=fun W (g:Below wr.heap.size wr W)=>w_pplaced vh (t.take i) nm u1 p1 c1 t[i] W (RdT.below hhR (below_trans hb g)) (fun x hx=>bt x (List.mem_of_mem_take hx)) e1 hbt.1 hlt2.1 (hu1.below g) (hp1.below g (propR_below g)) (hc1.below g)
      have cf:=fun W (g:Below wr.heap.size wr W)=>w_ppropsformed p1 t[i].2.2.2.1 W (hp1.below g (propR_below g)) (fun x hx=>(hbt.2 x hx).1) (fun x hx=>hlt2.2 x hx)
      have hlc:=rd_len hc1 uU (P:=Tryz.prog)
      have htl:(t.take i).length=i:=by rw[List.length_take];omega
      rw[htl] at cq
      obtain ⟨ua,uq,rfl⟩:=rd_slice hu1
      obtain ⟨pa,pq,rfl⟩:=slr_slice hp1
      obtain ⟨ca,cq',rfl⟩:=rd_slice hc1
      have hokA:okA t i t[i]=(nmF t[i].1&&(decide (t[i].2.1.length≤4)&&(decide (0≤t[i].2.2.1)&&(decide (t[i].2.2.1 < i)&& !twF (t.take i) t[i].2.2.1 t[i].1 t[i].2.1)))):=rfl
      rw[←hokA] at cq
      clear hokA
      obtain ⟨P,hP⟩:∃X,t[i].2.2.1=X:=⟨_,rfl⟩
      rw[hP] at f2 cq
      have st:=stands_new wr #[.string nm, .slice ua t[i].2.1.length uq, .int .i64 P, .slice pa t[i].2.2.2.1.length pq, .slice ca t[i].2.2.2.2.length cq'] 91
      have hbx:=box_below wr (.cells #[.string nm, .slice ua t[i].2.1.length uq, .int .i64 P, .slice pa t[i].2.2.2.1.length pq, .slice ca t[i].2.2.2.2.length cq'] 91)
      have hokN:okN t i t[i]=((decide (i=0)||okA t i t[i])&&((decide (t[i].2.2.2.1.length≤16)&&okR t[i].2.2.2.1)&&decide (t[i].2.2.2.2.length≤16))):=by
       unfold okN
       cases decide (t[i].2.2.2.1.length≤16) <;> cases decide (t[i].2.2.2.2.length≤16) <;> cases okR t[i].2.2.2.1 <;> rfl
      have HN:=hid hokN
      clear hokN hP e1 htl
      have hbad:=fun g=>hid (frm_bad i hil g)
      obtain ⟨m,hm2⟩:∃m,t[i].2.2.2.2.length=m:=⟨_,rfl⟩
      rw[hm2] at f4 st hbx hlc HN
      simp only[hm2] at cq
      clear hm2
      cases hA:(decide (i=0)||okA t i t[i])
      ·have hf:=hbad (by rw[HN.out,hA,Bool.false_and])
       have hi0:((i:Int) !=0)=true:=by
        rw[Bool.or_eq_false_iff,decide_eq_false_iff_not] at hA
        simp
        exact hA.1
       have hq:okA t i t[i]=false:=(Bool.or_eq_false_iff.1 hA).2
       rw[hq] at cq
       clear hq hA hbad HN cf
       have CQ:=hid cq
       clear cq
       go_wp2_with fail
       generalize wr.alloc (.cells #[.string nm, .slice ua t[i].2.1.length uq, .int .i64 P, .slice pa t[i].2.2.2.1.length pq, .slice ca m cq'] 91)=w1 at st hbx ⊢
       have Z:Hid (∀W,Below w1.heap.size w1 W→W.cell? ⟨wr.heap.size,0,none⟩=some (.string nm)∧W.cell? ⟨wr.heap.size,1,none⟩=some (.slice ua t[i].2.1.length uq)∧W.cell? ⟨wr.heap.size,2,none⟩=some (.int .i64 P)∧W.cell? ⟨wr.heap.size,3,none⟩=some (.slice pa t[i].2.2.2.1.length pq)∧W.cell? ⟨wr.heap.size,4,none⟩=some (.slice ca m cq')):=fun W g=>⟨(st.below g).cell 0 _ rfl,(st.below g).cell 1 _ rfl,(st.below g).cell 2 _ rfl,(st.below g).cell 3 _ rfl,(st.below g).cell 4 _ rfl⟩
       have hrd:Hid (Below w1.heap.size w1 w1.drew):=below_drewN (Below.refl _ _) 1
       have B0:=hid hbx
       clear st hbx
       go_region_held (fun W=>W.cell? ⟨wr.heap.size,0,none⟩=some (.string nm)∧W.cell? ⟨wr.heap.size,1,none⟩=some (.slice ua t[i].2.1.length uq)∧W.cell? ⟨wr.heap.size,2,none⟩=some (.int .i64 P)∧W.cell? ⟨wr.heap.size,3,none⟩=some (.slice pa t[i].2.2.2.1.length pq)∧W.cell? ⟨wr.heap.size,4,none⟩=some (.slice ca m cq')) (first|with_reducible exact Z.out _ hrd.out|with_reducible exact Z.out _ R2.out)
        (first|(go_at_call 102;refine (CQ.out _ (below_trans B0.out hrd.out)).mono ?_;rintro e w2 ⟨rfl,b2⟩;have R2:Hid (Below w1.heap.size w1 w2):=below_trans hrd.out b2;clear b2))
       go_wp2_with fail
       go_ret
       exact ⟨ret_b hf.out.symm,below_trans hb (below_trans B0.out R2.out)⟩
      ·rw[hA,Bool.true_and] at HN
       by_cases hz:i=0
       ·have hi0:((i:Int) !=0)=false:=by simp[hz]
        clear hA cq hz
        cases hPF:(decide (t[i].2.2.2.1.length≤16)&&okR t[i].2.2.2.1)
        ·have hf:=hbad (by rw[HN.out,hPF,Bool.false_and])
         rw[hPF] at cf
         clear hPF hbad HN
         have CF:=hid cf
         clear cf
         go_wp2_with fail
         generalize wr.alloc (.cells #[.string nm, .slice ua t[i].2.1.length uq, .int .i64 P, .slice pa t[i].2.2.2.1.length pq, .slice ca m cq'] 91)=w1 at st hbx ⊢
         have Z:Hid (∀W,Below w1.heap.size w1 W→W.cell? ⟨wr.heap.size,0,none⟩=some (.string nm)∧W.cell? ⟨wr.heap.size,1,none⟩=some (.slice ua t[i].2.1.length uq)∧W.cell? ⟨wr.heap.size,2,none⟩=some (.int .i64 P)∧W.cell? ⟨wr.heap.size,3,none⟩=some (.slice pa t[i].2.2.2.1.length pq)∧W.cell? ⟨wr.heap.size,4,none⟩=some (.slice ca m cq')):=fun W g=>⟨(st.below g).cell 0 _ rfl,(st.below g).cell 1 _ rfl,(st.below g).cell 2 _ rfl,(st.below g).cell 3 _ rfl,(st.below g).cell 4 _ rfl⟩
         have B0:=hid hbx
         obtain ⟨y0,y1,y2,y3,y4⟩:=Z.out _ (Below.refl _ _)
         clear st hbx
         go_quiet (fail)
         obtain ⟨w2,hw2⟩:∃w2,w2=w1.drewN 1:=⟨_,rfl⟩
         have R2:Hid (Below w1.heap.size w1 w2):=by rw[hw2];exact below_drewN (Below.refl _ _) 1
         have q3:=below_cell (below_drewN (Below.refl _ w1) 1) y3
         have q4:=y4
         go_wp2_with (go_at_call 103;refine (CF.out _ (below_drewN B0.out _)).mono ?_;rintro e w3 ⟨rfl,b3⟩;have z4:=below_cell (below_trans (below_drewN (Below.refl _ w1) _) b3) y4)
         go_ret
         exact ⟨ret_b hf.out.symm,below_trans hb (below_trans (below_drewN B0.out _) b3)⟩
        ·rw[hPF] at cf
         rw[hPF,Bool.true_and] at HN
         have CF:=hid cf
         clear cf hPF
         by_cases h16:(16:Int) < m
         ·have hf:=hbad (by rw[HN.out,decide_eq_false (by omega)])
          clear hbad HN
          go_wp2_with fail
          generalize wr.alloc (.cells #[.string nm, .slice ua t[i].2.1.length uq, .int .i64 P, .slice pa t[i].2.2.2.1.length pq, .slice ca m cq'] 91)=w1 at st hbx ⊢
          have Z:Hid (∀W,Below w1.heap.size w1 W→W.cell? ⟨wr.heap.size,0,none⟩=some (.string nm)∧W.cell? ⟨wr.heap.size,1,none⟩=some (.slice ua t[i].2.1.length uq)∧W.cell? ⟨wr.heap.size,2,none⟩=some (.int .i64 P)∧W.cell? ⟨wr.heap.size,3,none⟩=some (.slice pa t[i].2.2.2.1.length pq)∧W.cell? ⟨wr.heap.size,4,none⟩=some (.slice ca m cq')):=fun W g=>⟨(st.below g).cell 0 _ rfl,(st.below g).cell 1 _ rfl,(st.below g).cell 2 _ rfl,(st.below g).cell 3 _ rfl,(st.below g).cell 4 _ rfl⟩
          have B0:=hid hbx
          obtain ⟨y0,y1,y2,y3,y4⟩:=Z.out _ (Below.refl _ _)
          clear st hbx
          go_quiet (fail)
          obtain ⟨w2,hw2⟩:∃w2,w2=w1.drewN 1:=⟨_,rfl⟩
          have R2:Hid (Below w1.heap.size w1 w2):=by rw[hw2];exact below_drewN (Below.refl _ _) 1
          have q3:=below_cell (below_drewN (Below.refl _ w1) 1) y3
          have q4:=y4
          go_wp2_with (go_at_call 103;refine (CF.out _ (below_drewN B0.out _)).mono ?_;rintro e w3 ⟨rfl,b3⟩;have z4:=below_cell (below_trans (below_drewN (Below.refl _ w1) _) b3) y4)
          go_ret
          exact ⟨ret_b hf.out.symm,below_trans hb (below_trans (below_drewN B0.out _) b3)⟩
         ·have hg:okN t i t[i]=true:=by rw[HN.out,decide_eq_true (by omega)]
          have hok2:Hid (∀j (g:j < i+1) (hj:j < t.length),okN t j t[j]=true):=by
           show ∀j _ _,_
           intro j g hj
           by_cases hjk:j < i
           ·exact hok.out j hjk hj
           ·have:j=i:=by omega
            subst this
            exact hg
          clear hbad HN hg
          go_wp2_with fail
          generalize wr.alloc (.cells #[.string nm, .slice ua t[i].2.1.length uq, .int .i64 P, .slice pa t[i].2.2.2.1.length pq, .slice ca m cq'] 91)=w1 at st hbx ⊢
          have Z:Hid (∀W,Below w1.heap.size w1 W→W.cell? ⟨wr.heap.size,0,none⟩=some (.string nm)∧W.cell? ⟨wr.heap.size,1,none⟩=some (.slice ua t[i].2.1.length uq)∧W.cell? ⟨wr.heap.size,2,none⟩=some (.int .i64 P)∧W.cell? ⟨wr.heap.size,3,none⟩=some (.slice pa t[i].2.2.2.1.length pq)∧W.cell? ⟨wr.heap.size,4,none⟩=some (.slice ca m cq')):=fun W g=>⟨(st.below g).cell 0 _ rfl,(st.below g).cell 1 _ rfl,(st.below g).cell 2 _ rfl,(st.below g).cell 3 _ rfl,(st.below g).cell 4 _ rfl⟩
          have B0:=hid hbx
          obtain ⟨y0,y1,y2,y3,y4⟩:=Z.out _ (Below.refl _ _)
          clear st hbx
          go_quiet (fail)
          obtain ⟨w2,hw2⟩:∃w2,w2=w1.drewN 1:=⟨_,rfl⟩
          have R2:Hid (Below w1.heap.size w1 w2):=by rw[hw2];exact below_drewN (Below.refl _ _) 1
          have q3:=below_cell (below_drewN (Below.refl _ w1) 1) y3
          have q4:=y4
          go_wp2_with (go_at_call 103;refine (CF.out _ (below_drewN B0.out _)).mono ?_;rintro e w3 ⟨rfl,b3⟩;have z4:=below_cell (below_trans (below_drewN (Below.refl _ w1) _) b3) y4)
          go_roundw
          case rel=>exact ⟨i+1,by omega,by go_num,hok2,below_trans hb (below_trans (below_drewN B0.out _) b3)⟩
          case measure=>simp[intOf];omega
       ·have hi0:((i:Int) !=0)=true:=by simp;exact hz
        have hq:okA t i t[i]=true:=by rw[decide_eq_false hz,Bool.false_or] at hA;exact hA
        rw[hq] at cq
        clear hq hA hz
        have CQ:=hid cq
        clear cq
        cases hPF:(decide (t[i].2.2.2.1.length≤16)&&okR t[i].2.2.2.1)
        ·have hf:=hbad (by rw[HN.out,hPF,Bool.false_and])
         rw[hPF] at cf
         clear hPF hbad HN
         have CF:=hid cf
         clear cf
         go_wp2_with fail
         generalize wr.alloc (.cells #[.string nm, .slice ua t[i].2.1.length uq, .int .i64 P, .slice pa t[i].2.2.2.1.length pq, .slice ca m cq'] 91)=w1 at st hbx ⊢
         have Z:Hid (∀W,Below w1.heap.size w1 W→W.cell? ⟨wr.heap.size,0,none⟩=some (.string nm)∧W.cell? ⟨wr.heap.size,1,none⟩=some (.slice ua t[i].2.1.length uq)∧W.cell? ⟨wr.heap.size,2,none⟩=some (.int .i64 P)∧W.cell? ⟨wr.heap.size,3,none⟩=some (.slice pa t[i].2.2.2.1.length pq)∧W.cell? ⟨wr.heap.size,4,none⟩=some (.slice ca m cq')):=fun W g=>⟨(st.below g).cell 0 _ rfl,(st.below g).cell 1 _ rfl,(st.below g).cell 2 _ rfl,(st.below g).cell 3 _ rfl,(st.below g).cell 4 _ rfl⟩
         have B0:=hid hbx
         have hrd:Hid (Below w1.heap.size w1 w1.drew):=below_drewN (Below.refl _ _) 1
         clear st hbx
         go_region_held (fun W=>W.cell? ⟨wr.heap.size,0,none⟩=some (.string nm)∧W.cell? ⟨wr.heap.size,1,none⟩=some (.slice ua t[i].2.1.length uq)∧W.cell? ⟨wr.heap.size,2,none⟩=some (.int .i64 P)∧W.cell? ⟨wr.heap.size,3,none⟩=some (.slice pa t[i].2.2.2.1.length pq)∧W.cell? ⟨wr.heap.size,4,none⟩=some (.slice ca m cq')) (first|with_reducible exact Z.out _ hrd.out|with_reducible exact Z.out _ R2.out)
          (first|(go_at_call 102;refine (CQ.out _ (below_trans B0.out hrd.out)).mono ?_;rintro e w2 ⟨rfl,b2⟩;have R2:Hid (Below w1.heap.size w1 w2):=below_trans hrd.out b2;clear b2))
         obtain ⟨y0,y1,y2,y3,y4⟩:=Z.out _ R2.out
         go_wp2_with (go_at_call 103;refine (CF.out _ (below_trans B0.out R2.out)).mono ?_;rintro e w3 ⟨rfl,b3⟩;have z4:=below_cell b3 y4)
         go_ret
         exact ⟨ret_b hf.out.symm,below_trans hb (below_trans (below_trans B0.out R2.out) b3)⟩
        ·rw[hPF] at cf
         rw[hPF,Bool.true_and] at HN
         have CF:=hid cf
         clear cf hPF
         by_cases h16:(16:Int) < m
         ·have hf:=hbad (by rw[HN.out,decide_eq_false (by omega)])
          clear hbad HN
          go_wp2_with fail
          generalize wr.alloc (.cells #[.string nm, .slice ua t[i].2.1.length uq, .int .i64 P, .slice pa t[i].2.2.2.1.length pq, .slice ca m cq'] 91)=w1 at st hbx ⊢
          have Z:Hid (∀W,Below w1.heap.size w1 W→W.cell? ⟨wr.heap.size,0,none⟩=some (.string nm)∧W.cell? ⟨wr.heap.size,1,none⟩=some (.slice ua t[i].2.1.length uq)∧W.cell? ⟨wr.heap.size,2,none⟩=some (.int .i64 P)∧W.cell? ⟨wr.heap.size,3,none⟩=some (.slice pa t[i].2.2.2.1.length pq)∧W.cell? ⟨wr.heap.size,4,none⟩=some (.slice ca m cq')):=fun W g=>⟨(st.below g).cell 0 _ rfl,(st.below g).cell 1 _ rfl,(st.below g).cell 2 _ rfl,(st.below g).cell 3 _ rfl,(st.below g).cell 4 _ rfl⟩
          have B0:=hid hbx
          have hrd:Hid (Below w1.heap.size w1 w1.drew):=below_drewN (Below.refl _ _) 1
          clear st hbx
          go_region_held (fun W=>W.cell? ⟨wr.heap.size,0,none⟩=some (.string nm)∧W.cell? ⟨wr.heap.size,1,none⟩=some (.slice ua t[i].2.1.length uq)∧W.cell? ⟨wr.heap.size,2,none⟩=some (.int .i64 P)∧W.cell? ⟨wr.heap.size,3,none⟩=some (.slice pa t[i].2.2.2.1.length pq)∧W.cell? ⟨wr.heap.size,4,none⟩=some (.slice ca m cq')) (first|with_reducible exact Z.out _ hrd.out|with_reducible exact Z.out _ R2.out)
           (first|(go_at_call 102;refine (CQ.out _ (below_trans B0.out hrd.out)).mono ?_;rintro e w2 ⟨rfl,b2⟩;have R2:Hid (Below w1.heap.size w1 w2):=below_trans hrd.out b2;clear b2))
          obtain ⟨y0,y1,y2,y3,y4⟩:=Z.out _ R2.out
          go_wp2_with (go_at_call 103;refine (CF.out _ (below_trans B0.out R2.out)).mono ?_;rintro e w3 ⟨rfl,b3⟩;have z4:=below_cell b3 y4)
          go_ret
          exact ⟨ret_b hf.out.symm,below_trans hb (below_trans (below_trans B0.out R2.out) b3)⟩
         ·have hg:okN t i t[i]=true:=by rw[HN.out,decide_eq_true (by omega)]
          have hok2:Hid (∀j (g:j < i+1) (hj:j < t.length),okN t j t[j]=true):=by
           show ∀j _ _,_
           intro j g hj
           by_cases hjk:j < i
           ·exact hok.out j hjk hj
           ·have:j=i:=by omega
            subst this
            exact hg
          clear hbad HN hg
          go_wp2_with fail
          generalize wr.alloc (.cells #[.string nm, .slice ua t[i].2.1.length uq, .int .i64 P, .slice pa t[i].2.2.2.1.length pq, .slice ca m cq'] 91)=w1 at st hbx ⊢
          have Z:Hid (∀W,Below w1.heap.size w1 W→W.cell? ⟨wr.heap.size,0,none⟩=some (.string nm)∧W.cell? ⟨wr.heap.size,1,none⟩=some (.slice ua t[i].2.1.length uq)∧W.cell? ⟨wr.heap.size,2,none⟩=some (.int .i64 P)∧W.cell? ⟨wr.heap.size,3,none⟩=some (.slice pa t[i].2.2.2.1.length pq)∧W.cell? ⟨wr.heap.size,4,none⟩=some (.slice ca m cq')):=fun W g=>⟨(st.below g).cell 0 _ rfl,(st.below g).cell 1 _ rfl,(st.below g).cell 2 _ rfl,(st.below g).cell 3 _ rfl,(st.below g).cell 4 _ rfl⟩
          have B0:=hid hbx
          have hrd:Hid (Below w1.heap.size w1 w1.drew):=below_drewN (Below.refl _ _) 1
          clear st hbx
          go_region_held (fun W=>W.cell? ⟨wr.heap.size,0,none⟩=some (.string nm)∧W.cell? ⟨wr.heap.size,1,none⟩=some (.slice ua t[i].2.1.length uq)∧W.cell? ⟨wr.heap.size,2,none⟩=some (.int .i64 P)∧W.cell? ⟨wr.heap.size,3,none⟩=some (.slice pa t[i].2.2.2.1.length pq)∧W.cell? ⟨wr.heap.size,4,none⟩=some (.slice ca m cq')) (first|with_reducible exact Z.out _ hrd.out|with_reducible exact Z.out _ R2.out)
           (first|(go_at_call 102;refine (CQ.out _ (below_trans B0.out hrd.out)).mono ?_;rintro e w2 ⟨rfl,b2⟩;have R2:Hid (Below w1.heap.size w1 w2):=below_trans hrd.out b2;clear b2))
          obtain ⟨y0,y1,y2,y3,y4⟩:=Z.out _ R2.out
          go_wp2_with (go_at_call 103;refine (CF.out _ (below_trans B0.out R2.out)).mono ?_;rintro e w3 ⟨rfl,b3⟩;have z4:=below_cell b3 y4)
          go_roundw
          case rel=>exact ⟨i+1,by omega,by go_num,hok2,below_trans hb (below_trans (below_trans B0.out R2.out) b3)⟩
          case measure=>simp[intOf];omega
     ·have hf:Hid (frmT t=true):=by
       show _=_
       rw[frm_iff]
       exact ⟨hlen32.out.2,hlen32.out.1,hroot.out,fun j hj=>hok.out j (by omega) hj⟩
      go_wp2_with fail
      go_ret
      exact ⟨ret_b hf.out.symm,hb⟩
theorem idx_node (g m cap n:Nat) (h:n < m):∀w',(Instr.indexAt 27 (.slice (some ⟨g,0,none⟩) m cap) (.int .i64 (n:Int))).run Tryz.prog w'= .ok (.pointer (some ⟨g,n*5,none⟩)) w':=by
 intro w'
 rw[run_indexAt_slice (h:=uN),if_pos ⟨by omega,by omega⟩,zN]
 simp only[Result.andThen,Int.toNat_natCast]
 congr 3
 unfold Addr.add
 split
 ·rename_i hz;rw[hz]
 ·simp
theorem idx_prop (g m cap n:Nat) (h:n < m):∀w',(Instr.indexAt 89 (.slice (some ⟨g,0,none⟩) m cap) (.int .i64 (n:Int))).run Tryz.prog w'= .ok (.pointer (some ⟨g,n*2,none⟩)) w':=by
 intro w'
 rw[run_indexAt_slice (h:=uR),if_pos ⟨by omega,by omega⟩,zR]
 simp only[Result.andThen,Int.toNat_natCast]
 congr 3
 unfold Addr.add
 split
 ·rename_i hz;rw[hz]
 ·simp
def OwA (base g n cap:Nat) (w:World) (rs:List (List Value)):Prop:=(∀r∈rs,r.length=5)∧rs.length=n∧w.ownsRow base 91 5 (.slice (some ⟨g,0,none⟩) n cap) n rs.flatten
theorem OwA.cell {base g n cap:Nat} {w:World} {rs:List (List Value)} (h:OwA base g n cap w rs) (i j:Nat) (hi:i < n) (hj:j < 5) (u:Value) (hu:(rs.getD i [])[j]? =some u):w.cell? ⟨g,i*5+j,none⟩=some u:=
 own_cell h.2.2 (i*5+j) u (by rw[flat_get rs 5 i j h.1 (by rw[h.2.1];exact hi) hj];exact hu)
theorem OwA.free {base g n cap:Nat} {w:World} {rs:List (List Value)} (h:OwA base g n cap w rs) (j:Nat):w.frozen? ⟨g,j,none⟩=false:=h.2.2.frozenAt j
theorem OwA.kept {base g n cap:Nat} {T:TypeId} {w w':World} {rs:List (List Value)} (h:OwA base g n cap w rs) (k:Kept T w w') (hne:¬91=T):OwA base g n cap w' rs:=⟨h.1,h.2.1,own_kept k hne h.2.2⟩
theorem OwA.below {base g n cap:Nat} {w w':World} {rs:List (List Value)} (h:OwA base g n cap w rs) (k:Below w.heap.size w w'):OwA base g n cap w' rs:=h.kept (T:=5) (Kept.below k) (by decide)
theorem set_getD {α:Type} (rs:List (List α)) (i:Nat) (r:List α) (h:i < rs.length):(rs.set i r).getD i []=r:=by
 rw[List.getD_eq_getElem?_getD,List.getElem?_set_self h]
 rfl
theorem OwA.set {base g n cap:Nat} {w:World} {rs:List (List Value)} {i:Nat} {r:List Value} (h:OwA base g n cap w (rs.set i r)) (hi:i < n) (j:Nat) (hj:j < 5) (u:Value):OwA base g n cap (w.setCell ⟨g,i*5+j,none⟩ u) (rs.set i (r.set j u))∧Kept 91 w (w.setCell ⟨g,i*5+j,none⟩ u):=by
 obtain ⟨h1,h2,h3⟩:=h
 have hl:i < (rs.set i r).length:=by rw[h2];exact hi
 have hl2:i < rs.length:=by simpa using hl
 obtain ⟨s1,s2⟩:=h3.stored (i*5+j) u
 rw[flat_set (rs.set i r) 5 i j u h1 hl hj,set_getD rs i r hl2,List.set_set] at s1
 refine ⟨⟨fun q hq=> ?_,by simpa using h2,s1⟩,Kept.own (v:= .slice (some ⟨g,0,none⟩) n cap) h3 s2⟩
 obtain ⟨m,hm,rfl⟩:=List.getElem_of_mem hq
 rw[List.getElem_set]
 split
 ·rw[List.length_set]
  exact h1 r (List.mem_iff_getElem.2 ⟨i,hl,by simp⟩)
 ·rename_i e
  have e2:(rs.set i r)[m]'(by simpa using hm)=rs[m]'(by simpa using hm):=by rw[List.getElem_set,if_neg e]
  rw[←e2]
  exact h1 _ (List.getElem_mem _)
def PrI (base gb:Nat) (wo:World) (vP:Value) (Ps:List Pp) (prow:List (List Value)) (k:Nat) (w:World):Prop:=
 ∃prs:List (List Value),prs.length=Ps.length∧(∀r∈prs,r.length=2)∧w.ownsRow gb 93 2 vP Ps.length prs.flatten∧(∀j (h:j < Ps.length),j < k→propO gb w (prs.getD j []) Ps[j])∧(∀j,k≤j→prs.getD j []=prow.getD j [])
def NdI (base g cap:Nat) (t:List Nd) (rows:List (List Value)) (i:Nat) (w:World):Prop:=
 ∃rs:List (List Value),OwA base g t.length cap w rs∧(∀j (h:j < t.length),j < i→nodO base w (rs.getD j []) t[j])∧SepR (rs.take i)∧(∀j,i≤j→rs.getD j []=rows.getD j [])
set_option maxHeartbeats 4000000 in
set_option maxRecDepth 100000 in
theorem w_p8copyS (v:Value) (t:List Nd) (w:World) (h:RdT w v t) (hz:t.length*96≤140737488355328) (hs:∀x∈t,sizN x):
  Calls Tryz.prog 58 #[v] w fun e w'=>∃v1,e= .returned v1∧OwnTS w.heap.size w' v1 t∧Below w.heap.size w w':=by
 obtain ⟨rows,hr1,hr2,hr3⟩:=h
 have hone:∀r∈rows,∀u∈r,u.oneCell'=true:=by
  intro r hr u hu
  obtain ⟨i,hi,rfl⟩:=List.getElem_of_mem hr
  obtain ⟨vu,vp,vc,e,g1,g2,g3⟩:=hr3 i (by omega)
  rw[List.getD_eq_getElem?_getD,List.getElem?_eq_getElem hi] at e
  simp only[Option.getD_some] at e
  rw[e] at hu
  obtain ⟨a1,c1,rfl⟩:=rd_slice g1
  obtain ⟨a2,c2,rfl⟩:=slr_slice g2
  obtain ⟨a3,c3,rfl⟩:=rd_slice g3
  simp at hu
  rcases hu with rfl|rfl|rfl|rfl|rfl <;> rfl
 have cN:=w_pcloneN v rows w hr1 hone (by rw[hr2];exact hz)
 rw[hr2] at cN
 by_cases h0:t.length=0
 ·have ht:t=[]:=List.eq_nil_of_length_eq_zero h0
  subst ht
  have hn:rows=[]:=List.eq_nil_of_length_eq_zero (by simpa using hr2)
  subst hn
  go_enter Tryz.func58,Tryz.ntmps58
  go_wp2_with (go_at_call 76;refine cN.mono ?_;rintro e w1 ⟨v1,rfl,o1,b1⟩;obtain ⟨ao,ac,rfl⟩:=own_form o1)
  go_rounds 1
  go_ret
  exact ⟨_,rfl,⟨[],rfl,by simp,o1,fun i hi=>by simp at hi,fun i j g h1 h2=>by simp at h2⟩,b1⟩
 ·have hrl:∀r∈rows,r.length=5:=by
   intro r hr
   obtain ⟨i,hi,rfl⟩:=List.getElem_of_mem hr
   obtain ⟨vu,vp,vc,e,g1,g2,g3⟩:=hr3 i (by omega)
   rw[List.getD_eq_getElem?_getD,List.getElem?_eq_getElem hi] at e
   simp only[Option.getD_some] at e
   rw[e]
   rfl
  have ht0:0 < t.length:=by omega
  have hzI:(t.length:Int)*96≤140737488355328:=by omega
  clear h0 hr1 hone
  go_enter Tryz.func58,Tryz.ntmps58
  go_wp2_with (go_at_call 76;refine cN.mono ?_;rintro e w1 ⟨v1,rfl,o1,b1⟩;obtain ⟨g,cap,rfl⟩:=own_some o1 ht0)
  have hgb:=(o1.lt g rfl).1
  have N0:NdI w.heap.size g cap t rows 0 w1:=⟨rows,⟨hrl,hr2,o1⟩,fun j h hj=>by omega,fun i j g h1 h2=>by simp at h2,fun j hj=>rfl⟩
  clear cN o1 hrl hr2
  go_loopw [11] (fun I wx=>∃(i:Nat),(i:Int)≤t.length∧I= .int .i64 i∧NdI w.heap.size g cap t rows i wx∧Below w.heap.size w wx) (fun I _=>(t.length - intOf I).toNat)
  case atStart=>exact ⟨0,by omega,rfl,N0,b1⟩
  case round=>
   clear N0 b1
   obtain ⟨i,hi,rfl,hN,hb⟩:=hrel
   by_cases hlt:(i:Int) < t.length
   ·have hil:i < t.length:=by omega
    obtain ⟨rs,hA,hno,hsep,hrest⟩:=hN
    obtain ⟨W0,rfl⟩:∃W0,W0=wr:=⟨_,rfl⟩
    obtain ⟨vu,vp,vc,hrow,ru,rp,rc⟩:=hr3 i hil
    have hri:=hrest i (Nat.le_refl _)
    rw[hrow] at hri
    obtain ⟨s1,s2,s3,s4⟩:=hs _ (List.getElem_mem hil)
    have rpR:=rp
    obtain ⟨prow,hp1,hp2,hp3⟩:=rp
    have hpo:∀r∈prow,∀u∈r,u.oneCell'=true:=by
     intro r hr u hu
     obtain ⟨m,hm,rfl⟩:=List.getElem_of_mem hr
     obtain ⟨vd,e,g1⟩:=hp3 m (by omega)
     rw[List.getD_eq_getElem?_getD,List.getElem?_eq_getElem hm] at e
     simp only[Option.getD_some] at e
     rw[e] at hu
     obtain ⟨a1,c1,rfl⟩:=rd_slice g1
     simp at hu
     rcases hu with rfl|rfl <;> rfl
    have hpl:∀r∈prow,r.length=2:=by
     intro r hr
     obtain ⟨m,hm,rfl⟩:=List.getElem_of_mem hr
     obtain ⟨vd,e,g1⟩:=hp3 m (by omega)
     rw[List.getD_eq_getElem?_getD,List.getElem?_eq_getElem hm] at e
     simp only[Option.getD_some] at e
     rw[e]
     rfl
    obtain ⟨ua,uq,rfl⟩:=rd_slice ru
    obtain ⟨pa,pq,rfl⟩:=slr_slice rpR
    obtain ⟨ca,cq,rfl⟩:=rd_slice rc
    obtain ⟨P,hP⟩:∃P,t[i].2.2.1=P:=⟨_,rfl⟩
    obtain ⟨nm,hnm⟩:∃nm,strOfNums t[i].1=nm:=⟨_,rfl⟩
    obtain ⟨Ps,hPs⟩:∃Ps,t[i].2.2.2.1=Ps:=⟨_,rfl⟩
    rw[hP,hnm] at hri
    rw[hPs] at hri hp2 s3 s4 hp1
    simp only[hPs] at hp3
    have hrsl:i < rs.length:=by rw[hA.2.1];exact hil
    have hset:rs.set i [.string nm, .slice ua t[i].2.1.length uq, .int .i64 P, .slice pa Ps.length pq, .slice ca t[i].2.2.2.2.length cq]=rs:=by
     rw[←hri,List.getD_eq_getElem?_getD,List.getElem?_eq_getElem hrsl]
     simp
    have hA0:OwA w.heap.size g t.length cap W0 (rs.set i [.string nm, .slice ua t[i].2.1.length uq, .int .i64 P, .slice pa Ps.length pq, .slice ca t[i].2.2.2.2.length cq]):=by rw[hset];exact hA
    have HA:=hid hA
    have cu:=fun W (g:Below w.heap.size w W)=>w_pclone32 _ _ W (ru.below g) s1
    have cc:=fun W (g:Below w.heap.size w W)=>w_pclone32 _ _ W (rc.below g) s2
    have cp:=fun W (g:Below w.heap.size w W)=>w_pcloneP _ prow W (hp1.below g) hpo (by rw[hp2];exact s3)
    simp only[hp2] at cp
    have hix:=idx_node g t.length cap i hil
    have c1:=hA0.cell i 1 hil (by decide) _ (by rw[set_getD rs i _ hrsl];rfl)
    have hPm:(Ps.length:Int)*40≤140737488355328:=by omega
    clear hset hri hA hrow s1 s2 s3
    go_upto_region 7 with (go_at_call 53;refine (cu _ hb).mono ?_;rintro e w2 ⟨vU,rfl,oU,bU⟩;obtain ⟨uo,uc,rfl⟩:=own_form oU;have y1:=below_cell bU c1;have y2:=(hA0.below bU).free (i*5+1))
    obtain ⟨hA3,k3⟩:=(hA0.below bU).set hil 1 (by decide) (.slice uo t[i].2.1.length uc)
    have hA3:OwA w.heap.size g t.length cap _ (rs.set i [.string nm, .slice uo t[i].2.1.length uc, .int .i64 P, .slice pa Ps.length pq, .slice ca t[i].2.2.2.2.length cq]):=hA3
    have oU3:=own_kept k3 (by decide) oU
    have B3:=below_set (below_trans hb bU) g (i*5+1) (.slice uo t[i].2.1.length uc) hgb
    have G3:=gb_set (gb_below (gb_refl W0 (some g)) bU) (i*5+1) (.slice uo t[i].2.1.length uc)
    generalize w2.setCell ⟨g,i*5+1,none⟩ (.slice uo t[i].2.1.length uc)=w3 at hA3 oU3 B3 G3 k3 ⊢
    have c4:=hA3.cell i 4 hil (by decide) _ (by rw[set_getD rs i _ hrsl];rfl)
    clear y1 y2 c1 hA0 oU bU k3 cu
    go_upto_region 8 with (go_at_call 53;refine (cc _ B3).mono ?_;rintro e w4 ⟨vC,rfl,oC,bC⟩;obtain ⟨co,ccap,rfl⟩:=own_form oC;have y1:=below_cell bC c4;have y2:=(hA3.below bC).free (i*5+4))
    obtain ⟨hA5,k5⟩:=(hA3.below bC).set hil 4 (by decide) (.slice co t[i].2.2.2.2.length ccap)
    have hA5:OwA w.heap.size g t.length cap _ (rs.set i [.string nm, .slice uo t[i].2.1.length uc, .int .i64 P, .slice pa Ps.length pq, .slice co t[i].2.2.2.2.length ccap]):=hA5
    have oC5:=own_le G3.size (own_kept k5 (by decide) oC)
    have oU5:=own_kept k5 (by decide) (own_below oU3 bC)
    have B5:=below_set (below_trans B3 bC) g (i*5+4) (.slice co t[i].2.2.2.2.length ccap) hgb
    have G5:=gb_set (gb_below G3 bC) (i*5+4) (.slice co t[i].2.2.2.2.length ccap)
    generalize w4.setCell ⟨g,i*5+4,none⟩ (.slice co t[i].2.2.2.2.length ccap)=w5 at hA5 oC5 oU5 B5 G5 k5 ⊢
    have c3:=hA5.cell i 3 hil (by decide) _ (by rw[set_getD rs i _ hrsl];rfl)
    clear y1 y2 c4 hA3 oC oU3 bC k5 cc B3 G3
    go_upto_region 9 with (go_at_call 77;refine (cp _ B5).mono ?_;rintro e w6 ⟨vP,rfl,oP,bP⟩;obtain ⟨po,pcap,rfl⟩:=own_form oP;have y1:=below_cell bP c3;have y2:=(hA5.below bP).free (i*5+3))
    obtain ⟨hA7,k7⟩:=(hA5.below bP).set hil 3 (by decide) (.slice po Ps.length pcap)
    have hA7:OwA w.heap.size g t.length cap _ (rs.set i [.string nm, .slice uo t[i].2.1.length uc, .int .i64 P, .slice po Ps.length pcap, .slice co t[i].2.2.2.2.length ccap]):=hA7
    have oP7:=own_le G5.size (own_kept k7 (by decide) oP)
    have oC7:=own_kept k7 (by decide) (own_below oC5 bP)
    have oU7:=own_kept k7 (by decide) (own_below oU5 bP)
    have B7:=below_set (below_trans B5 bP) g (i*5+3) (.slice po Ps.length pcap) hgb
    have G7:=gb_set (gb_below G5 bP) (i*5+3) (.slice po Ps.length pcap)
    generalize w6.setCell ⟨g,i*5+3,none⟩ (.slice po Ps.length pcap)=w7 at hA7 oP7 oC7 oU7 B7 G7 k7 ⊢
    have c3:=hA7.cell i 3 hil (by decide) _ (by rw[set_getD rs i _ hrsl];rfl)
    have PI0:PrI w.heap.size W0.heap.size w (.slice po Ps.length pcap) Ps prow 0 w7:=⟨prow,hp2,hpl,oP7,fun j h hj=>by omega,fun j hj=>rfl⟩
    clear y1 y2 hA5 oP oC5 oU5 bP k7 cp B5 G5 oP7
    have hsR:=hid hsep
    have hnoR:=hid hno
    have hrestR:=hid hrest
    have hgW:w.heap.size≤W0.heap.size:=hb.size
    clear hsep hno hrest
    go_wp2_with fail
    go_loopw [46] (fun K wx=>∃(k:Nat),(k:Int)≤Ps.length∧K= .int .i64 k∧PrI w.heap.size W0.heap.size w (.slice po Ps.length pcap) Ps prow k wx∧OwA w.heap.size g t.length cap wx (rs.set i [.string nm, .slice uo t[i].2.1.length uc, .int .i64 P, .slice po Ps.length pcap, .slice co t[i].2.2.2.2.length ccap])∧wx.ownsRow W0.heap.size 26 1 (.slice uo t[i].2.1.length uc) t[i].2.1.length (t[i].2.1.map (Value.int .u32))∧wx.ownsRow W0.heap.size 26 1 (.slice co t[i].2.2.2.2.length ccap) t[i].2.2.2.2.length (t[i].2.2.2.2.map (Value.int .u32))∧W0.grownBy wx (some g)∧Below w.heap.size w wx) (fun K _=>(Ps.length - intOf K).toNat)
    case atStart=>exact ⟨0,by omega,rfl,PI0,hA7,oU7,oC7,G7,B7⟩
    case round=>
     clear PI0 hA7 oU7 oC7 G7 B7 c3
     obtain ⟨k,hk,rfl,hPI,hA8,oU8,oC8,G8,B8⟩:=hrel
     by_cases hlk:(k:Int) < Ps.length
     ·have hkl:k < Ps.length:=by omega
      obtain ⟨prs,z1,z2,z3,z4,z5⟩:=hPI
      obtain ⟨gP,cP,hgP⟩:=own_some z3 (by omega)
      simp only[Value.slice.injEq] at hgP
      obtain ⟨rfl, -,rfl⟩:=hgP
      obtain ⟨vd,hpr,rd⟩:=hp3 k hkl
      have hpk:=z5 k (Nat.le_refl _)
      rw[hpr] at hpk
      obtain ⟨da,dq,rfl⟩:=rd_slice rd
      have cd:=fun W (g:Below w.heap.size w W)=>w_pclone8 _ _ W (rd.below g) (s4 _ (List.getElem_mem hkl))
      have c3:=hA8.cell i 3 hil (by decide) _ (by rw[set_getD rs i _ hrsl];rfl)
      have hip:=idx_prop gP Ps.length pcap k hkl
      have hold:prs.flatten[k*2+1]? =some (.slice da Ps[k].2.length dq):=by rw[flat_get prs 2 k 1 z2 (by omega) (by decide),hpk];rfl
      have cD:=own_cell z3 (k*2+1) _ hold
      have hne:gP≠g:=by
       intro e
       subst e
       rcases hA8.2.2.2 with ⟨hh,_⟩|⟨g',c',cur,hh,_,x1,_⟩
       ·simp at hh
       ·rcases z3.2 with ⟨hh2,_⟩|⟨g2',c2',cur2,hh2,_,x2,_⟩
        ·simp at hh2
        ·simp at hh hh2
         obtain ⟨rfl, -⟩:=hh
         obtain ⟨rfl, -⟩:=hh2
         rw[x1] at x2
         simp at x2
      have HS:Hid (∀W,Below wr.heap.size wr W→W.cell? ⟨g,i*5+3,none⟩=some (.slice (some ⟨gP,0,none⟩) Ps.length pcap)):=fun W q=>below_cell q c3
      have hrd:Hid (Below wr.heap.size wr wr.drew):=below_drewN (Below.refl _ _) 1
      have hbd:Hid (Below w.heap.size w wr.drew):=below_drewN B8 1
      have CD:=hid cd
      have T1:Hid (∀qD,Below wr.heap.size wr qD→qD.ownsRow W0.heap.size 93 2 (.slice (some ⟨gP,0,none⟩) Ps.length pcap) Ps.length prs.flatten):=fun qD q=>own_kept (T:=5) (Kept.below q) (by decide) z3
      have T2:Hid (∀qD,Below wr.heap.size wr qD→qD.cell? ⟨gP,k*2+1,none⟩=some (.slice da Ps[k].2.length dq)):=fun qD q=>below_cell q cD
      have T3:Hid (∀qD,Below wr.heap.size wr qD→qD.frozen? ⟨gP,k*2+1,none⟩=false):=fun qD q=>(T1.out qD q).frozenAt (k*2+1)
      have T4:Hid (∀qD,Below wr.heap.size wr qD→∀u,(qD.setCell ⟨gP,k*2+1,none⟩ u).cell? ⟨g,i*5+3,none⟩=some (.slice (some ⟨gP,0,none⟩) Ps.length pcap)):=fun qD q u=>by
       rw[World.cell?_setCell_far _ _ _ _ (by exact hne)]
       exact HS.out _ q
      have Z3:=hid z3
      clear cd z3 hold
      go_wp2_with fail
      go_region_with (go_at_call 54;refine (CD.out _ (by with_reducible exact hbd.out)).mono ?_;rintro e qD ⟨vD,rfl,oD,bD'⟩;obtain ⟨dd,dcap,rfl⟩:=own_form oD;have RD:Hid (Below wr.heap.size wr qD):=below_trans hrd.out bD';have y0:=HS.out qD RD.out;have y1:=T2.out qD RD.out;have y2:=T3.out qD RD.out;have OD:=hid oD;clear oD bD')
      all_goals (
       go_wp2_with fail
       have bD:=RD.out
       have z3':=T1.out qD bD
       obtain ⟨w8,hw8⟩:∃w8,qD.setCell ⟨gP,k*2+1,none⟩ (.slice dd Ps[k].2.length dcap)=w8:=⟨_,rfl⟩
       have gr:qD.grownBy w8 (some gP):=by rw[←hw8];exact (z3'.stored (k*2+1) _).2
       have kp:Kept 93 qD w8:=Kept.own z3' gr
       have hgP8:W0.heap.size≤gP:=(z3'.lt gP rfl).1
       have hset:=z3'.stored (k*2+1) (.slice dd Ps[k].2.length dcap)
       rw[flat_set prs 2 k 1 _ z2 (by omega) (by decide),hpk,hw8] at hset
       have PI9:PrI w.heap.size W0.heap.size w (.slice (some ⟨gP,0,none⟩) Ps.length pcap) Ps prow (k+1) w8:=by
        refine ⟨prs.set k [.string (strOfNums Ps[k].1), .slice dd Ps[k].2.length dcap],by simpa using z1,fun r hr=> ?_,hset.1,fun j hj hjk=> ?_,fun j hj=> ?_⟩
        ·rcases List.mem_or_eq_of_mem_set hr with hr|rfl
         ·exact z2 r hr
         ·rfl
        ·by_cases e:j=k
         ·subst e
          rw[set_getD prs j _ (by omega)]
          exact ⟨_,rfl,own_kept kp (by decide) (own_le (Nat.le_trans G8.size hrd.out.size) OD.out)⟩
         ·rw[List.getD_eq_getElem?_getD,List.getElem?_set_ne (fun e2=>e e2.symm),←List.getD_eq_getElem?_getD]
          exact propO_apt (by decide) _ _ _ _ kp (propO_below bD _ _ (z4 j hj (by omega)))
        ·rw[List.getD_eq_getElem?_getD,List.getElem?_set_ne (by omega),←List.getD_eq_getElem?_getD]
         exact z5 j (by omega)
       have hA9:=(hA8.below bD).kept kp (by decide)
       have oU9:=own_kept kp (by decide) (own_below oU8 bD)
       have oC9:=own_kept kp (by decide) (own_below oC8 bD)
       have G9:W0.grownBy w8 (some g):=by rw[←hw8];exact gb_new (gb_below G8 bD) hgP8 _ _
       have B9:Below w.heap.size w w8:=by rw[←hw8];exact below_set (below_trans B8 bD) gP _ _ (by omega)
       rw[hw8]
       go_roundw
       case rel=>exact ⟨k+1,by omega,by go_num,PI9,hA9,oU9,oC9,G9,B9⟩
       case measure=>simp[intOf];omega)
     ·have hkp:k=Ps.length:=by omega
      subst hkp
      obtain ⟨prs,z1,z2,z3,z4,z5⟩:=hPI
      have kN:Kept 91 W0 wr:=⟨some g,G8,fun q hq=>by
       cases hq
       obtain ⟨_,_,o⟩:=HA.out
       rcases o.2 with ⟨hh,_⟩|⟨g',c',cur,hh,_,x1,_⟩
       ·simp at hh
       ·simp at hh
        obtain ⟨rfl, -⟩:=hh
        exact ⟨cur,_,x1⟩⟩
      have hN9:NdI w.heap.size g cap t rows (i+1) wr:=by
       refine ⟨_,hA8,fun j hj hji=> ?_, ?_,fun j hj=> ?_⟩
       ·by_cases e:j=i
        ·subst e
         rw[set_getD rs j _ hrsl]
         exact ⟨_,_,_,by rw[hnm,hP],own_le hgW oU8,by rw[hPs];exact ⟨prs,z1,z2,own_le hgW z3,fun m hm=>propO_le hgW _ _ (z4 m hm hm)⟩,own_le hgW oC8⟩
        ·rw[List.getD_eq_getElem?_getD,List.getElem?_set_ne (fun e2=>e e2.symm),←List.getD_eq_getElem?_getD]
         exact nodO_apt (by decide) (by decide) (by decide) _ _ _ _ kN (hnoR.out j hj (by omega))
       ·have hl1:∀q,q < rs.length→((rs.set i [Value.string nm, .slice uo t[i].2.1.length uc, .int .i64 P, .slice po Ps.length pcap, .slice co t[i].2.2.2.2.length ccap]).take (i+1))=rs.take i++[[Value.string nm, .slice uo t[i].2.1.length uc, .int .i64 P, .slice po Ps.length pcap, .slice co t[i].2.2.2.2.length ccap]]:=by
         intro q hq
         rw[List.take_succ_eq_append_getElem (by simpa using hrsl),List.take_set_of_le (Nat.le_refl _)]
         simp
        rw[hl1 i hrsl]
        refine sep_snoc hsR.out fun j q hj hq hq2=> ?_
        have hji:j < i:=by simp at hj;omega
        have e1:(rs.take i).getD j []=rs.getD j []:=by rw[List.getD_eq_getElem?_getD,List.getElem?_take,if_pos hji,←List.getD_eq_getElem?_getD]
        rw[e1] at hq
        obtain ⟨vu9,vp9,vc9,hv9, -,op9, -⟩:=hnoR.out j (by omega) hji
        obtain ⟨cs9,o9⟩:=op9.row
        rw[hv9] at hq
        have a1:=(o9.lt q (by simpa using hq)).2
        have a2:=(z3.lt q (by simpa using hq2)).1
        omega
       ·rw[List.getD_eq_getElem?_getD,List.getElem?_set_ne (by omega),←List.getD_eq_getElem?_getD]
        exact hrestR.out j (by omega)
      go_wp2_with fail
      go_roundw
      case rel=>exact ⟨i+1,by omega,by go_num,hN9,B8⟩
      case measure=>simp[intOf];omega
   ·go_wp2_with fail
    go_ret
    have hit:i=t.length:=by omega
    subst hit
    obtain ⟨rs,⟨a1,a2,a3⟩,hno,hsep,hrest⟩:=hN
    rw[List.take_of_length_le (by omega)] at hsep
    exact ⟨_,rfl,⟨rs,a2,a1,a3,fun j hj=>hno j hj hj,hsep⟩,hb⟩
theorem n_number (q:Nat) (op:Int) (w:World) (h164:¬op=164) (h165:¬op=165) (h166:¬op=166) (h167:¬op=167) (h168:¬op=168) (h169:¬op=169) (h173:¬op=173) (h515:¬op=515) (h522:¬op=522):
  Calls Tryz.prog 117 #[.pointer (some ⟨q,0,none⟩), .int .i64 op] w fun e w'=>e= .returned (.tuple #[.bool false, .int .i64 0])∧Below w.heap.size w w':=by
 have e164:(op==164)=false:=beq_eq_false_iff_ne.2 h164
 have f164:(op !=164)=true:=by rw[bne,e164];rfl
 have e165:(op==165)=false:=beq_eq_false_iff_ne.2 h165
 have f165:(op !=165)=true:=by rw[bne,e165];rfl
 have e166:(op==166)=false:=beq_eq_false_iff_ne.2 h166
 have f166:(op !=166)=true:=by rw[bne,e166];rfl
 have e167:(op==167)=false:=beq_eq_false_iff_ne.2 h167
 have f167:(op !=167)=true:=by rw[bne,e167];rfl
 have e168:(op==168)=false:=beq_eq_false_iff_ne.2 h168
 have f168:(op !=168)=true:=by rw[bne,e168];rfl
 have e169:(op==169)=false:=beq_eq_false_iff_ne.2 h169
 have f169:(op !=169)=true:=by rw[bne,e169];rfl
 have e173:(op==173)=false:=beq_eq_false_iff_ne.2 h173
 have f173:(op !=173)=true:=by rw[bne,e173];rfl
 have e515:(op==515)=false:=beq_eq_false_iff_ne.2 h515
 have f515:(op !=515)=true:=by rw[bne,e515];rfl
 have e522:(op==522)=false:=beq_eq_false_iff_ne.2 h522
 have f522:(op !=522)=true:=by rw[bne,e522];rfl
 go_enter Tryz.func117,Tryz.ntmps117
 go_wp2_with fail
 go_ret2
 exact ⟨rfl,Below.refl _ _⟩
theorem n_returns (q:Nat) (op:Int) (w:World) (h48:¬op=48) (h49:¬op=49) (h50:¬op=50) (h25:¬op=25) (h26:¬op=26) (h137:¬op=137):
  Calls Tryz.prog 118 #[.pointer (some ⟨q,0,none⟩), .int .i64 op] w fun e w'=>e= .returned (.tuple #[.bool false, .int .i64 0])∧Below w.heap.size w w':=by
 have e48:(op==48)=false:=beq_eq_false_iff_ne.2 h48
 have f48:(op !=48)=true:=by rw[bne,e48];rfl
 have e49:(op==49)=false:=beq_eq_false_iff_ne.2 h49
 have f49:(op !=49)=true:=by rw[bne,e49];rfl
 have e50:(op==50)=false:=beq_eq_false_iff_ne.2 h50
 have f50:(op !=50)=true:=by rw[bne,e50];rfl
 have e25:(op==25)=false:=beq_eq_false_iff_ne.2 h25
 have f25:(op !=25)=true:=by rw[bne,e25];rfl
 have e26:(op==26)=false:=beq_eq_false_iff_ne.2 h26
 have f26:(op !=26)=true:=by rw[bne,e26];rfl
 have e137:(op==137)=false:=beq_eq_false_iff_ne.2 h137
 have f137:(op !=137)=true:=by rw[bne,e137];rfl
 go_enter Tryz.func118,Tryz.ntmps118
 go_wp2_with fail
 go_ret2
 exact ⟨rfl,Below.refl _ _⟩
theorem n_lead (q:Nat) (op:Int) (w:World) (h29:¬op=29) (h535:¬op=535) (h526:¬op=526) (h536:¬op=536):
  Calls Tryz.prog 119 #[.pointer (some ⟨q,0,none⟩), .int .i64 op] w fun e w'=>e= .returned (.tuple #[.bool false, .int .i64 0])∧Below w.heap.size w w':=by
 have e29:(op==29)=false:=beq_eq_false_iff_ne.2 h29
 have f29:(op !=29)=true:=by rw[bne,e29];rfl
 have e535:(op==535)=false:=beq_eq_false_iff_ne.2 h535
 have f535:(op !=535)=true:=by rw[bne,e535];rfl
 have e526:(op==526)=false:=beq_eq_false_iff_ne.2 h526
 have f526:(op !=526)=true:=by rw[bne,e526];rfl
 have e536:(op==536)=false:=beq_eq_false_iff_ne.2 h536
 have f536:(op !=536)=true:=by rw[bne,e536];rfl
 go_enter Tryz.func119,Tryz.ntmps119
 go_wp2_with fail
 go_ret2
 exact ⟨rfl,Below.refl _ _⟩
theorem n_stretch (q:Nat) (op:Int) (w:World) (h120:¬op=120) (h121:¬op=121) (h122:¬op=122) (h139:¬op=139):
  Calls Tryz.prog 122 #[.pointer (some ⟨q,0,none⟩), .int .i64 op] w fun e w'=>e= .returned (.tuple #[.bool false, .int .i64 0])∧Below w.heap.size w w':=by
 have e120:(op==120)=false:=beq_eq_false_iff_ne.2 h120
 have f120:(op !=120)=true:=by rw[bne,e120];rfl
 have e121:(op==121)=false:=beq_eq_false_iff_ne.2 h121
 have f121:(op !=121)=true:=by rw[bne,e121];rfl
 have e122:(op==122)=false:=beq_eq_false_iff_ne.2 h122
 have f122:(op !=122)=true:=by rw[bne,e122];rfl
 have e139:(op==139)=false:=beq_eq_false_iff_ne.2 h139
 have f139:(op !=139)=true:=by rw[bne,e139];rfl
 go_enter Tryz.func122,Tryz.ntmps122
 go_wp2_with fail
 go_ret2
 exact ⟨rfl,Below.refl _ _⟩
theorem n_console (q:Nat) (op:Int) (w:World) (h143:¬op=143) (h144:¬op=144) (h146:¬op=146) (h155:¬op=155) (h157:¬op=157) (h160:¬op=160):
  Calls Tryz.prog 123 #[.pointer (some ⟨q,0,none⟩), .int .i64 op] w fun e w'=>e= .returned (.tuple #[.bool false, .int .i64 0])∧Below w.heap.size w w':=by
 have e143:(op==143)=false:=beq_eq_false_iff_ne.2 h143
 have f143:(op !=143)=true:=by rw[bne,e143];rfl
 have e144:(op==144)=false:=beq_eq_false_iff_ne.2 h144
 have f144:(op !=144)=true:=by rw[bne,e144];rfl
 have e146:(op==146)=false:=beq_eq_false_iff_ne.2 h146
 have f146:(op !=146)=true:=by rw[bne,e146];rfl
 have e155:(op==155)=false:=beq_eq_false_iff_ne.2 h155
 have f155:(op !=155)=true:=by rw[bne,e155];rfl
 have e157:(op==157)=false:=beq_eq_false_iff_ne.2 h157
 have f157:(op !=157)=true:=by rw[bne,e157];rfl
 have e160:(op==160)=false:=beq_eq_false_iff_ne.2 h160
 have f160:(op !=160)=true:=by rw[bne,e160];rfl
 go_enter Tryz.func123,Tryz.ntmps123
 go_wp2_with fail
 go_ret2
 exact ⟨rfl,Below.refl _ _⟩
theorem n_encode (q:Nat) (op:Int) (w:World) (h273:¬op=273) (h276:¬op=276) (h274:¬op=274):
  Calls Tryz.prog 124 #[.pointer (some ⟨q,0,none⟩), .int .i64 op] w fun e w'=>e= .returned (.tuple #[.bool false, .int .i64 0])∧Below w.heap.size w w':=by
 have e273:(op==273)=false:=beq_eq_false_iff_ne.2 h273
 have f273:(op !=273)=true:=by rw[bne,e273];rfl
 have e276:(op==276)=false:=beq_eq_false_iff_ne.2 h276
 have f276:(op !=276)=true:=by rw[bne,e276];rfl
 have e274:(op==274)=false:=beq_eq_false_iff_ne.2 h274
 have f274:(op !=274)=true:=by rw[bne,e274];rfl
 go_enter Tryz.func124,Tryz.ntmps124
 go_wp2_with fail
 go_ret2
 exact ⟨rfl,Below.refl _ _⟩
theorem n_decode (q:Nat) (op:Int) (w:World) (h539:¬op=539) (h540:¬op=540):
  Calls Tryz.prog 125 #[.pointer (some ⟨q,0,none⟩), .int .i64 op] w fun e w'=>e= .returned (.tuple #[.bool false, .int .i64 0])∧Below w.heap.size w w':=by
 have e539:(op==539)=false:=beq_eq_false_iff_ne.2 h539
 have f539:(op !=539)=true:=by rw[bne,e539];rfl
 have e540:(op==540)=false:=beq_eq_false_iff_ne.2 h540
 have f540:(op !=540)=true:=by rw[bne,e540];rfl
 go_enter Tryz.func125,Tryz.ntmps125
 go_wp2_with fail
 go_ret2
 exact ⟨rfl,Below.refl _ _⟩
theorem n_device (q:Nat) (op:Int) (w:World) (h272:¬op=272) (h542:¬op=542) (h538:¬op=538) (h287:¬op=287) (h295:¬op=295):
  Calls Tryz.prog 126 #[.pointer (some ⟨q,0,none⟩), .int .i64 op] w fun e w'=>e= .returned (.tuple #[.bool false, .int .i64 0])∧Below w.heap.size w w':=by
 have e272:(op==272)=false:=beq_eq_false_iff_ne.2 h272
 have f272:(op !=272)=true:=by rw[bne,e272];rfl
 have e542:(op==542)=false:=beq_eq_false_iff_ne.2 h542
 have f542:(op !=542)=true:=by rw[bne,e542];rfl
 have e538:(op==538)=false:=beq_eq_false_iff_ne.2 h538
 have f538:(op !=538)=true:=by rw[bne,e538];rfl
 have e287:(op==287)=false:=beq_eq_false_iff_ne.2 h287
 have f287:(op !=287)=true:=by rw[bne,e287];rfl
 have e295:(op==295)=false:=beq_eq_false_iff_ne.2 h295
 have f295:(op !=295)=true:=by rw[bne,e295];rfl
 go_enter Tryz.func126,Tryz.ntmps126
 go_wp2_with fail
 go_ret2
 exact ⟨rfl,Below.refl _ _⟩
theorem n_fetch (q:Nat) (op:Int) (w:World) (h1:¬op=109) (h2:¬op=111) (h3:¬op=113):
  Calls Tryz.prog 120 #[.pointer (some ⟨q,0,none⟩), .int .i64 op] w fun e w'=>e= .returned (.tuple #[.bool false, .int .i64 0])∧Below w.heap.size w w':=by
 have c:=w_sizeOf op 109 111 113 w 0 (by rw[if_neg h1,if_neg h2,if_neg h3])
 go_enter Tryz.func120,Tryz.ntmps120
 go_wp2_with (go_at_call 191;refine c.mono ?_;rintro e w2 ⟨rfl,rfl⟩)
 go_ret2
 exact ⟨rfl,Below.refl _ _⟩
theorem n_store (q:Nat) (op:Int) (w:World) (h1:¬op=114) (h2:¬op=116) (h3:¬op=117) (h4:¬op=108):
  Calls Tryz.prog 121 #[.pointer (some ⟨q,0,none⟩), .int .i64 op] w fun e w'=>e= .returned (.tuple #[.bool false, .int .i64 0])∧Below w.heap.size w w':=by
 have c:=w_sizeOf op 114 116 117 w 0 (by rw[if_neg h1,if_neg h2,if_neg h3])
 have e4:(op==108)=false:=beq_eq_false_iff_ne.2 h4
 go_enter Tryz.func121,Tryz.ntmps121
 go_wp2_with (go_at_call 191;refine c.mono ?_;rintro e w2 ⟨rfl,rfl⟩)
 go_ret2
 exact ⟨rfl,Below.refl _ _⟩
theorem n_binary (q:Nat) (op:Int) (w:World) (h1:¬Cel.binE op 1=0):
  Calls Tryz.prog 113 #[.pointer (some ⟨q,0,none⟩), .int .i64 op] w fun e w'=>e= .returned (.tuple #[.bool false, .int .i64 0])∧Below w.heap.size w w':=by
 have c:=Cel.w_bin op 1 1 w (by omega) (by omega) (by omega) (by omega)
 obtain ⟨E,hE⟩:∃E,Cel.binE op 1=E:=⟨_,rfl⟩
 rw[hE] at c h1
 have e1:(E !=0)=true:=by simpa using h1
 clear hE h1
 go_enter Tryz.func113,Tryz.ntmps113
 go_wp2_with (go_at_call 178;refine c.mono ?_;rintro e w1 ⟨rfl,b1⟩)
 go_ret2
 exact ⟨rfl,b1⟩
theorem n_unary (q:Nat) (op:Int) (w:World) (h1:¬Cel.unE op=0):
  Calls Tryz.prog 114 #[.pointer (some ⟨q,0,none⟩), .int .i64 op] w fun e w'=>e= .returned (.tuple #[.bool false, .int .i64 0])∧Below w.heap.size w w':=by
 have c:=Cel.w_un op 1 w (by omega) (by omega)
 obtain ⟨E,hE⟩:∃E,Cel.unE op=E:=⟨_,rfl⟩
 rw[hE] at c h1
 have e1:(E !=0)=true:=by simpa using h1
 clear hE h1
 go_enter Tryz.func114,Tryz.ntmps114
 go_wp2_with (go_at_call 179;refine c.mono ?_;rintro e w1 ⟨rfl,rfl⟩)
 go_ret2
 exact ⟨rfl,Below.refl _ _⟩
theorem n_turn {B:Nat} {D:Nat→Prop} {w:World} {q:Nat} {s b:Sv} {vf:Value} {fs:List Fm} {nxt fuel thr:Int} (h:RunL B D w q s b vf fs nxt fuel thr) (op:Int) (ok:Okr (toR s fs thr)) (hd:(Stk.doF op s.m.stack).2=2):
  Calls Tryz.prog 116 #[.pointer (some ⟨q,0,none⟩), .int .i64 op] w fun e w'=>e= .returned (.tuple #[.bool false, .int .i64 0])∧Below w.heap.size w w':=by
 have hsc:cells s.m.stack:=ok.ran.m.stack
 have cd:=Stk.w_sdo s.v.vs s.m.stack op w (h.tab w (Below.refl _ _)) h.hs.stack.now hsc
 rw[hd] at cd
 have f0:=h.c0
 clear h hd
 go_enter Tryz.func116,Tryz.ntmps116
 go_wp2_with (go_at_call 182;refine cd.mono ?_;rintro e w2 ⟨v1,rfl,o1,b2⟩)
 go_ret2
 exact ⟨rfl,b2⟩
theorem n_wideTakes (op:Int) (w:World) (h126:¬op=126) (h42:¬op=42) (h43:¬op=43) (h212:¬op=212) (h213:¬op=213) (h469:¬op=469) (h725:¬op=725) (h216:¬op=216) (h217:¬op=217) (h127:¬op=127):
  Calls Tryz.prog 180 #[.int .i64 op] w fun e w'=>e= .returned (.int .i64 0)∧w'=w:=by
 have e126:(op==126)=false:=beq_eq_false_iff_ne.2 h126
 have e42:(op==42)=false:=beq_eq_false_iff_ne.2 h42
 have e43:(op==43)=false:=beq_eq_false_iff_ne.2 h43
 have e212:(op==212)=false:=beq_eq_false_iff_ne.2 h212
 have e213:(op==213)=false:=beq_eq_false_iff_ne.2 h213
 have e469:(op==469)=false:=beq_eq_false_iff_ne.2 h469
 have e725:(op==725)=false:=beq_eq_false_iff_ne.2 h725
 have e216:(op==216)=false:=beq_eq_false_iff_ne.2 h216
 have e217:(op==217)=false:=beq_eq_false_iff_ne.2 h217
 have e127:(op==127)=false:=beq_eq_false_iff_ne.2 h127
 go_enter Tryz.func180,Tryz.ntmps180
 go_wp2_with fail
 go_ret
 exact ⟨rfl,rfl⟩
theorem n_wide (q:Nat) (op:Int) (w:World) (h126:¬op=126) (h42:¬op=42) (h43:¬op=43) (h212:¬op=212) (h213:¬op=213) (h469:¬op=469) (h725:¬op=725) (h216:¬op=216) (h217:¬op=217) (h127:¬op=127):
  Calls Tryz.prog 115 #[.pointer (some ⟨q,0,none⟩), .int .i64 op] w fun e w'=>e= .returned (.tuple #[.bool false, .int .i64 0])∧Below w.heap.size w w':=by
 have c:=n_wideTakes op w h126 h42 h43 h212 h213 h469 h725 h216 h217 h127
 go_enter Tryz.func115,Tryz.ntmps115
 go_wp2_with (go_at_call 180;refine c.mono ?_;rintro e w2 ⟨rfl,rfl⟩)
 go_ret2
 exact ⟨rfl,Below.refl _ _⟩
theorem RunL.put24 {B:Nat} {D:Nat→Prop} {w:World} {q:Nat} {s b:Sv} {vf:Value} {fs:List Fm} {nxt fuel thr:Int} (h:RunL B D w q s b vf fs nxt fuel thr) (n:Int):RunL B D (w.setCell ⟨q,24,none⟩ (.int .i64 n)) q s b vf fs n fuel thr∧Below B w (w.setCell ⟨q,24,none⟩ (.int .i64 n)):=by
 have g1:w.grownBy (w.setCell ⟨q,24,none⟩ (.int .i64 n)) (some q):=gb_set (gb_refl _ _) 24 _
 exact ⟨h.upd (s':=s) g1 (h.st.set 24 _) (h.hs.agr (h.agr g1)) (h.hb.agr (h.agr g1)) rfl rfl rfl rfl h.bw h.bi,h.low g1⟩
theorem frm_words {m:Mc} (h:frmM m=true):m.words.length≤640:=by
 have:=(frm_parts h).2.2.2.2.2.1
 unfold wdsF at this
 simp only[Bool.and_eq_true,decide_eq_true_eq] at this
 exact this.1.2
def NxP (B:Nat) (D:Nat→Prop) (q:Nat) (s b:Sv) (fs:List Fm) (fuel:Int) (w:World) (nx:Nx) (ret:Int→Ending):Ending→World→Prop:=fun e w'=>Below B w w'∧∃s' vf' fs' nxt' thr' E,e=ret E∧RunL B D w' q s' b vf' fs' nxt' fuel thr'∧s'.m.words=s.m.words∧s'.m.insts=s.m.insts∧
 match nx with
 | .done r e'=>E=e'∧thr'=r.n∧fs'=fs∧nxt'= -1∧(e'=0→s'.m=r.m∧s'.ret=r.ret)
 | .exec x r=>E=0∧thr'=r.n∧fs'=fs∧nxt'=x∧s'.m=r.m∧s'.ret=r.ret
 | .catch x r=>E=0∧thr'=r.n∧fs'= .catch r.ret.length r.m.stack.length r.m.self::fs∧nxt'=x∧s'.m=r.m∧s'.ret=r.ret
 | .meth x r=>E=0∧thr'=r.n∧fs'= .meth (bsF fs) s.m.self::fs∧nxt'=x∧s'.m=r.m∧s'.ret=r.ret
theorem PrmP.nx {B:Nat} {D:Nat→Prop} {q:Nat} {s b:Sv} {vf:Value} {fs:List Fm} {fuel:Int} {w w':World} {r:Rs×Int} {e:Ending} (h:PrmP B D q s b vf fs fuel w r e w'):NxP B D q s b fs fuel w (.done r.1 r.2) (fun E=> .returned (.tuple #[.bool true, .int .i64 E])) e w':=by
 obtain ⟨h1,h2,s',h3,h4,h5,h6⟩:=h
 exact ⟨h2,s',vf,fs, -1,r.1.n,r.2,h1,h3,h4,h5,rfl,rfl,rfl,rfl,h6⟩
theorem to14 {R:Rs} {n:Int} (h:¬((iWd R n).2.2.1=4∨(iWd R n).2.2.1=6∨(iWd R n).2.2.1=7)):iTo R n=(R,14):=by
 unfold iTo
 dsimp only
 rw[if_pos h]
theorem toU {R:Rs} {n:Int} (h:(iWd R n).2.2.1=4∨(iWd R n).2.2.1=6∨(iWd R n).2.2.1=7) (hk:R.m.stack.length < 1):iTo R n=(R,5):=by
 unfold iTo
 dsimp only
 rw[if_neg (fun z=>z h),top_no hk,if_pos (by simp)]
theorem to6N {R:Rs} {n X:Int} (h:(iWd R n).2.2.1=6) (hk:1≤R.m.stack.length) (hX:R.m.stack.getD (R.m.stack.length - 1) 0=X) (hx:(R.m.words.length:Int)≤X):iTo R n=(R,14):=by
 unfold iTo
 dsimp only
 rw[if_neg (fun z=>z (Or.inr (Or.inl h))),top_ok hk,pd1 _ hk,hX,if_neg (by simp)]
 simp only[List.getD_cons_zero]
 rw[if_pos ⟨h,hx⟩]
theorem to7N {R:Rs} {n:Int} (h:(iWd R n).2.2.1=7) (hk:1≤R.m.stack.length) (hs:iSlf R (iWd R n)=false):iTo R n=(R,21):=by
 unfold iTo
 dsimp only
 rw[if_neg (fun z=>z (Or.inr (Or.inr h))),top_ok hk,if_neg (by simp),if_neg (by omega),if_pos h,if_pos hs]
theorem to7K {R:Rs} {n X:Int} (h:(iWd R n).2.2.1=7) (hk:1≤R.m.stack.length) (h64:R.m.stack.length≤64) (hX:R.m.stack.getD (R.m.stack.length - 1) 0=X) (hs:iSlf R (iWd R n)=true):
  iTo R n=({R with m:={R.m with stack:=R.m.stack.take (R.m.stack.length - 1),insts:=R.m.insts.set R.m.self.toNat ((R.m.insts.getD R.m.self.toNat (-1, -1,[],[])).1,(R.m.insts.getD R.m.self.toNat (-1, -1,[],[])).2.1,(R.m.insts.getD R.m.self.toNat (-1, -1,[],[])).2.2.1,(R.m.insts.getD R.m.self.toNat (-1, -1,[],[])).2.2.2.set (iWd R n).2.2.2.1.toNat X)}},0):=by
 unfold iTo
 dsimp only
 rw[if_neg (fun z=>z (Or.inr (Or.inr h))),top_ok hk,pd1 _ hk,hX,if_neg (by simp),if_neg (by omega),if_pos h,if_neg (by rw[hs];simp)]
 rw[swp_pop (by exact hk) (by exact h64)]
 simp only[List.getD_cons_zero]
theorem toK {R:Rs} {n X:Int} (h:(iWd R n).2.2.1=4∨(iWd R n).2.2.1=6∧X < R.m.words.length) (hk:1≤R.m.stack.length) (h64:R.m.stack.length≤64) (hX:R.m.stack.getD (R.m.stack.length - 1) 0=X):
  iTo R n=({R with m:={R.m with stack:=R.m.stack.take (R.m.stack.length - 1),words:=R.m.words.set n.toNat ((iWd R n).1,(iWd R n).2.1,(iWd R n).2.2.1,X,(iWd R n).2.2.2.2)}},0):=by
 unfold iTo
 dsimp only
 rw[if_neg (fun z=>z (by omega)),top_ok hk,pd1 _ hk,hX,if_neg (by simp),if_neg (by simp only[List.getD_cons_zero];omega),if_neg (by omega)]
 rw[swp_pop (by exact hk) (by exact h64)]
 simp only[List.getD_cons_zero]
theorem w_takeUh {B:Nat} {D:Nat→Prop} {w:World} {q:Nat} {s b:Sv} {vf:Value} {fs:List Fm} {nxt fuel thr:Int} (h:RunL B D w q s b vf fs nxt fuel thr) (k:Nat) (hk:s.m.stack.length < k) (hs:s.m.stack.length≤64):
  Calls Tryz.prog 134 #[.pointer (some ⟨q,0,none⟩), .int .i64 k] w fun e w'=>∃v1 v2,e= .returned (.tuple #[v2, .int .i64 5])∧RunL B D w' q (s.stk v1 []) b vf fs nxt fuel thr∧w.grownBy w' (some q):=by
 have c:=w_take q _ _ _ _ k w h.st rfl h.hs.stack.now hs
 rw[pop_no _ _ hk] at c
 refine c.mono ?_
 rintro e w2 ⟨v1,v2,rfl,st2,o1,o2,g2⟩
 exact ⟨v1,v2,rfl,h.stk g2 st2 o1,g2⟩
theorem w_takeKh {B:Nat} {D:Nat→Prop} {w:World} {q:Nat} {s b:Sv} {vf:Value} {fs:List Fm} {nxt fuel thr:Int} (h:RunL B D w q s b vf fs nxt fuel thr) (k:Nat) (hk:k≤s.m.stack.length) (hs:s.m.stack.length≤64):
  Calls Tryz.prog 134 #[.pointer (some ⟨q,0,none⟩), .int .i64 k] w fun e w'=>∃v1 v2,e= .returned (.tuple #[v2, .int .i64 0])∧RunL B D w' q (s.stk v1 (s.m.stack.take (s.m.stack.length - k))) b vf fs nxt fuel thr∧Stk.RdN w.heap.size w' v2 (s.m.stack.drop (s.m.stack.length - k))∧w.grownBy w' (some q):=by
 have c:=w_take q _ _ _ _ k w h.st rfl h.hs.stack.now hs
 rw[pop_ok _ _ hk] at c
 refine c.mono ?_
 rintro e w2 ⟨v1,v2,rfl,st2,o1,o2,g2⟩
 exact ⟨v1,v2,rfl,h.stk g2 st2 o1,o2,g2⟩
theorem st_gb {w W:World} {q c:Nat} {cs:Array Value} {T:TypeId} (st:Stands w c cs T) (g:w.grownBy W (some q)) (hne:¬c=q):Stands W c cs T:=by
 unfold Stands at st ⊢
 rw[g.block c (Array.getElem?_eq_some_iff.1 st).1 (fun e=>by injection e with e;exact hne e)]
 exact st
def ToP (B:Nat) (D:Nat→Prop) (q:Nat) (s b:Sv) (vf:Value) (fs:List Fm) (nxt fuel thr:Int) (w:World) (r:Rs×Int):Ending→World→Prop:=fun e w'=>
 e= .returned (.int .i64 r.2)∧Below B w w'∧∃s',RunL B D w' q s' b vf fs nxt fuel thr∧(r.2=0→s'.m=r.1.m∧s'.ret=r.1.ret)∧(¬r.2=0→s'.m.words=s.m.words∧s'.m.insts=s.m.insts)
theorem ToP.no {B:Nat} {D:Nat→Prop} {q:Nat} {s b s':Sv} {vf:Value} {fs:List Fm} {nxt fuel thr:Int} {w w':World} {R:Rs} {E:Int} (hE:¬E=0) (L:Below B w w') (h:RunL B D w' q s' b vf fs nxt fuel thr) (e1:s'.m.words=s.m.words) (e2:s'.m.insts=s.m.insts):ToP B D q s b vf fs nxt fuel thr w (R,E) (.returned (.int .i64 E)) w':=⟨rfl,L,s',h,fun e=>absurd e hE,fun _=>⟨e1,e2⟩⟩
theorem ToP.yes {B:Nat} {D:Nat→Prop} {q:Nat} {s b s':Sv} {vf:Value} {fs:List Fm} {nxt fuel thr:Int} {w w':World} {R:Rs} (L:Below B w w') (h:RunL B D w' q s' b vf fs nxt fuel thr) (e1:s'.m=R.m) (e2:s'.ret=R.ret):ToP B D q s b vf fs nxt fuel thr w (R,0) (.returned (.int .i64 0)) w':=⟨rfl,L,s',h,fun _=>⟨e1,e2⟩,fun e=>absurd rfl e⟩
theorem cel_lt {R:Rs} (ok:Okr R) {n:Nat} (hn:n < R.m.words.length) (h7:(iWd R n).2.2.1=7) (hs:iSlf R (iWd R n)=true):0≤R.m.self∧R.m.self.toNat < R.m.insts.length∧(iWd R n).2.2.2.1.toNat < (R.m.insts.getD R.m.self.toNat (-1, -1,[],[])).2.2.2.length:=by
 have ew:iWd R n=R.m.words.getD n ([],0,0,0,[]):=by unfold iWd;rw[Int.toNat_natCast]
 rcases wd_is ok.frm hn with q|q
 ·rw[←ew] at q;omega
 ·rw[←ew] at q
  have w:=q.2.2
  unfold wofF at w
  simp only[Bool.and_eq_true,decide_eq_true_eq] at w
  have w4:=w.2.2.2
  rw[if_neg (by omega)] at w4
  simp only[Bool.and_eq_true,decide_eq_true_eq] at w4
  have w7:=w4.2.1 h7
  unfold iSlf at hs
  simp only[Bool.and_eq_true,decide_eq_true_eq] at hs
  have hb:=slf_bd ok.frm
  have hi:R.m.self.toNat < R.m.insts.length:=by omega
  have hx:=(frm_parts ok.frm).2.2.2.2.1
  unfold insF at hx
  simp only[Bool.and_eq_true,decide_eq_true_eq,List.all_eq_true] at hx
  have hm:R.m.insts.getD R.m.self.toNat (-1, -1,[],[])∈R.m.insts:=by
   rw[List.getD_eq_getElem?_getD,List.getElem?_eq_getElem hi]
   exact List.getElem_mem _
  have o:=hx.2.1 _ hm
  unfold okI at o
  rw[if_neg (by omega)] at o
  simp only[Bool.and_eq_true,decide_eq_true_eq] at o
  have nn:=(wd_num ok n).1
  refine ⟨hs.1,hi, ?_⟩
  rw[o.2.1,hs.2]
  omega
theorem idx_c32 (T:IntKind) (g m cap n:Nat) (h:n < m):∀w',(Instr.indexAt 22 (.slice (some ⟨g,0,none⟩) m cap) (.int T (n:Int))).run Tryz.prog w'= .ok (.pointer (some ⟨g,n,none⟩)) w':=by
 intro w'
 rw[run_indexAt_slice (h:=Stk.uS),if_pos ⟨by omega,by omega⟩,Stk.zS]
 simp only[Result.andThen,Int.toNat_natCast]
 congr 3
 unfold Addr.add
 split
 ·rename_i hz;rw[←hz];simp
 ·simp
set_option maxHeartbeats 4000000 in
theorem w_into {B:Nat} {D:Nat→Prop} {w:World} {q:Nat} {s b:Sv} {vf:Value} {fs:List Fm} {nxt fuel thr:Int} (h:RunL B D w q s b vf fs nxt fuel thr) (ok:Okr (toR s fs thr)) (n:Nat) (hn:n < s.m.words.length):
  Calls Tryz.prog 135 #[.pointer (some ⟨q,0,none⟩), .int .u32 (n:Int)] w (ToP B D q s b vf fs nxt fuel thr w (iTo (toR s fs thr) n)):=by
 have hsl:s.m.stack.length≤64:=h64_of ok
 have hsc:cells s.m.stack:=ok.ran.m.stack
 have hwl:=frm_words ok.frm
 have hwl':s.m.words.length≤640:=hwl
 have eW:iWd (toR s fs thr) n=s.m.words[n]:=by
  unfold iWd
  rw[show (toR s fs thr).m.words=s.m.words from rfl,Int.toNat_natCast,List.getD_eq_getElem?_getD,List.getElem?_eq_getElem hn]
  rfl
 have hnum:=wd_num ok n
 rw[eW] at hnum
 obtain ⟨g,cap,vc,ev,hfz,hcl,sc⟩:=h.wdAt n hn
 obtain ⟨va,vq,evc⟩:=slr_slice sc.now
 obtain ⟨vl,hvl⟩:∃l,s.m.words[n].2.2.2.2.length=l:=⟨_,rfl⟩
 rw[hvl] at evc
 subst evc
 clear hvl
 have k0:=hcl 0 _ rfl
 rw[Nat.add_zero] at k0
 have k1:=hcl 1 _ rfl
 have k2:=hcl 2 _ rfl
 have k3:=hcl 3 _ rfl
 have k4:=hcl 4 _ rfl
 have hix:=idx_wd .u32 g s.m.words.length cap n hn
 obtain ⟨wd,hwd⟩:∃x,s.m.words[n]=x:=⟨_,rfl⟩
 rw[hwd] at k0 k1 k2 k3 hnum eW
 obtain ⟨NM,hNM⟩:∃x,strOfNums wd.1=x:=⟨_,rfl⟩
 obtain ⟨ND,hND⟩:∃x,wd.2.1=x:=⟨_,rfl⟩
 obtain ⟨KD,hKD⟩:∃x,wd.2.2.1=x:=⟨_,rfl⟩
 obtain ⟨NX,hNX⟩:∃x,wd.2.2.2.1=x:=⟨_,rfl⟩
 rw[hNM] at k0
 rw[hND] at k1
 rw[hKD] at k2
 rw[hNX] at k3 hnum
 have f2:=h.c2
 rw[ev] at f2
 have hix2:=hix
 have bb:=box_below w (.cells #[.string NM, .int .i64 ND, .int .i64 KD, .int .u32 NX, .slice va vl vq] 59)
 have h1:=h.below bb
 have st1:=stands_new w #[.string NM, .int .i64 ND, .int .i64 KD, .int .u32 NX, .slice va vl vq] 59
 have hqb:¬w.heap.size=q:=by have:=st_lt h.st;omega
 have ST:Hid (∀W,(w.alloc (.cells #[.string NM, .int .i64 ND, .int .i64 KD, .int .u32 NX, .slice va vl vq] 59)).grownBy W (some q)→Stands W w.heap.size #[.string NM, .int .i64 ND, .int .i64 KD, .int .u32 NX, .slice va vl vq] 59):=hid (fun W g=>st_gb st1 g hqb)
 have L1:Hid (Below B w (w.alloc (.cells #[.string NM, .int .i64 ND, .int .i64 KD, .int .u32 NX, .slice va vl vq] 59))):=hid (h.low (gb_of bb))
 have H1:=hid h1
 have b2':=st1.cell 2 _ rfl
 clear hcl hfz
 by_cases hkd:KD=4∨KD=6∨KD=7
 ·by_cases hk:s.m.stack.length < 1
  ·rw[toU (R:=(toR s fs thr)) (by rw[eW,hKD];exact hkd) hk]
   have ct:=w_takeUh h1 1 hk hsl
   clear h h1 eW hNM hND hKD hNX hwd st1 bb
   have hg:(KD !=4&&(KD !=6&&KD !=7))=false:=by rcases hkd with rfl|rfl|rfl <;> rfl
   rcases hkd with hkd|hkd|hkd
   ·subst hkd
    clear hg
    go_enter Tryz.func135,Tryz.ntmps135
    go_wp2_with (go_at_call 134;refine ct.mono ?_;rintro e w2 ⟨v1,v2,rfl,h2,g2⟩)
    go_ret
    exact ToP.no (by decide) (Below.trans L1.out (H1.out.low g2)) h2 rfl rfl
   ·subst hkd
    clear hg
    go_enter Tryz.func135,Tryz.ntmps135
    go_wp2_with (go_at_call 134;refine ct.mono ?_;rintro e w2 ⟨v1,v2,rfl,h2,g2⟩)
    go_ret
    exact ToP.no (by decide) (Below.trans L1.out (H1.out.low g2)) h2 rfl rfl
   ·subst hkd
    clear hg
    go_enter Tryz.func135,Tryz.ntmps135
    go_wp2_with (go_at_call 134;refine ct.mono ?_;rintro e w2 ⟨v1,v2,rfl,h2,g2⟩)
    go_ret
    exact ToP.no (by decide) (Below.trans L1.out (H1.out.low g2)) h2 rfl rfl
  ·have hk1:1≤s.m.stack.length:=by omega
   have edr:=drop1 s.m.stack hk1
   have ct:=w_takeKh h1 1 hk1 hsl
   have x0:=cells_get' hsc (s.m.stack.length - 1)
   obtain ⟨X,hX⟩:∃X,s.m.stack.getD (s.m.stack.length - 1) 0=X:=⟨_,rfl⟩
   rw[hX] at edr x0
   rw[edr] at ct
   have ci:=fun W (v1:Value) (h2:RunL B D W q (s.stk v1 (s.m.stack.take (s.m.stack.length - 1))) b vf fs nxt fuel thr)=>w_isWord q _ _ _ s.m.words X W h2.st rfl h2.wd.read x0 hwl'
   have CI:=hid ci
   have hcT:cells (s.m.stack.take (s.m.stack.length - 1)):=cells_take' hsc _
   have hlT:(s.m.stack.take (s.m.stack.length - 1)).length≤64:=by simp;omega
   have cv:=fun W (v1:Value) (h2:RunL B D W q (s.stk v1 (s.m.stack.take (s.m.stack.length - 1))) b vf fs nxt fuel thr)=>w_serves h2 (okr_stk ok v1 _ hlT hcT) NM ND KD NX wd hND (.slice va vl vq)
   have eS:∀v1,iSlf (toR (s.stk v1 (s.m.stack.take (s.m.stack.length - 1))) fs thr) wd=iSlf (toR s fs thr) wd:=fun _=>rfl
   simp only[eS] at cv
   have CV:=hid cv
   have HD1:Hid (∀k,D k→k < (w.alloc (.cells #[.string NM, .int .i64 ND, .int .i64 KD, .int .u32 NX, .slice va vl vq] 59)).heap.size):=hid (fun k hk=>(h1.hD k hk).2)
   have CT:=hid ct
   have HN:=hid hn
   have EV:=hid ev
   have HWD:=hid hwd
   have eWs:Hid (iWd (toR s fs thr) n=wd):=hid eW
   have hKDs:=hid hKD
   have hNXs:=hid hNX
   have HX:=hid hX
   have OK:=hid ok
   have HD0:Hid (∀k,D k→k < w.heap.size):=hid (fun k hk=>(h.hD k hk).2)
   clear h h1 hNM hND hwd st1 bb ci cv eS edr hX
   rcases hkd with hkd|hkd|hkd
   ·subst hkd
    have hW:(iWd (toR s fs thr) n).2.2.1=4∨(iWd (toR s fs thr) n).2.2.1=6∧X < ((toR s fs thr)).m.words.length:=(Or.inl (by rw[eW,hKD]))
    rw[toK (R:=(toR s fs thr)) hW hk1 hsl HX.out]
    clear hW hKD eW hNX hlT hcT
    show Calls _ _ _ _ (ToP B D q s b vf fs nxt fuel thr w ({(toR s fs thr) with m:={s.m with stack:=s.m.stack.take (s.m.stack.length - 1),words:=s.m.words.set ((n:Int)).toNat ((iWd (toR s fs thr) n).1,(iWd (toR s fs thr) n).2.1,(iWd (toR s fs thr) n).2.2.1,X,(iWd (toR s fs thr) n).2.2.2.2)}},0))
    rw[eWs.out,Int.toNat_natCast]
    go_enter Tryz.func135,Tryz.ntmps135
    go_upto_region 7 with (first
     |(go_at_call 134;refine CT.out.mono ?_;rintro e w2 ⟨v1,v2,rfl,h2,o2,g2⟩;have y2:=(ST.out _ g2).cell 2 _ rfl))
    have hd2:Below w2.heap.size w2 w2.drew:=below_drewN (Below.refl _ _) 1
    have h3:=h2.below hd2
    obtain ⟨a9,i9,k9⟩:=stb_idx (stb_rdn (D:=D) o2 HD1.out) 0 (by omega) (by simp)
    simp only[Int.toNat_zero,List.getD_cons_zero] at k9
    obtain ⟨g',cap',vc',ev',hfz',hcl', -⟩:=h3.wdAt n HN.out
    have eg:g'=g∧cap'=cap:=by
     have e1:=ev'.symm.trans EV.out
     injection e1 with e1 e2 e3
     injection e1 with e1
     injection e1 with e1
     exact ⟨e1,e3⟩
    obtain ⟨rfl,rfl⟩:=eg
    have z3:=hcl' 3 _ rfl
    have zf:=hfz' (n*5+3)
    have P:=hid (h3.putW n HN.out EV.out X)
    have K1:Hid (w2.drew.cell? ⟨q,2,none⟩=some (.slice (some ⟨g',0,none⟩) s.m.words.length cap')∧w2.drew.cell? a9=some (.int .u32 X)):=hid ⟨by rw[←EV.out];exact h3.c2,k9 _ (Agr.below hd2)⟩
    have K2:Hid ((w2.drew.setCell ⟨g',n*5+3,none⟩ (.int .u32 X)).cell? ⟨q,2,none⟩=some (.slice (some ⟨g',0,none⟩) s.m.words.length cap')∧(w2.drew.setCell ⟨g',n*5+3,none⟩ (.int .u32 X)).cell? a9=some (.int .u32 X)):=hid ⟨by rw[←EV.out];exact P.out.1.c2,k9 _ ((Agr.below hd2).trans P.out.2.2)⟩
    have L2:=hid (Below.trans L1.out (Below.trans (H1.out.low g2) (h2.low (gb_of hd2))))
    clear h2 h3 o2 k9 hfz' hcl' ev' hd2 k0 k1 k2 k3 k4 f2 b2'
    go_wp2_with fail
    go_region_held2 (fun W=>W.cell? ⟨q,2,none⟩=some (.slice (some ⟨g',0,none⟩) s.m.words.length cap')∧W.cell? a9=some (.int .u32 X)) (first|with_reducible exact K1.out|exact K2.out) (fail)
    go_wp2_with fail
    go_ret
    refine ToP.yes (Below.trans L2.out P.out.2.1) P.out.1 ?_ rfl
    have e5:(s.stk v1 (s.m.stack.take (s.m.stack.length - 1))).m.words[n]'HN.out=wd:=HWD.out
    simp only[e5]
    rfl
   ·subst hkd
    by_cases hc:(s.m.words.length:Int)≤X
    ·have hd:decide (X < (s.m.words.length:Int))=false:=decide_eq_false (by omega)
     rw[to6N (R:=(toR s fs thr)) (by rw[eW,hKD]) hk1 HX.out hc]
     clear hc hKD eW hNX hlT hcT
     go_enter Tryz.func135,Tryz.ntmps135
     go_wp2_with (first
      |(go_at_call 134;refine CT.out.mono ?_;rintro e w2 ⟨v1,v2,rfl,h2,o2,g2⟩;have c2:=CI.out _ _ h2;rw[hd] at c2;obtain ⟨a0,i0,z0⟩:=rd_idx o2.1 Stk.uS Stk.zS 0 (by omega) (by simp);simp only[show ((0:Int)).toNat=0 from rfl,List.getD_cons_zero] at z0;have y2:=(ST.out _ g2).cell 2 _ rfl)
      |(go_at_call 213;refine c2.mono ?_;rintro e w3 ⟨rfl,hw3⟩;obtain rfl:=hw3.symm))
     go_ret
     exact ToP.no (by decide) (Below.trans L1.out (H1.out.low g2)) h2 rfl rfl
    ·have hd:decide (X < (s.m.words.length:Int))=true:=decide_eq_true (by omega)
     have hW:(iWd (toR s fs thr) n).2.2.1=4∨(iWd (toR s fs thr) n).2.2.1=6∧X < ((toR s fs thr)).m.words.length:=(Or.inr ⟨by rw[eW,hKD],by show X < s.m.words.length;omega⟩)
     rw[toK (R:=(toR s fs thr)) hW hk1 hsl HX.out]
     clear hW hKD eW hNX hlT hcT
     show Calls _ _ _ _ (ToP B D q s b vf fs nxt fuel thr w ({(toR s fs thr) with m:={s.m with stack:=s.m.stack.take (s.m.stack.length - 1),words:=s.m.words.set ((n:Int)).toNat ((iWd (toR s fs thr) n).1,(iWd (toR s fs thr) n).2.1,(iWd (toR s fs thr) n).2.2.1,X,(iWd (toR s fs thr) n).2.2.2.2)}},0))
     rw[eWs.out,Int.toNat_natCast]
     go_enter Tryz.func135,Tryz.ntmps135
     go_upto_region 7 with (first
      |(go_at_call 134;refine CT.out.mono ?_;rintro e w2 ⟨v1,v2,rfl,h2,o2,g2⟩;have y2:=(ST.out _ g2).cell 2 _ rfl;have c2:=CI.out _ _ h2;rw[hd] at c2;obtain ⟨a0,i0,z0⟩:=rd_idx o2.1 Stk.uS Stk.zS 0 (by omega) (by simp);simp only[show ((0:Int)).toNat=0 from rfl,List.getD_cons_zero] at z0)
      |(go_at_call 213;refine c2.mono ?_;rintro e w3 ⟨rfl,hw3⟩;obtain rfl:=hw3.symm))
     clear i0 z0
     have hd2:Below w2.heap.size w2 w2.drew:=below_drewN (Below.refl _ _) 1
     have h3:=h2.below hd2
     obtain ⟨a9,i9,k9⟩:=stb_idx (stb_rdn (D:=D) o2 HD1.out) 0 (by omega) (by simp)
     simp only[Int.toNat_zero,List.getD_cons_zero] at k9
     obtain ⟨g',cap',vc',ev',hfz',hcl', -⟩:=h3.wdAt n HN.out
     have eg:g'=g∧cap'=cap:=by
      have e1:=ev'.symm.trans EV.out
      injection e1 with e1 e2 e3
      injection e1 with e1
      injection e1 with e1
      exact ⟨e1,e3⟩
     obtain ⟨rfl,rfl⟩:=eg
     have z3:=hcl' 3 _ rfl
     have zf:=hfz' (n*5+3)
     have P:=hid (h3.putW n HN.out EV.out X)
     have K1:Hid (w2.drew.cell? ⟨q,2,none⟩=some (.slice (some ⟨g',0,none⟩) s.m.words.length cap')∧w2.drew.cell? a9=some (.int .u32 X)):=hid ⟨by rw[←EV.out];exact h3.c2,k9 _ (Agr.below hd2)⟩
     have K2:Hid ((w2.drew.setCell ⟨g',n*5+3,none⟩ (.int .u32 X)).cell? ⟨q,2,none⟩=some (.slice (some ⟨g',0,none⟩) s.m.words.length cap')∧(w2.drew.setCell ⟨g',n*5+3,none⟩ (.int .u32 X)).cell? a9=some (.int .u32 X)):=hid ⟨by rw[←EV.out];exact P.out.1.c2,k9 _ ((Agr.below hd2).trans P.out.2.2)⟩
     have L2:=hid (Below.trans L1.out (Below.trans (H1.out.low g2) (h2.low (gb_of hd2))))
     clear h2 h3 o2 k9 hfz' hcl' ev' hd2 k0 k1 k2 k3 k4 f2 b2'
     go_wp2_with fail
     go_region_held2 (fun W=>W.cell? ⟨q,2,none⟩=some (.slice (some ⟨g',0,none⟩) s.m.words.length cap')∧W.cell? a9=some (.int .u32 X)) (first|with_reducible exact K1.out|exact K2.out) (fail)
     go_wp2_with fail
     go_ret
     refine ToP.yes (Below.trans L2.out P.out.2.1) P.out.1 ?_ rfl
     have e5:(s.stk v1 (s.m.stack.take (s.m.stack.length - 1))).m.words[n]'HN.out=wd:=HWD.out
     simp only[e5]
     rfl
   ·subst hkd
    by_cases hs:iSlf (toR s fs thr) wd=false
    ·rw[to7N (R:=(toR s fs thr)) (by rw[eW,hKD]) hk1 (by rw[eW];exact hs)]
     have cv2:=CV.out
     rw[hs] at cv2
     have CV2:=hid cv2
     clear hs hKD eW hNX hlT hcT cv2
     go_enter Tryz.func135,Tryz.ntmps135
     go_wp2_with (first
      |(go_at_call 134;refine CT.out.mono ?_;rintro e w2 ⟨v1,v2,rfl,h2,o2,g2⟩;have c2:=CV2.out _ _ h2;have y0:=(ST.out _ g2).cell 0 _ rfl;have y1:=(ST.out _ g2).cell 1 _ rfl;have y2:=(ST.out _ g2).cell 2 _ rfl;have y3:=(ST.out _ g2).cell 3 _ rfl;have y4:=(ST.out _ g2).cell 4 _ rfl;have H2:=hid h2;clear h2)
      |(go_at_call 80;refine c2.mono ?_;rintro e w3 ⟨rfl,b3⟩))
     go_ret
     exact ToP.no (by decide) (Below.trans L1.out (Below.trans (H1.out.low g2) (H2.out.low (gb_of b3)))) (H2.out.below b3) rfl rfl
    ·have hs':iSlf (toR s fs thr) wd=true:=by simpa using hs
     have cv2:=CV.out
     rw[hs'] at cv2
     have CV2:=hid cv2
     obtain ⟨c1,c2,c3⟩:=cel_lt ok (n:=n) HN.out (by rw[eW,hKD]) (by rw[eW];exact hs')
     rw[eW,hNX] at c3
     rw[to7K (R:=(toR s fs thr)) (by rw[eW,hKD]) hk1 hsl HX.out (by rw[eW];exact hs')]
     have c1':0≤s.m.self:=c1
     have c2':s.m.self.toNat < s.m.insts.length:=c2
     have eG:((toR s fs thr)).m.insts.getD ((toR s fs thr)).m.self.toNat (-1, -1,[],[])=s.m.insts[s.m.self.toNat]:=by
      show s.m.insts.getD s.m.self.toNat (-1, -1,[],[])=_
      rw[List.getD_eq_getElem?_getD,List.getElem?_eq_getElem c2']
      rfl
     rw[eG] at c3 ⊢
     rw[eW,hNX]
     show Calls _ _ _ _ (ToP B D q s b vf fs nxt fuel thr w ({(toR s fs thr) with m:={s.m with stack:=s.m.stack.take (s.m.stack.length - 1),insts:=s.m.insts.set s.m.self.toNat (s.m.insts[s.m.self.toNat].1,s.m.insts[s.m.self.toNat].2.1,s.m.insts[s.m.self.toNat].2.2.1,s.m.insts[s.m.self.toNat].2.2.2.set NX.toNat X)}},0))
     have C2:=hid c2'
     have C3:=hid c3
     have C1:=hid c1'
     have HNU:=hid hnum
     clear hs hs' hKD eW hNX hlT hcT cv2 c1 c2 c1' eG
     go_enter Tryz.func135,Tryz.ntmps135
     go_upto_region 13 with (first
      |(go_at_call 134;refine CT.out.mono ?_;rintro e w2 ⟨v1,v2,rfl,h2,o2,g2⟩;have c2:=CV2.out _ _ h2;have y0:=(ST.out _ g2).cell 0 _ rfl;have y1:=(ST.out _ g2).cell 1 _ rfl;have y2:=(ST.out _ g2).cell 2 _ rfl;have y3:=(ST.out _ g2).cell 3 _ rfl;have y4:=(ST.out _ g2).cell 4 _ rfl;have H2:=hid h2;have S2:=hid (stb_rdn (D:=D) o2 HD1.out);clear h2 o2)
      |(go_at_call 80;refine c2.mono ?_;rintro e w3 ⟨rfl,b3⟩;have x2:=((ST.out _ g2).below b3).cell 2 _ rfl))
     have hd3:Below w3.heap.size w3 w3.drew:=below_drewN (Below.refl _ _) 1
     have b4:Below w2.heap.size w2 w3.drew:=below_trans b3 hd3
     have h4:=H2.out.below b4
     obtain ⟨a9,i9,k9⟩:=stb_idx S2.out 0 (by omega) (by simp)
     simp only[Int.toNat_zero,List.getD_cons_zero] at k9
     obtain ⟨bi,oi,vI,irun,ikey,iown,ist⟩:=h4.inAt s.m.self.toNat C2.out
     obtain ⟨gi,capi,evI,ci0,cif,cD,ciP⟩:=ist NX.toNat C3.out
     have hgne:¬w.heap.size=gi:=by have:=HD0.out gi cD;omega
     have P:=hid (ciP X)
     have enx:((NX.toNat:Nat):Int)=NX:=Int.toNat_of_nonneg HNU.out.1
     have iix:=idx_c32 .u32 gi _ capi NX.toNat C3.out
     rw[enx] at iix
     rw[show ((s.m.self.toNat:Nat):Int)=s.m.self from Int.toNat_of_nonneg C1.out] at irun
     obtain ⟨ia,iq,ei⟩:=slr_slice h4.rdm.insts
     have ei':s.v.vi= .slice ia s.m.insts.length iq:=ei
     have irun':∀w',(Instr.indexAt 28 (.slice ia s.m.insts.length iq) (.int .i64 s.m.self)).run Tryz.prog w'= .ok (.pointer (some ⟨bi,oi,none⟩)) w':=fun w'=>by rw[←ei'];exact irun w'
     have zb:=((ST.out _ g2).below b4)
     obtain ⟨LL,hLL⟩:∃l,(s.m.insts[s.m.self.toNat]'C2.out).2.2.2.length=l:=⟨_,rfl⟩
     have evI':vI= .slice (some ⟨gi,0,none⟩) LL capi:=by rw[evI,←hLL];rfl
     rw[hLL] at iix
     have K1:Hid (w3.drew.cell? ⟨q,7,none⟩=some (.slice ia s.m.insts.length iq)∧w3.drew.cell? ⟨q,8,none⟩=some (.int .i64 s.m.self)∧w3.drew.cell? ⟨bi,oi+3,none⟩=some (.slice (some ⟨gi,0,none⟩) LL capi)∧w3.drew.cell? ⟨w.heap.size,3,none⟩=some (.int .u32 NX)∧w3.drew.cell? a9=some (.int .u32 X)):=hid ⟨by rw[←ei'];exact h4.c7,h4.c8,by rw[←evI'];exact (ikey _ (Agr.refl _ _ _)).2,zb.cell 3 _ rfl,k9 _ (Agr.below b4)⟩
     have K2:Hid ((w3.drew.setCell ⟨gi,NX.toNat,none⟩ (.int .u32 X)).cell? ⟨q,7,none⟩=some (.slice ia s.m.insts.length iq)∧(w3.drew.setCell ⟨gi,NX.toNat,none⟩ (.int .u32 X)).cell? ⟨q,8,none⟩=some (.int .i64 s.m.self)∧(w3.drew.setCell ⟨gi,NX.toNat,none⟩ (.int .u32 X)).cell? ⟨bi,oi+3,none⟩=some (.slice (some ⟨gi,0,none⟩) LL capi)∧(w3.drew.setCell ⟨gi,NX.toNat,none⟩ (.int .u32 X)).cell? ⟨w.heap.size,3,none⟩=some (.int .u32 NX)∧(w3.drew.setCell ⟨gi,NX.toNat,none⟩ (.int .u32 X)).cell? a9=some (.int .u32 X)):=hid ⟨by rw[←ei'];exact P.out.1.c7,P.out.1.c8,by rw[←evI'];exact (ikey _ P.out.2.2).2,(st_gb zb (gb_set (gb_refl _ _) _ _) hgne).cell 3 _ rfl,k9 _ ((Agr.below b4).trans P.out.2.2)⟩
     have L2:=hid (Below.trans L1.out (Below.trans (H1.out.low g2) (H2.out.low (gb_of b4))))
     obtain ⟨SS,hSS⟩:∃S,s.m.self=S:=⟨_,rfl⟩
     obtain ⟨NN,hNN⟩:∃S,NX.toNat=S:=⟨_,rfl⟩
     rw[hSS] at K1 K2 irun'
     rw[hNN] at K2 P iix ci0 cif
     have HNN:=hid hNN
     clear h4 k9 irun ikey iown ist evI evI' ciP ei ei' zb hd3 b4 k0 k1 k2 k3 k4 f2 b2' y0 y1 y2 y3 y4 hLL enx hSS hNN cD
     go_wp2_with fail
     go_region_held2 (fun W=>W.cell? ⟨q,7,none⟩=some (.slice ia s.m.insts.length iq)∧W.cell? ⟨q,8,none⟩=some (.int .i64 SS)∧W.cell? ⟨bi,oi+3,none⟩=some (.slice (some ⟨gi,0,none⟩) LL capi)∧W.cell? ⟨w.heap.size,3,none⟩=some (.int .u32 NX)∧W.cell? a9=some (.int .u32 X)) (first|with_reducible exact K1.out|exact K2.out) (fail)
     go_wp2_with fail
     go_ret
     refine ToP.yes (Below.trans L2.out P.out.2.1) P.out.1 ?_ rfl
     rw[←HNN.out]
     rfl
 ·rw[to14 (R:=(toR s fs thr)) (by rw[eW,hKD];exact hkd)]
  have h4:(KD !=4)=true:=by simp;omega
  have h6:(KD !=6)=true:=by simp;omega
  have h7:(KD !=7)=true:=by simp;omega
  clear h h1 eW hNM hND hKD hNX hwd st1 bb hkd
  go_enter Tryz.func135,Tryz.ntmps135
  go_wp2_with fail
  go_ret
  exact ToP.no (by decide) L1.out H1.out rfl rfl
end Go.Proofs.YtbamcchghecpeaaGreatDoor
