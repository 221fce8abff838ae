import Derived.Lib.Bytealg
import Derived.Lib.Strings
import Derived.Test.YtlokhciaaepenaaGreatDoorB6
set_option linter.unusedVariables false
set_option linter.unusedSimpArgs false
set_option maxRecDepth 100000
namespace Go.Proofs.YtlokhciaaepenaaGreatDoor
open Go.ChangeShapes Go.WideShapes Go.ChangeAt Go.RowKit
set_option maxHeartbeats 1000000 in
theorem w_pclone32 (v:Value) (xs:List Int) (w:World) (h:Rd .u32 w v xs) (hb:xs.length*4≤140737488355328):
  Calls Tryz.prog 57 #[v] w fun e w'=>∃v',e= .returned v'∧w'.ownsRow w.heap.size 26 1 v' xs.length (xs.map (Value.int .u32))∧Below w.heap.size w w':=by
 obtain ⟨i0,hi,hz0,hz1,hz2⟩:=info_parts infoU32
 obtain ⟨ao,cap,rfl,hc,hn,hx⟩:=rd_form h
 cases ao with
 |none=>
  have hc0:=hn rfl
  have hl:xs=[]:=List.eq_nil_of_length_eq_zero (by omega)
  subst hl
  subst hc0
  show Calls _ _ #[.slice none 0 0] _ _
  have q:=Lib.run_eql_slice_nil (P:=Tryz.prog) w 22 26 none 0 0 0 0 Tryz.underlying22
  go_enter Tryz.func57,Tryz.ntmps57
  go_wp2_with fail
  go_ret
  exact ⟨_,rfl,World.ownsRow_nil _ _ _ _,Below.refl _ _⟩
 |some a=>
  have q:=Lib.run_eql_slice_nil (P:=Tryz.prog) w 22 26 (some a) xs.length cap 0 0 Tryz.underlying22
  have ha:=h.below (box_below w (.cells #[] 26))
  go_enter Tryz.func57,Tryz.ntmps57
  go_wp2_with (at_builtin;refine wpList_append_rd (k:= .u32) rfl _ _ 22 rfl w.heap.size 26 i0 4 Tryz.underlying22 hi hz0 hz1 hz2 _ [] rfl (World.ownsRow_made w #[] 0 (Nat.le_refl _) (Nat.zero_le _) rfl) _ xs rfl ha (by unfold maxLen;simp;omega) (by simp;omega) (by simp) ?_;intro v5 w5 ho5 hg5)
  go_ret
  exact ⟨v5,rfl,by simpa using ho5,below_grown (box_below w _) hg5 (fun k hk=>by simp[Value.ownBlock,Act.eval] at hk;omega)⟩
set_option maxHeartbeats 1000000 in
theorem w_pclone8 (v:Value) (xs:List Int) (w:World) (h:Rd .u8 w v xs) (hz:xs.length≤140737488355328):
  Calls Tryz.prog 58 #[v] w fun e w'=>∃v',e= .returned v'∧w'.ownsRow w.heap.size 5 1 v' xs.length (xs.map (Value.int .u8))∧Below w.heap.size w w':=by
 obtain ⟨i0,hi,hz0,hz1,hz2⟩:=info_parts infoU8
 obtain ⟨ao,cap,rfl,hc,hn,hx⟩:=rd_form h
 cases ao with
 |none=>
  have hc0:=hn rfl
  have hl:xs=[]:=List.eq_nil_of_length_eq_zero (by omega)
  subst hl
  subst hc0
  show Calls _ _ #[.slice none 0 0] _ _
  have q:=Lib.run_eql_slice_nil (P:=Tryz.prog) w 23 5 none 0 0 0 0 Tryz.underlying23
  go_enter Tryz.func58,Tryz.ntmps58
  go_wp2_with fail
  go_ret
  exact ⟨_,rfl,World.ownsRow_nil _ _ _ _,Below.refl _ _⟩
 |some a=>
  have q:=Lib.run_eql_slice_nil (P:=Tryz.prog) w 23 5 (some a) xs.length cap 0 0 Tryz.underlying23
  have ha:=h.below (box_below w (.cells #[] 5))
  go_enter Tryz.func58,Tryz.ntmps58
  go_wp2_with (at_builtin;refine wpList_append_rd (k:= .u8) rfl _ _ 23 rfl w.heap.size 5 i0 1 Tryz.underlying23 hi hz0 hz1 hz2 _ [] rfl (World.ownsRow_made w #[] 0 (Nat.le_refl _) (Nat.zero_le _) rfl) _ xs rfl ha (by unfold maxLen;simp;omega) (by simp;omega) (by simp) ?_;intro v5 w5 ho5 hg5)
  go_ret
  exact ⟨v5,rfl,by simpa using ho5,below_grown (box_below w _) hg5 (fun k hk=>by simp[Value.ownBlock,Act.eval] at hk;omega)⟩
theorem infoNod8:(Tryz.prog.info? 51).map (fun i=>(i.zero,i.size,i.bytes))=some (some (.agg #[.string ⟨#[]⟩, .slice none 0 0, .int .i64 0, .slice none 0 0, .slice none 0 0]),5,96):=by kernel_rfl
theorem infoPrp8:(Tryz.prog.info? 92).map (fun i=>(i.zero,i.size,i.bytes))=some (some (.agg #[.string ⟨#[]⟩, .slice none 0 0]),2,40):=by kernel_rfl
set_option maxHeartbeats 1000000 in
theorem w_pcloneN (v:Value) (rows:List (List Value)) (w:World) (h:SlC 5 w v rows) (h1:∀r∈rows,∀u∈r,u.oneCell'=true) (hb:rows.length*96≤140737488355328):
  Calls Tryz.prog 91 #[v] w fun e w'=>∃v',e= .returned v'∧w'.ownsRow w.heap.size 51 5 v' rows.length rows.flatten∧Below w.heap.size w w':=by
 obtain ⟨i0,hi,hz0,hz1,hz2⟩:=info_parts infoNod8
 obtain ⟨ao,cap,rfl,hc,hn,hx⟩:=h.form
 cases ao with
 |none=>
  have hc0:=hn rfl
  have hl:rows=[]:=List.eq_nil_of_length_eq_zero (by omega)
  subst hl
  subst hc0
  show Calls _ _ #[.slice none 0 0] _ _
  have q:=Lib.run_eql_slice_nil (P:=Tryz.prog) w 27 51 none 0 0 0 0 Tryz.underlying27
  go_enter Tryz.func91,Tryz.ntmps91
  go_wp2_with fail
  go_ret
  exact ⟨_,rfl,World.ownsRow_nil _ _ _ _,Below.refl _ _⟩
 |some a=>
  have q:=Lib.run_eql_slice_nil (P:=Tryz.prog) w 27 51 (some a) rows.length cap 0 0 Tryz.underlying27
  have ha:=h.below (box_below w (.cells #[] 51))
  go_enter Tryz.func91,Tryz.ntmps91
  go_wp2_with (at_builtin;refine wpList_append_rows rfl _ _ 27 rfl w.heap.size 51 i0 _ 5 96 Tryz.underlying27 hi hz0 hz1 hz2 rfl (by decide) _ 0 [] rfl (World.ownsRow_made w #[] 0 (Nat.le_refl _) (Nat.zero_le _) rfl) _ rows rfl ha h1 (by unfold maxLen;omega) (by omega) (by simp) ?_;intro v5 w5 ho5 hg5)
  go_ret
  exact ⟨v5,rfl,by simpa using ho5,below_grown (box_below w _) hg5 (fun k hk=>by simp[Value.ownBlock,Act.eval] at hk;omega)⟩
set_option maxHeartbeats 1000000 in
theorem w_pcloneP (v:Value) (rows:List (List Value)) (w:World) (h:SlC 2 w v rows) (h1:∀r∈rows,∀u∈r,u.oneCell'=true) (hb:rows.length*40≤140737488355328):
  Calls Tryz.prog 92 #[v] w fun e w'=>∃v',e= .returned v'∧w'.ownsRow w.heap.size 92 2 v' rows.length rows.flatten∧Below w.heap.size w w':=by
 obtain ⟨i0,hi,hz0,hz1,hz2⟩:=info_parts infoPrp8
 obtain ⟨ao,cap,rfl,hc,hn,hx⟩:=h.form
 cases ao with
 |none=>
  have hc0:=hn rfl
  have hl:rows=[]:=List.eq_nil_of_length_eq_zero (by omega)
  subst hl
  subst hc0
  show Calls _ _ #[.slice none 0 0] _ _
  have q:=Lib.run_eql_slice_nil (P:=Tryz.prog) w 49 92 none 0 0 0 0 Tryz.underlying49
  go_enter Tryz.func92,Tryz.ntmps92
  go_wp2_with fail
  go_ret
  exact ⟨_,rfl,World.ownsRow_nil _ _ _ _,Below.refl _ _⟩
 |some a=>
  have q:=Lib.run_eql_slice_nil (P:=Tryz.prog) w 49 92 (some a) rows.length cap 0 0 Tryz.underlying49
  have ha:=h.below (box_below w (.cells #[] 92))
  go_enter Tryz.func92,Tryz.ntmps92
  go_wp2_with (at_builtin;refine wpList_append_rows rfl _ _ 49 rfl w.heap.size 92 i0 _ 2 40 Tryz.underlying49 hi hz0 hz1 hz2 rfl (by decide) _ 0 [] rfl (World.ownsRow_made w #[] 0 (Nat.le_refl _) (Nat.zero_le _) rfl) _ rows rfl ha h1 (by unfold maxLen;omega) (by omega) (by simp) ?_;intro v5 w5 ho5 hg5)
  go_ret
  exact ⟨v5,rfl,by simpa using ho5,below_grown (box_below w _) hg5 (fun k hk=>by simp[Value.ownBlock,Act.eval] at hk;omega)⟩
set_option maxHeartbeats 1000000 in
theorem w_pequal (va vb:Value) (xs ys:List Int) (w:World) (ha:Rd .u32 w va xs) (hb:Rd .u32 w vb ys):
  Calls Tryz.prog 112 #[va,vb] w fun e w'=>e= .returned (.bool (decide (xs=ys)))∧Dr w w':=by
 have hla:=rd_len ha uU (P:=Tryz.prog)
 have hlb:=rd_len hb uU (P:=Tryz.prog)
 by_cases hl:xs.length=ys.length
 ·have hn:((xs.length:Int) !=(ys.length:Int))=false:=by simp[hl]
  have hm:xs.length≤maxLen:=by
   rcases ha with ⟨_,_,_,_,rfl⟩|⟨_,_,_,_,_,g1,g2,_⟩
   ·simp
   ·omega
  unfold maxLen at hm
  have Hl:=hid hl
  have HA:=hid ha
  have HB:=hid hb
  clear hl ha hb
  go_enter Tryz.func112,Tryz.ntmps112
  go_wp2_with fail
  go_loopw [13] (fun i wx=>∃k:Nat,(k:Int)≤xs.length∧i= .int .i64 k∧Hid (xs.take k=ys.take k)∧Dr w wx) (fun i _=>(xs.length - intOf i).toNat)
  case atStart=>exact ⟨0,by omega,rfl,hid (by simp),dr_refl _⟩
  case round=>
   obtain ⟨k,hk,rfl,ht,hg⟩:=hrel
   by_cases hlt:(k:Int) < xs.length
   ·have hlt2:(k:Int) < (ys.length:Int):=by have:=Hl.out;omega
    obtain ⟨a1,i1,c1⟩:=rd_idx (HA.out.below (dr_below hg)) uU zU k (by omega) hlt
    obtain ⟨a2,i2,c2⟩:=rd_idx (HB.out.below (dr_below hg)) uU zU k (by omega) hlt2
    simp only[Int.toNat_natCast] at c1 c2
    obtain ⟨x,hx⟩:∃x,xs.getD k 0=x:=⟨_,rfl⟩
    obtain ⟨y,hy⟩:∃y,ys.getD k 0=y:=⟨_,rfl⟩
    rw[hx] at c1
    rw[hy] at c2
    by_cases hxy:x=y
    ·have ht2:Hid (xs.take (k+1)=ys.take (k+1)):=same_take xs ys k (by omega) (by omega) ht.out (by rw[hx,hy,hxy])
     have hb:(x !=y)=false:=by simp[hxy]
     clear hx hy hxy
     go_wp2_with fail
     go_quiet (fail)
     go_wp2_with fail
     go_roundw
     case rel=>exact ⟨k+1,by omega,by go_num,ht2,dr_more hg _⟩
     case measure=>simp[intOf];omega
    ·have hf:Hid (decide (xs=ys)=false):=by show _=_;simp;exact ne_at xs ys k (by rw[hx,hy];exact hxy)
     have hb:(x !=y)=true:=by simp[hxy]
     clear hx hy hxy
     go_wp2_with fail
     go_quiet (fail)
     go_wp2_with fail
     go_ret
     exact ⟨ret_b hf.out.symm,dr_more hg _⟩
   ·have hf:Hid (decide (xs=ys)=true):=by
     show _=_
     have h1:xs.take k=xs:=List.take_of_length_le (by omega)
     have h2:ys.take k=ys:=List.take_of_length_le (by have:=Hl.out;omega)
     have:=ht.out
     rw[h1,h2] at this
     simp[this]
    go_wp2_with fail
    go_ret
    exact ⟨ret_b hf.out.symm,hg⟩
 ·have hf:Hid (decide (xs=ys)=false):=by show _=_;simp;intro h;exact hl (by rw[h])
  have hn:((xs.length:Int) !=(ys.length:Int))=true:=by simp;omega
  clear hl
  go_enter Tryz.func112,Tryz.ntmps112
  go_wp2_with fail
  go_ret
  exact ⟨ret_b hf.out.symm,dr_refl _⟩
def AskN (w:World) (g:Nat) (lb:Array Value) (p:Nd→Bool) (t:List Nd):Prop:=
 ∀(W:World) (nm:ByteArray) (vu vp vc:Value) (x:Nd),Below w.heap.size w W→x∈t→strOfNums x.1=nm→Rd .u32 W vu x.2.1→SlR 2 propR W vp x.2.2.2.1→Rd .u32 W vc x.2.2.2.2→
  Calls Tryz.prog g (#[.agg #[.string nm,vu, .int .i64 x.2.2.1,vp,vc]]++lb) W fun e w'=>e= .returned (.bool (p x))∧Below W.heap.size W w'
theorem idx_hit {α:Type} {t:List α} {p:α→Bool} {k:Nat} (hk:k < t.length) (h:p t[k]=true) (hn:∀j (hj:j < k),p (t[j]'(by omega))=false):t.findIdx? p=some k:=by
 rw[List.findIdx?_eq_some_iff_getElem]
 exact ⟨hk,h,fun j hj=>by simp[hn j hj]⟩
theorem idx_miss {α:Type} {t:List α} {p:α→Bool} (hn:∀j (hj:j < t.length),p t[j]=false):t.findIdx? p=none:=by
 rw[List.findIdx?_eq_none_iff]
 intro x hx
 obtain ⟨j,hj,rfl⟩:=List.getElem_of_mem hx
 exact hn j hj
set_option maxHeartbeats 1000000 in
set_option maxRecDepth 100000 in
theorem w_pindexN (v:Value) (t:List Nd) (g:Nat) (lb:Array Value) (p:Nd→Bool) (w:World) (eg:∀args w,(callFunc g args).run Tryz.prog w= .ok (.enter g args) w) (h:RdT w v t) (hp:AskN w g lb p t):
  Calls Tryz.prog 87 #[v, .func (.func g) #[] lb] w fun e w'=>e= .returned (.int .i64 (fdI (t.findIdx? p)))∧Below w.heap.size w w':=by
 have hl:=slr_len h uN (P:=Tryz.prog)
 have hm:=slr_max h
 unfold maxLen at hm
 obtain ⟨R,hR⟩:∃R,fdI (t.findIdx? p)=R:=⟨_,rfl⟩
 rw[hR]
 have HR:=hid hR
 clear hR
 go_enter Tryz.func87,Tryz.ntmps87
 go_wp2_with fail
 go_loopw [8] (fun I wx=>∃k:Nat,(k:Int)≤t.length∧I= .int .i64 k∧Hid (∀j (hj:j < k) (hl:j < t.length),p t[j]=false)∧Below w.heap.size w wx) (fun I _=>(t.length - intOf I).toNat)
 case atStart=>exact ⟨0,by omega,rfl,hid (fun j hj=>by omega),Below.refl _ _⟩
 case round=>
  obtain ⟨k,hk,rfl,hq,hg⟩:=hrel
  by_cases hlt:(k:Int) < t.length
  ·have hkl:k < t.length:=by omega
   obtain ⟨b1,o1,N1,u1,p1,c1,r1,f0,f1,f2,f3,f4,e1,hu1,hp1,hc1⟩:=nod_at (h.below hg) k hkl
   have hc:=hp wr N1 u1 p1 c1 t[k] hg (List.getElem_mem hkl) e1 hu1 hp1 hc1
   obtain ⟨X,hX⟩:∃X,t[k].2.2.1=X:=⟨_,rfl⟩
   rw[hX] at f2 hc
   obtain ⟨ua,uq,rfl⟩:=rd_slice hu1
   obtain ⟨pa,pq,rfl⟩:=slr_slice hp1
   obtain ⟨ca,cq,rfl⟩:=rd_slice hc1
   cases hpk:p t[k]
   ·rw[hpk] at hc
    have hq2:Hid (∀j (hj:j < k+1) (hl:j < t.length),p t[j]=false):=by
     show ∀j _ _,_
     intro j hj hl
     by_cases hjk:j < k
     ·exact hq.out j hjk hl
     ·have:j=k:=by omega
      subst this
      exact hpk
    clear hpk e1 hX hp
    go_wp2_with (go_at_fn g;refine hc.mono ?_;rintro e w1 ⟨rfl,b1⟩)
    go_roundw
    case rel=>exact ⟨k+1,by omega,by go_num,hq2,below_trans hg b1⟩
    case measure=>simp[intOf];omega
   ·rw[hpk] at hc
    have hf:Hid (R=k):=by
     show _=_
     rw[←HR.out,idx_hit hkl hpk (fun j hj=>hq.out j hj (by omega))]
     rfl
    clear hpk e1 hX hp
    go_wp2_with (go_at_fn g;refine hc.mono ?_;rintro e w1 ⟨rfl,b1⟩)
    go_ret
    rw[hf.out]
    exact ⟨rfl,below_trans hg b1⟩
  ·have hf:Hid (R= -1):=by
    show _=_
    rw[←HR.out,idx_miss (fun j hj=>hq.out j (by omega) hj)]
    rfl
   go_wp2_with fail
   go_ret
   rw[hf.out]
   exact ⟨rfl,hg⟩
set_option maxHeartbeats 1000000 in
set_option maxRecDepth 100000 in
theorem w_pplace1 (nm s:ByteArray) (vd:Value) (x:Pp) (B:Nat) (W:World) (e0:strOfNums x.1=nm) (hb:bytesL x.1) (hd:Rd .u8 W vd x.2) (hs:W.cell? ⟨B,0,none⟩=some (.string s)):
  Calls Tryz.prog 115 #[.agg #[.string nm,vd], .pointer (some ⟨B,0,none⟩)] W fun e w'=>e= .returned (.bool (decide (x.1=L s)))∧Below W.heap.size W w':=by
 have hq:=str_eq8 nm s _ (L s) hb (LB_bytes s) e0 (nums_LB s)
 obtain ⟨da,dq,rfl⟩:=rd_slice hd
 have bx:=box_below W (.cells #[.string nm, .slice da x.2.length dq] 92)
 have hs2:=below_cell bx hs
 have z0:=(stands_new W #[.string nm, .slice da x.2.length dq] 92).cell 0 _ rfl
 go_enter Tryz.func115,Tryz.ntmps115
 go_wp2_with fail
 go_ret
 exact ⟨rfl,bx⟩
set_option maxHeartbeats 1000000 in
set_option maxRecDepth 100000 in
theorem w_pindexP (v:Value) (l:List Pp) (s:ByteArray) (B:Nat) (w:World) (h:SlR 2 propR w v l) (bl:∀x∈l,bytesL x.1) (hs:w.cell? ⟨B,0,none⟩=some (.string s)):
  Calls Tryz.prog 114 #[v, .func (.func 115) #[] #[.pointer (some ⟨B,0,none⟩)]] w fun e w'=>e= .returned (.int .i64 (fdI (pfF l (L s))))∧Below w.heap.size w w':=by
 have eg:∀args w,(callFunc 115 args).run Tryz.prog w= .ok (.enter 115 args) w:=enters_of Tryz.func115 (by kernel_rfl) rfl
 have hl:=slr_len h uR (P:=Tryz.prog)
 have hm:=slr_max h
 unfold maxLen at hm
 obtain ⟨R,hR⟩:∃R,fdI (pfF l (L s))=R:=⟨_,rfl⟩
 rw[hR]
 have HR:=hid hR
 clear hR
 go_enter Tryz.func114,Tryz.ntmps114
 go_wp2_with fail
 go_loopw [8] (fun I wx=>∃k:Nat,(k:Int)≤l.length∧I= .int .i64 k∧Hid (∀j (hj:j < k) (g:j < l.length),¬l[j].1=L s)∧Below w.heap.size w wx) (fun I _=>(l.length - intOf I).toNat)
 case atStart=>exact ⟨0,by omega,rfl,hid (fun j hj=>by omega),Below.refl _ _⟩
 case round=>
  obtain ⟨k,hk,rfl,hp,hg⟩:=hrel
  by_cases hlt:(k:Int) < l.length
  ·have hkl:k < l.length:=by omega
   obtain ⟨b,o,nm,vd,r,f0,f1,e0,hd0⟩:=prp_at8 (h.below hg (propR_below hg)) k hkl
   have hc:=w_pplace1 nm s vd l[k] B wr e0 (bl _ (List.getElem_mem hkl)) hd0 (below_cell hg hs)
   obtain ⟨da,dq,rfl⟩:=rd_slice hd0
   by_cases hx:l[k].1=L s
   ·have hf:Hid (R=k):=by
     show _=_
     rw[←HR.out,pf_hit hkl hx (fun j hj=>hp.out j hj (by omega))]
     rfl
    rw[decide_eq_true hx] at hc
    clear hx e0
    go_wp2_with (go_at_fn 115;refine hc.mono ?_;rintro e w1 ⟨rfl,b1⟩)
    go_ret
    rw[hf.out]
    exact ⟨rfl,below_trans hg b1⟩
   ·rw[decide_eq_false hx] at hc
    have hp2:Hid (∀j (hj:j < k+1) (g:j < l.length),¬l[j].1=L s):=by
     show ∀j _ _,_
     intro j hj g
     by_cases hjk:j < k
     ·exact hp.out j hjk g
     ·have:j=k:=by omega
      subst this
      exact hx
    clear hx e0
    go_wp2_with (go_at_fn 115;refine hc.mono ?_;rintro e w1 ⟨rfl,b1⟩)
    go_roundw
    case rel=>exact ⟨k+1,by omega,by go_num,hp2,below_trans hg b1⟩
    case measure=>simp[intOf];omega
  ·have hf:Hid (R= -1):=by
    show _=_
    have:pfF l (L s)=none:=by
     rw[pf_none]
     intro x hx
     obtain ⟨j,hj,rfl⟩:=List.getElem_of_mem hx
     exact hp.out j (by omega) hj
    rw[←HR.out,this]
    rfl
   go_wp2_with fail
   go_ret
   rw[hf.out]
   exact ⟨rfl,hg⟩
set_option maxHeartbeats 1000000 in
theorem w_pplace (v:Value) (l:List Pp) (s:ByteArray) (w:World) (h:SlR 2 propR w v l) (bl:∀x∈l,bytesL x.1):
  Calls Tryz.prog 95 #[v, .string s] w fun e w'=>e= .returned (.int .i64 (fdI (pfF l (L s))))∧Below w.heap.size w w':=by
 have hmf:∀(fn:Fn) (first cap:Array Value) (w:World),(Instr.makeFunc fn first cap).run Tryz.prog w= .ok (.func fn first cap) w:=fun _ _ _ _=>rfl
 have bx:=box_below w (.cells #[.string s] 9)
 have z0:=(stands_new w #[.string s] 9).cell 0 _ rfl
 have hc:=w_pindexP v l s w.heap.size _ (h.below bx (propR_below bx)) bl z0
 go_enter Tryz.func95,Tryz.ntmps95
 go_wp2_with (go_at_call 114;refine hc.mono ?_;rintro e w1 ⟨rfl,b1⟩)
 go_ret
 exact ⟨rfl,below_trans bx b1⟩
set_option maxHeartbeats 1000000 in
set_option maxRecDepth 100000 in
theorem w_pcalled1 (nm s:ByteArray) (vu vp vc vw:Value) (x:Nd) (un:List Int) (B B2:Nat) (W:World) (e0:strOfNums x.1=nm) (hb:bytesL x.1) (hu:Rd .u32 W vu x.2.1) (hp:SlR 2 propR W vp x.2.2.2.1) (hc:Rd .u32 W vc x.2.2.2.2) (hs:W.cell? ⟨B,0,none⟩=some (.string s)) (hs2:W.cell? ⟨B2,0,none⟩=some vw) (hw:Rd .u32 W vw un):
  Calls Tryz.prog 111 #[.agg #[.string nm,vu, .int .i64 x.2.2.1,vp,vc], .pointer (some ⟨B,0,none⟩), .pointer (some ⟨B2,0,none⟩)] W fun e w'=>e= .returned (.bool (decide (x.1=L s)&&decide (x.2.1=un)))∧Below W.heap.size W w':=by
 have hq:=str_eq8 nm s _ (L s) hb (LB_bytes s) e0 (nums_LB s)
 obtain ⟨ua,uq,rfl⟩:=rd_slice hu
 obtain ⟨pa,pq,rfl⟩:=slr_slice hp
 obtain ⟨ca,cq,rfl⟩:=rd_slice hc
 obtain ⟨wa,wq,rfl⟩:=rd_slice hw
 obtain ⟨X,hX⟩:∃X,x.2.2.1=X:=⟨_,rfl⟩
 rw[hX]
 have st:=stands_new W #[.string nm, .slice ua x.2.1.length uq, .int .i64 X, .slice pa x.2.2.2.1.length pq, .slice ca x.2.2.2.2.length cq] 51
 have bx:=box_below W (.cells #[.string nm, .slice ua x.2.1.length uq, .int .i64 X, .slice pa x.2.2.2.1.length pq, .slice ca x.2.2.2.2.length cq] 51)
 have z0:=st.cell 0 _ rfl
 have z1:=st.cell 1 _ rfl
 have l0:=below_cell bx hs
 have l1:=below_cell bx hs2
 by_cases h1:x.1=L s
 ·rw[decide_eq_true h1] at hq ⊢
  have ce:=w_pequal _ _ _ _ _ (hu.below bx) (hw.below bx)
  rw[Bool.true_and]
  obtain ⟨b,hb⟩:∃b,decide (x.2.1=un)=b:=⟨_,rfl⟩
  rw[hb] at ce ⊢
  clear h1 hb e0 hX
  go_enter Tryz.func111,Tryz.ntmps111
  go_wp2_with (go_at_call 112;refine ce.mono ?_;rintro e w1 ⟨rfl,d1⟩)
  go_ret
  exact ⟨rfl,below_trans bx (dr_below d1)⟩
 ·rw[decide_eq_false h1] at hq ⊢
  clear h1 e0 hX
  go_enter Tryz.func111,Tryz.ntmps111
  go_wp2_with fail
  go_ret
  exact ⟨rfl,bx⟩
set_option maxHeartbeats 1000000 in
set_option maxRecDepth 100000 in
theorem w_pcalled (s:ByteArray) (vw:Value) (un:List Int) (t:List Nd) (w:World) (hw:Rd .u32 w vw un) (bt:∀x∈t,bytN x):
  Calls Tryz.prog 89 #[.string s,vw] w fun e w'=>∃lb,e= .returned (.func (.func 111) #[] lb)∧AskN w' 111 lb (fun x=>decide (x.1=L s)&&decide (x.2.1=un)) t∧Below w.heap.size w w':=by
 have hmf:∀(fn:Fn) (first cap:Array Value) (w:World),(Instr.makeFunc fn first cap).run Tryz.prog w= .ok (.func fn first cap) w:=fun _ _ _ _=>rfl
 obtain ⟨wa,wq,rfl⟩:=rd_slice hw
 have b1:=box_below w (.cells #[.string s] 9)
 have b2:=box_below (w.alloc (.cells #[.string s] 9)) (.cells #[.slice wa un.length wq] 22)
 have z1:=((stands_new w #[.string s] 9).below b2).cell 0 _ rfl
 have z2:=(stands_new (w.alloc (.cells #[.string s] 9)) #[.slice wa un.length wq] 22).cell 0 _ rfl
 rw[size_al] at z2
 have b3:=below_trans b1 b2
 have ha:AskN ((w.alloc (.cells #[.string s] 9)).alloc (.cells #[.slice wa un.length wq] 22)) 111 #[.pointer (some ⟨w.heap.size,0,none⟩), .pointer (some ⟨w.heap.size+1,0,none⟩)] (fun x=>decide (x.1=L s)&&decide (x.2.1=un)) t:=by
  intro W nm vu vp vc x hb hx e0 hu hp hc
  exact w_pcalled1 nm s vu vp vc _ x un _ _ W e0 (bt x hx).1 hu hp hc (below_cell hb z1) (below_cell hb z2) ((hw.below b3).below hb)
 clear z1 z2
 go_enter Tryz.func89,Tryz.ntmps89
 go_wp2_with fail
 go_ret
 exact ⟨_,rfl,ha,b3⟩
set_option maxHeartbeats 1000000 in
set_option maxRecDepth 100000 in
theorem w_pmeant1 (nm s:ByteArray) (vu vp vc:Value) (x:Nd) (B:Nat) (W:World) (e0:strOfNums x.1=nm) (hb:bytesL x.1) (hu:Rd .u32 W vu x.2.1) (hp:SlR 2 propR W vp x.2.2.2.1) (hc:Rd .u32 W vc x.2.2.2.2) (hs:W.cell? ⟨B,0,none⟩=some (.string s)):
  Calls Tryz.prog 90 #[.agg #[.string nm,vu, .int .i64 x.2.2.1,vp,vc], .pointer (some ⟨B,0,none⟩)] W fun e w'=>e= .returned (.bool (decide (x.1=L s)))∧Below W.heap.size W w':=by
 have hq:=str_eq8 nm s _ (L s) hb (LB_bytes s) e0 (nums_LB s)
 obtain ⟨ua,uq,rfl⟩:=rd_slice hu
 obtain ⟨pa,pq,rfl⟩:=slr_slice hp
 obtain ⟨ca,cq,rfl⟩:=rd_slice hc
 obtain ⟨X,hX⟩:∃X,x.2.2.1=X:=⟨_,rfl⟩
 rw[hX]
 have st:=stands_new W #[.string nm, .slice ua x.2.1.length uq, .int .i64 X, .slice pa x.2.2.2.1.length pq, .slice ca x.2.2.2.2.length cq] 51
 have bx:=box_below W (.cells #[.string nm, .slice ua x.2.1.length uq, .int .i64 X, .slice pa x.2.2.2.1.length pq, .slice ca x.2.2.2.2.length cq] 51)
 have z0:=st.cell 0 _ rfl
 have l0:=below_cell bx hs
 clear hX e0
 go_enter Tryz.func90,Tryz.ntmps90
 go_wp2_with fail
 go_ret
 exact ⟨rfl,bx⟩
set_option maxHeartbeats 1000000 in
set_option maxRecDepth 100000 in
theorem w_pchild1 (nm:ByteArray) (vu vp vc:Value) (x:Nd) (P:Int) (g:Nat) (lb:Array Value) (q:Bool) (B B2:Nat) (W:World) (eg:∀args w,(callFunc g args).run Tryz.prog w= .ok (.enter g args) w) (hu:Rd .u32 W vu x.2.1) (hp:SlR 2 propR W vp x.2.2.2.1) (hc:Rd .u32 W vc x.2.2.2.2) (hs:W.cell? ⟨B,0,none⟩=some (.int .i64 P)) (hs2:W.cell? ⟨B2,0,none⟩=some (.func (.func g) #[] lb))
  (ha:∀W2,Below W.heap.size W W2→Calls Tryz.prog g (#[.agg #[.string nm,vu, .int .i64 x.2.2.1,vp,vc]]++lb) W2 fun e w'=>e= .returned (.bool q)∧Below W2.heap.size W2 w'):
  Calls Tryz.prog 88 #[.agg #[.string nm,vu, .int .i64 x.2.2.1,vp,vc], .pointer (some ⟨B,0,none⟩), .pointer (some ⟨B2,0,none⟩)] W fun e w'=>e= .returned (.bool (decide (x.2.2.1=P)&&q))∧Below W.heap.size W w':=by
 obtain ⟨ua,uq,rfl⟩:=rd_slice hu
 obtain ⟨pa,pq,rfl⟩:=slr_slice hp
 obtain ⟨ca,cq,rfl⟩:=rd_slice hc
 obtain ⟨X,hX⟩:∃X,x.2.2.1=X:=⟨_,rfl⟩
 rw[hX] at ha ⊢
 have st:=stands_new W #[.string nm, .slice ua x.2.1.length uq, .int .i64 X, .slice pa x.2.2.2.1.length pq, .slice ca x.2.2.2.2.length cq] 51
 have bx:=box_below W (.cells #[.string nm, .slice ua x.2.1.length uq, .int .i64 X, .slice pa x.2.2.2.1.length pq, .slice ca x.2.2.2.2.length cq] 51)
 have z0:=st.cell 0 _ rfl
 have z1:=st.cell 1 _ rfl
 have z2:=st.cell 2 _ rfl
 have z3:=st.cell 3 _ rfl
 have z4:=st.cell 4 _ rfl
 have l0:=below_cell bx hs
 have l1:=below_cell bx hs2
 have hca:=ha _ bx
 by_cases h1:X=P
 ·have hq:(X==P)=true:=by simpa using h1
  rw[decide_eq_true h1,Bool.true_and]
  clear h1 hX ha
  go_enter Tryz.func88,Tryz.ntmps88
  go_wp2_with (go_at_fn g;refine hca.mono ?_;rintro e w1 ⟨rfl,d1⟩)
  go_ret
  exact ⟨rfl,below_trans bx d1⟩
 ·have hq:(X==P)=false:=by simpa using h1
  rw[decide_eq_false h1,Bool.false_and]
  clear h1 hX ha hca
  go_enter Tryz.func88,Tryz.ntmps88
  go_wp2_with fail
  go_ret
  exact ⟨rfl,bx⟩
set_option maxHeartbeats 1000000 in
set_option maxRecDepth 100000 in
theorem w_pchild (v:Value) (t:List Nd) (P:Int) (g:Nat) (lb:Array Value) (p:Nd→Bool) (w:World) (eg:∀args w,(callFunc g args).run Tryz.prog w= .ok (.enter g args) w) (h:RdT w v t) (hp:AskN w g lb p t):
  Calls Tryz.prog 55 #[v, .int .i64 P, .func (.func g) #[] lb] w fun e w'=>e= .returned (.int .i64 (fdI (t.findIdx? (fun x=>decide (x.2.2.1=P)&&p x))))∧Below w.heap.size w w':=by
 have hmf:∀(fn:Fn) (first cap:Array Value) (w:World),(Instr.makeFunc fn first cap).run Tryz.prog w= .ok (.func fn first cap) w:=fun _ _ _ _=>rfl
 have ec:∀args w,(callFunc 88 args).run Tryz.prog w= .ok (.enter 88 args) w:=enters_of Tryz.func88 (by kernel_rfl) rfl
 obtain ⟨F,hF⟩:∃F,112=F:=⟨_,rfl⟩
 have b1:=box_below w (.cells #[.int .i64 P] 3)
 have b2:=box_below (w.alloc (.cells #[.int .i64 P] 3)) (.cells #[.func (.func g) #[] lb] F)
 have z1:=((stands_new w #[.int .i64 P] 3).below b2).cell 0 _ rfl
 have z2:=(stands_new (w.alloc (.cells #[.int .i64 P] 3)) #[.func (.func g) #[] lb] F).cell 0 _ rfl
 rw[size_al] at z2
 have b3:=below_trans b1 b2
 have ha:AskN ((w.alloc (.cells #[.int .i64 P] 3)).alloc (.cells #[.func (.func g) #[] lb] F)) 88 #[.pointer (some ⟨w.heap.size,0,none⟩), .pointer (some ⟨w.heap.size+1,0,none⟩)] (fun x=>decide (x.2.2.1=P)&&p x) t:=by
  intro W nm vu vp vc x hb hx e0 hu hq hc
  exact w_pchild1 nm vu vp vc x P g lb (p x) _ _ W eg hu hq hc (below_cell hb z1) (below_cell hb z2) (fun W2 g2=>hp W2 nm vu vp vc x (below_trans (below_trans b3 hb) g2) hx e0 (hu.below g2) (hq.below g2 (propR_below g2)) (hc.below g2))
 have hc:=w_pindexN v t _ _ _ _ ec (h.below b3) ha
 clear z1 z2 ha hp
 subst hF
 go_enter Tryz.func55,Tryz.ntmps55
 go_wp2_with (go_at_call 87;refine hc.mono ?_;rintro e w1 ⟨rfl,d1⟩)
 go_ret
 exact ⟨rfl,below_trans b3 d1⟩
def AskI (w:World) (g:Nat) (lb:Array Value) (p:Iz→Bool) (l:List Iz):Prop:=
 ∀(W:World) (ar:ByteArray) (vc:Value) (x:Iz),Below w.heap.size w W→x∈l→strOfNums x.2.2.1=ar→Rd .u32 W vc x.2.2.2→
  Calls Tryz.prog g (#[.agg #[.int .i64 x.1, .int .i64 x.2.1, .string ar,vc]]++lb) W fun e w'=>e= .returned (.bool (p x))∧Below W.heap.size W w'
set_option maxHeartbeats 1000000 in
set_option maxRecDepth 100000 in
theorem w_pindexI (v:Value) (l:List Iz) (g:Nat) (lb:Array Value) (p:Iz→Bool) (w:World) (eg:∀args w,(callFunc g args).run Tryz.prog w= .ok (.enter g args) w) (h:RdI w v l) (hp:AskI w g lb p l):
  Calls Tryz.prog 64 #[v, .func (.func g) #[] lb] w fun e w'=>e= .returned (.int .i64 (fdI (l.findIdx? p)))∧Below w.heap.size w w':=by
 have hl:=slr_len h uI (P:=Tryz.prog)
 have hm:=slr_max h
 unfold maxLen at hm
 obtain ⟨R,hR⟩:∃R,fdI (l.findIdx? p)=R:=⟨_,rfl⟩
 rw[hR]
 have HR:=hid hR
 clear hR
 go_enter Tryz.func64,Tryz.ntmps64
 go_wp2_with fail
 go_loopw [8] (fun I wx=>∃k:Nat,(k:Int)≤l.length∧I= .int .i64 k∧Hid (∀j (hj:j < k) (hl:j < l.length),p l[j]=false)∧Below w.heap.size w wx) (fun I _=>(l.length - intOf I).toNat)
 case atStart=>exact ⟨0,by omega,rfl,hid (fun j hj=>by omega),Below.refl _ _⟩
 case round=>
  obtain ⟨k,hk,rfl,hq,hg⟩:=hrel
  by_cases hlt:(k:Int) < l.length
  ·have hkl:k < l.length:=by omega
   obtain ⟨b1,o1,ar,c1,r1,f0,f1,f2,f3,e1,hc1⟩:=ins_at (h.below hg) k hkl
   have hc:=hp wr ar c1 l[k] hg (List.getElem_mem hkl) e1 hc1
   obtain ⟨X,hX⟩:∃X,l[k].1=X:=⟨_,rfl⟩
   obtain ⟨Y,hY⟩:∃Y,l[k].2.1=Y:=⟨_,rfl⟩
   rw[hX,hY] at hc
   rw[hX] at f0
   rw[hY] at f1
   obtain ⟨ca,cq,rfl⟩:=rd_slice hc1
   cases hpk:p l[k]
   ·rw[hpk] at hc
    have hq2:Hid (∀j (hj:j < k+1) (hl:j < l.length),p l[j]=false):=by
     show ∀j _ _,_
     intro j hj hl
     by_cases hjk:j < k
     ·exact hq.out j hjk hl
     ·have:j=k:=by omega
      subst this
      exact hpk
    clear hpk e1 hX hY hp
    go_wp2_with (go_at_fn g;refine hc.mono ?_;rintro e w1 ⟨rfl,b1⟩)
    go_roundw
    case rel=>exact ⟨k+1,by omega,by go_num,hq2,below_trans hg b1⟩
    case measure=>simp[intOf];omega
   ·rw[hpk] at hc
    have hf:Hid (R=k):=by
     show _=_
     rw[←HR.out,idx_hit hkl hpk (fun j hj=>hq.out j hj (by omega))]
     rfl
    clear hpk e1 hX hY hp
    go_wp2_with (go_at_fn g;refine hc.mono ?_;rintro e w1 ⟨rfl,b1⟩)
    go_ret
    rw[hf.out]
    exact ⟨rfl,below_trans hg b1⟩
  ·have hf:Hid (R= -1):=by
    show _=_
    rw[←HR.out,idx_miss (fun j hj=>hq.out j (by omega) hj)]
    rfl
   go_wp2_with fail
   go_ret
   rw[hf.out]
   exact ⟨rfl,hg⟩
set_option maxHeartbeats 1000000 in
set_option maxRecDepth 100000 in
theorem w_pcontainsI (v:Value) (l:List Iz) (g:Nat) (lb:Array Value) (p:Iz→Bool) (w:World) (eg:∀args w,(callFunc g args).run Tryz.prog w= .ok (.enter g args) w) (h:RdI w v l) (hp:AskI w g lb p l):
  Calls Tryz.prog 43 #[v, .func (.func g) #[] lb] w fun e w'=>e= .returned (.bool (l.any p))∧Below w.heap.size w w':=by
 have c1:=w_pindexI v l g lb p w eg h hp
 have hq:decide (0≤fdI (l.findIdx? p))=l.any p:=by
  cases hf:l.findIdx? p with
  |none=>
   rw[List.findIdx?_eq_none_iff] at hf
   have:l.any p=false:=by
    rw[List.any_eq_false]
    intro x hx
    rw[hf x hx]
    decide
   rw[this]
   rfl
  |some i=>
   rw[List.findIdx?_eq_some_iff_getElem] at hf
   obtain ⟨h1,h2,_⟩:=hf
   have:l.any p=true:=List.any_eq_true.2 ⟨_,List.getElem_mem h1,h2⟩
   rw[this]
   simp[fdI]
 obtain ⟨R,hR⟩:∃R,fdI (l.findIdx? p)=R:=⟨_,rfl⟩
 rw[hR] at c1 hq
 rw[←hq]
 clear hR hq
 obtain ⟨la,lq,rfl⟩:=slr_slice h
 go_enter Tryz.func43,Tryz.ntmps43
 go_wp2_with (go_at_call 64;refine c1.mono ?_;rintro e w1 ⟨rfl,b1⟩)
 go_ret
 exact ⟨rfl,b1⟩
set_option maxHeartbeats 1000000 in
set_option maxRecDepth 100000 in
theorem w_paskfree (X Y:Int) (ar:ByteArray) (vc:Value) (n:List Int) (W:World) (hc:Rd .u32 W vc n):
  Calls Tryz.prog 65 #[.agg #[.int .i64 X, .int .i64 Y, .string ar,vc]] W fun e w'=>e= .returned (.bool (decide (X= -1)))∧Below W.heap.size W w':=by
 obtain ⟨ca,cq,rfl⟩:=rd_slice hc
 have bx:=box_below W (.cells #[.int .i64 X, .int .i64 Y, .string ar, .slice ca n.length cq] 43)
 have z0:=(stands_new W #[.int .i64 X, .int .i64 Y, .string ar, .slice ca n.length cq] 43).cell 0 _ rfl
 have hq:(X== -1)=decide (X= -1):=rfl
 go_enter Tryz.func65,Tryz.ntmps65
 go_wp2_with fail
 go_ret
 exact ⟨ret_b (by first|rfl|exact hq),bx⟩
set_option maxHeartbeats 1000000 in
set_option maxRecDepth 100000 in
theorem w_paskon (X Y k:Int) (ar:ByteArray) (vc:Value) (n:List Int) (B:Nat) (W:World) (hc:Rd .u32 W vc n) (hs:W.cell? ⟨B,0,none⟩=some (.int .i64 k)):
  Calls Tryz.prog 44 #[.agg #[.int .i64 X, .int .i64 Y, .string ar,vc], .pointer (some ⟨B,0,none⟩)] W fun e w'=>e= .returned (.bool (decide (Y=k)))∧Below W.heap.size W w':=by
 obtain ⟨ca,cq,rfl⟩:=rd_slice hc
 have bx:=box_below W (.cells #[.int .i64 X, .int .i64 Y, .string ar, .slice ca n.length cq] 43)
 have z1:=(stands_new W #[.int .i64 X, .int .i64 Y, .string ar, .slice ca n.length cq] 43).cell 1 _ rfl
 have hs2:=below_cell bx hs
 have hq:(Y==k)=decide (Y=k):=rfl
 go_enter Tryz.func44,Tryz.ntmps44
 go_wp2_with fail
 go_ret
 exact ⟨ret_b (by first|rfl|exact hq),bx⟩
set_option maxHeartbeats 1000000 in
theorem w_phandle (i:Nat) (w:World) (hi:i < 4294967295):
  Calls Tryz.prog 18 #[.int .i64 i] w fun e w'=>e= .returned (.int .u32 ((i:Int)+1))∧w'=w:=by
 have e1:IntKind.i64.wrap ((i:Int)+1)=(i:Int)+1:=by rw[IntKind.wrap_i64];omega
 have e2:IntKind.u32.wrap ((i:Int)+1)=(i:Int)+1:=by rw[IntKind.wrap_u32];omega
 go_enter Tryz.func18,Tryz.ntmps18
 go_wp2_with fail
 go_ret
 exact ⟨rfl,rfl⟩
def CutB (c:Int) (l:List Int) (A B:ByteArray) (f:Bool):Prop:=(f=false∧L A=l∧L B=[]∧∀x∈l,¬x=c)∨(f=true∧l=L A++c::L B∧∀x∈L A,¬x=c)
set_option maxHeartbeats 1000000 in
set_option maxRecDepth 100000 in
theorem w_slix47 (s:ByteArray) (w:World):
  Calls Tryz.prog 122 #[.string s, .string ⟨#[47]⟩] w fun e w'=>∃i,e= .returned (.int .i64 i)∧AtB (L s) 47 i∧w'=w:=by
 go_enter Tryz.func122,Tryz.ntmps122
 go_wp2_with (go_at_call 130;refine (w_slib s 47 _ (by decide) (by decide)).mono ?_;rintro e w1 ⟨i,rfl,hi,rfl⟩)
 ·have h:([47]==s.toList)=true:=by assumption
  go_ret
  have e:s.data.toList=[47]:=by rw[←ByteArray.toList_eq];exact (beq_iff_eq.1 h).symm
  refine ⟨_,rfl,Or.inr ⟨0,rfl, ?_, ?_,fun x hx=>by simp at hx⟩,rfl⟩
  ·simp[L,e]
  ·simp[L,e]
 ·go_ret
  exact ⟨i,rfl,hi,rfl⟩
set_option maxHeartbeats 1000000 in
set_option maxRecDepth 100000 in
theorem w_six47 (s:ByteArray) (w:World):
  Calls Tryz.prog 107 #[.string s, .string ⟨#[47]⟩] w fun e w'=>∃i,e= .returned (.int .i64 i)∧AtB (L s) 47 i∧w'=w:=by
 go_enter Tryz.func107,Tryz.ntmps107
 go_wp2_with (go_at_call 122;refine (w_slix47 s _).mono ?_;rintro e w1 ⟨i,rfl,hi,rfl⟩)
 go_ret
 exact ⟨i,rfl,hi,rfl⟩
set_option maxHeartbeats 1000000 in
set_option maxRecDepth 100000 in
theorem w_slix58 (s:ByteArray) (w:World):
  Calls Tryz.prog 122 #[.string s, .string ⟨#[58]⟩] w fun e w'=>∃i,e= .returned (.int .i64 i)∧AtB (L s) 58 i∧w'=w:=by
 go_enter Tryz.func122,Tryz.ntmps122
 go_wp2_with (go_at_call 130;refine (w_slib s 58 _ (by decide) (by decide)).mono ?_;rintro e w1 ⟨i,rfl,hi,rfl⟩)
 ·have h:([58]==s.toList)=true:=by assumption
  go_ret
  have e:s.data.toList=[58]:=by rw[←ByteArray.toList_eq];exact (beq_iff_eq.1 h).symm
  refine ⟨_,rfl,Or.inr ⟨0,rfl, ?_, ?_,fun x hx=>by simp at hx⟩,rfl⟩
  ·simp[L,e]
  ·simp[L,e]
 ·go_ret
  exact ⟨i,rfl,hi,rfl⟩
set_option maxHeartbeats 1000000 in
set_option maxRecDepth 100000 in
theorem w_slix64 (s:ByteArray) (w:World):
  Calls Tryz.prog 122 #[.string s, .string ⟨#[64]⟩] w fun e w'=>∃i,e= .returned (.int .i64 i)∧AtB (L s) 64 i∧w'=w:=by
 go_enter Tryz.func122,Tryz.ntmps122
 go_wp2_with (go_at_call 130;refine (w_slib s 64 _ (by decide) (by decide)).mono ?_;rintro e w1 ⟨i,rfl,hi,rfl⟩)
 ·have h:([64]==s.toList)=true:=by assumption
  go_ret
  have e:s.data.toList=[64]:=by rw[←ByteArray.toList_eq];exact (beq_iff_eq.1 h).symm
  refine ⟨_,rfl,Or.inr ⟨0,rfl, ?_, ?_,fun x hx=>by simp at hx⟩,rfl⟩
  ·simp[L,e]
  ·simp[L,e]
 ·go_ret
  exact ⟨i,rfl,hi,rfl⟩
set_option maxHeartbeats 1000000 in
set_option maxRecDepth 100000 in
theorem w_slcut58 (s:ByteArray) (w:World) (hs:s.size≤maxLen):
  Calls Tryz.prog 108 #[.string s, .string ⟨#[58]⟩] w fun e w'=>∃A B f,e= .returned (.tuple #[.string A, .string B, .bool f])∧CutB 58 (L s) A B f∧Below w.heap.size w w':=by
 unfold maxLen at hs
 go_enter Tryz.func108,Tryz.ntmps108
 go_wp2_with (go_at_call 122;refine (w_slix58 s _).mono ?_;rintro e w1 ⟨i,rfl,hi,rfl⟩;refine Hid.out ?_)
 rcases hi with ⟨rfl,h2⟩|⟨k,rfl,h2,h3,h4⟩
 ·refine hid ?_
  have H2:=hid h2
  clear h2
  go_wp2_with fail
  go_ret3
  exact ⟨s,_,false,rfl,Or.inl ⟨rfl,rfl,rfl,H2.out⟩,Below.refl _ _⟩
 ·refine hid ?_
  rw[L_len] at h2
  have H3:=hid h3
  have H4:=hid h4
  clear h3 h4
  have c1:(0:Int)≤k:=by omega
  have c2:(k:Int)≤s.size:=by omega
  have c3:(0:Int)≤(k:Int)+1:=by omega
  have c4:(k:Int)+1≤s.size:=by omega
  go_wp2_with fail
  go_quiet (fail)
  go_wp2_with fail
  go_ret3
  refine ⟨_,_,true,rfl,Or.inr ⟨rfl, ?_, ?_⟩,below_drewN (Below.refl _ _) _⟩
  ·rw[L_extract s 0 k (by omega),L_from]
   simpa using H3.out
  ·rw[L_extract s 0 k (by omega)]
   simpa using H4.out
set_option maxHeartbeats 1000000 in
set_option maxRecDepth 100000 in
theorem w_cut58 (s:ByteArray) (w:World) (hs:s.size≤maxLen):
  Calls Tryz.prog 84 #[.string s, .string ⟨#[58]⟩] w fun e w'=>∃A B f,e= .returned (.tuple #[.string A, .string B, .bool f])∧CutB 58 (L s) A B f∧Below w.heap.size w w':=by
 go_enter Tryz.func84,Tryz.ntmps84
 go_wp2_with (go_at_call 108;refine (w_slcut58 s _ hs).mono ?_;rintro e w1 ⟨A,B,f,rfl,h1,h2⟩)
 go_ret3
 exact ⟨A,B,f,rfl,h1,h2⟩
set_option maxHeartbeats 1000000 in
set_option maxRecDepth 100000 in
theorem w_slcut64 (s:ByteArray) (w:World) (hs:s.size≤maxLen):
  Calls Tryz.prog 108 #[.string s, .string ⟨#[64]⟩] w fun e w'=>∃A B f,e= .returned (.tuple #[.string A, .string B, .bool f])∧CutB 64 (L s) A B f∧Below w.heap.size w w':=by
 unfold maxLen at hs
 go_enter Tryz.func108,Tryz.ntmps108
 go_wp2_with (go_at_call 122;refine (w_slix64 s _).mono ?_;rintro e w1 ⟨i,rfl,hi,rfl⟩;refine Hid.out ?_)
 rcases hi with ⟨rfl,h2⟩|⟨k,rfl,h2,h3,h4⟩
 ·refine hid ?_
  have H2:=hid h2
  clear h2
  go_wp2_with fail
  go_ret3
  exact ⟨s,_,false,rfl,Or.inl ⟨rfl,rfl,rfl,H2.out⟩,Below.refl _ _⟩
 ·refine hid ?_
  rw[L_len] at h2
  have H3:=hid h3
  have H4:=hid h4
  clear h3 h4
  have c1:(0:Int)≤k:=by omega
  have c2:(k:Int)≤s.size:=by omega
  have c3:(0:Int)≤(k:Int)+1:=by omega
  have c4:(k:Int)+1≤s.size:=by omega
  go_wp2_with fail
  go_quiet (fail)
  go_wp2_with fail
  go_ret3
  refine ⟨_,_,true,rfl,Or.inr ⟨rfl, ?_, ?_⟩,below_drewN (Below.refl _ _) _⟩
  ·rw[L_extract s 0 k (by omega),L_from]
   simpa using H3.out
  ·rw[L_extract s 0 k (by omega)]
   simpa using H4.out
set_option maxHeartbeats 1000000 in
set_option maxRecDepth 100000 in
theorem w_cut64 (s:ByteArray) (w:World) (hs:s.size≤maxLen):
  Calls Tryz.prog 84 #[.string s, .string ⟨#[64]⟩] w fun e w'=>∃A B f,e= .returned (.tuple #[.string A, .string B, .bool f])∧CutB 64 (L s) A B f∧Below w.heap.size w w':=by
 go_enter Tryz.func84,Tryz.ntmps84
 go_wp2_with (go_at_call 108;refine (w_slcut64 s _ hs).mono ?_;rintro e w1 ⟨A,B,f,rfl,h1,h2⟩)
 go_ret3
 exact ⟨A,B,f,rfl,h1,h2⟩
theorem first_is47 (s:ByteArray) (h:1≤s.size):((s.extract 0 1).toList==[47])=decide ((L s).head? =some 47):=by
 rw[Bool.eq_iff_iff,beq_iff_eq,decide_eq_true_iff]
 rw[ByteArray.toList_eq,ByteArray.data_extract,Array.toList_extract]
 unfold L
 cases hd:s.data.toList with
 |nil=>have:=Lib.size_eq s;rw[hd,List.length_nil] at this;omega
 |cons a t=>
  simp only[List.extract_eq_take_drop,List.drop_zero,List.map_cons,List.head?_cons,Option.some.injEq]
  simp only[List.take_succ_cons,List.take_zero,List.cons.injEq,and_true]
  constructor
  ·rintro rfl;rfl
  ·intro h
   exact UInt8.toNat_inj.1 (by
    have:((47:UInt8).toNat:Int)=47:=by decide
    omega)
set_option maxHeartbeats 1000000 in
set_option maxRecDepth 100000 in
theorem w_slhp47 (s:ByteArray) (w:World) (hs:s.size≤maxLen):
  Calls Tryz.prog 104 #[.string s, .string ⟨#[47]⟩] w fun e w'=>e= .returned (.bool (decide ((L s).head? =some 47)))∧Below w.heap.size w w':=by
 unfold maxLen at hs
 by_cases h0:s.size=0
 ·have hs:s=⟨#[]⟩:=by
   apply ByteArray.ext
   exact Array.eq_empty_of_size_eq_zero h0
  subst hs
  go_enter Tryz.func104,Tryz.ntmps104
  go_wp2
  go_ret
  exact ⟨rfl,Below.refl _ _⟩
 ·have c1:(1:Int)≤s.size:=by omega
  have e1:=first_is47 s (by omega)
  go_enter Tryz.func104,Tryz.ntmps104
  go_wp2
  go_ret
  refine ⟨?_,Below.refl _ _⟩
  first|rw[←e1];rfl|(simp only[e1])
set_option maxHeartbeats 1000000 in
set_option maxRecDepth 100000 in
theorem w_cont47 (s:ByteArray) (w:World):
  Calls Tryz.prog 100 #[.string s, .string ⟨#[47]⟩] w fun e w'=>e= .returned (.bool (!((L s).all (fun c=>decide (¬c=47)))))∧w'=w:=by
 go_enter Tryz.func100,Tryz.ntmps100
 go_wp2_with (go_at_call 107;refine (w_six47 s _).mono ?_;rintro e w1 ⟨i,rfl,hi,rfl⟩)
 go_ret
 refine ⟨?_,rfl⟩
 rcases hi with ⟨rfl,h2⟩|⟨k,rfl,h2,h3,h4⟩
 ·have:(L s).all (fun c=>decide (¬c=47))=true:=List.all_eq_true.2 fun x hx=>decide_eq_true (h2 x hx)
  rw[this];rfl
 ·have:(L s).all (fun c=>decide (¬c=47))=false:=by
   rw[h3];simp
  rw[this]
  have:decide ((k:Int)≥0)=true:=decide_eq_true (by omega)
  first|rw[this];rfl|simp
set_option maxHeartbeats 1000000 in
set_option maxRecDepth 100000 in
theorem w_slcp47 (s:ByteArray) (w:World) (hs:s.size≤maxLen):
  Calls Tryz.prog 82 #[.string s, .string ⟨#[47]⟩] w fun e w'=>∃A,e= .returned (.tuple #[.string A, .bool (decide ((L s).head? =some 47))])∧((L s).head? =some 47→L A=(L s).drop 1)∧Below w.heap.size w w':=by
 unfold maxLen at hs
 by_cases hd:(L s).head? =some 47
 ·have h1:1≤s.size:=by
   cases hl:L s with
   |nil=>rw[hl] at hd;simp at hd
   |cons a t=>rw[←L_len s,hl];simp
  have c1:(1:Int)≤s.size:=by omega
  have ed:decide ((L s).head? =some 47)=true:=decide_eq_true hd
  go_enter Tryz.func82,Tryz.ntmps82
  go_wp2_with (go_at_call 104;refine (w_slhp47 s _ (by unfold maxLen;omega)).mono ?_;rintro e w1 ⟨rfl,hb⟩;rw[ed])
  go_ret2
  refine ⟨_,by rw[ed];rfl,fun _=> ?_,hb⟩
  first|exact L_from s 1|simpa using L_from s 1
 ·have ed:decide ((L s).head? =some 47)=false:=decide_eq_false hd
  go_enter Tryz.func82,Tryz.ntmps82
  go_wp2_with (go_at_call 104;refine (w_slhp47 s _ (by unfold maxLen;omega)).mono ?_;rintro e w1 ⟨rfl,hb⟩;rw[ed])
  go_ret2
  exact ⟨s,by rw[ed];rfl,fun h=>absurd h hd,hb⟩
set_option maxHeartbeats 1000000 in
set_option maxRecDepth 100000 in
theorem w_cp47 (s:ByteArray) (w:World) (hs:s.size≤maxLen):
  Calls Tryz.prog 52 #[.string s, .string ⟨#[47]⟩] w fun e w'=>∃A,e= .returned (.tuple #[.string A, .bool (decide ((L s).head? =some 47))])∧((L s).head? =some 47→L A=(L s).drop 1)∧Below w.heap.size w w':=by
 go_enter Tryz.func52,Tryz.ntmps52
 go_wp2_with (go_at_call 82;refine (w_slcp47 s _ hs).mono ?_;rintro e w1 ⟨A,rfl,h1,h2⟩)
 go_ret2
 exact ⟨A,rfl,h1,h2⟩
set_option maxHeartbeats 1000000 in
set_option maxRecDepth 100000 in
theorem w_cnt47 (s:ByteArray) (w:World):
  Calls Tryz.prog 106 #[.string s, .string ⟨#[47]⟩] w fun e w'=>e= .returned (.int .i64 (s.data.toList.count 47))∧w'=w:=by
 go_enter Tryz.func106,Tryz.ntmps106
 go_wp2
 rw[run_callFunc_extern Tryz.func121 (by kernel_rfl) (by kernel_rfl) (by kernel_rfl) (e:=Extern.BytealgCount.count) (by kernel_rfl),Lib.run_countString]
 simp only[Result.andThen]
 rw[Oper.upon_value]
 go_wp2
 go_ret
 exact ⟨rfl,rfl⟩
end Go.Proofs.YtlokhciaaepenaaGreatDoor
