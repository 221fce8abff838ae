import Derived.Deep.RegionHeld
import Derived.Deep.RegionLaw
import Derived.Shelf.Abstract
import Derived.Deep.Cut
import Derived.Deep.CutRange
import Derived.Deep.DeepCutAuto
import Derived.Test.YtbamcchghecpeaaGreatDoorB1
set_option linter.unusedVariables false
set_option linter.unusedSimpArgs false
set_option maxRecDepth 100000
namespace Go.Proofs.YtbamcchghecpeaaGreatDoor
open Go.ChangeShapes Go.WideShapes Go.ChangeAt Go.RowKit
set_option maxHeartbeats 1000000 in
set_option maxRecDepth 100000 in
theorem w_rnamedQ (s:ByteArray) (w:World) (hs:s.size≤maxLen):
  Calls Tryz.prog 46 #[.string s] w fun e w'=>e= .returned (.bool (nmF (L s)))∧Dr w w':=by
 have hs2:=hs
 unfold maxLen at hs2
 have z0:=run_bad 0 (by omega)
 have z1:=run_bad 1 (by omega)
 have z2:=run_bad 2 (by omega)
 have z3:=run_bad 3 (by omega)
 have z4:=run_bad 4 (by omega)
 have z5:=run_bad 5 (by omega)
 simp only[List.getD_eq_getElem?_getD,List.getElem?_cons_zero,List.getElem?_cons_succ,Option.getD_some,Int.cast_ofNat_Int] at z0 z1 z2 z3 z4 z5
 by_cases h1:1≤s.size∧s.size≤31
 ·obtain ⟨h1,h31⟩:=h1
  go_enter Tryz.func46,Tryz.ntmps46
  go_wp2_with fail
  go_loopw [3] (fun I wx=>∃(k:Nat),(k:Int)≤s.size∧I= .int .i64 k∧Hid (((L s).take k).all nmC=true)∧Dr w wx) (fun I _=>(s.size - intOf I).toNat)
  case atStart=>exact ⟨0,by omega,rfl,hid rfl,dr_refl _⟩
  case round=>
   obtain ⟨k,hk,rfl,ha,hb⟩:=hrel
   by_cases hlt:(k:Int) < s.size
   ·have hkk:k < s.size:=by omega
    obtain ⟨c,hc⟩:∃c,(s[k].toNat:Int)=c:=⟨_,rfl⟩
    have hcb:=L_bd s k hkk
    rw[hc] at hcb
    obtain ⟨c0,c1⟩:=hcb
    have hLd:Hid (L s=(L s).take k++c::(L s).drop (k+1)):=by
     show _=_
     rw[←hc,←L_drop s k hkk,List.take_append_drop]
    have hLt:Hid ((L s).take (k+1)=(L s).take k++[c]):=by show _=_;rw[←hc];exact L_take s k hkk
    cases hcc:nmC c
    ·have hf:Hid (nmF (L s)=false):=by show _=_;rw[hLd.out];exact nm_mid _ _ _ hcc
     have hcs:c < 33∨126 < c∨(65≤c∧c≤90)∨c=47∨c=92∨c=58∨c=91∨c=93∨c=64:=by simp[nmC] at hcc;omega
     have hrun:=run_at (w:=wr) s k hkk hs
     rw[hc] at hrun
     clear hcc hLd hLt hc
     rcases hcs with h|h|h|h|h|h|h|h|h
     ·go_wp2_with fail
      go_ret
      exact ⟨ret_b hf.out.symm,hb⟩
     ·go_wp2_with fail
      go_ret
      exact ⟨ret_b hf.out.symm,hb⟩
     ·obtain ⟨h,h'⟩:=h
      go_wp2_with fail
      go_ret
      exact ⟨ret_b hf.out.symm,hb⟩
     all_goals subst h
     all_goals go_wp2_with fail
     all_goals go_rounds 7
     all_goals go_ret
     all_goals exact ⟨ret_b hf.out.symm,hb⟩
    ·have ha2:Hid (((L s).take (k+1)).all nmC=true):=by
      show _=_
      rw[hLt.out,List.all_append,ha.out]
      simp[hcc]
     simp[nmC] at hcc
     have hrun:=run_at (w:=wr) s k hkk hs
     rw[hc] at hrun
     obtain ⟨q1,q2,q3,n1,n2,n3,n4,n5,n6⟩:=hcc
     clear hLd hLt hc
     rcases q3 with hq|hq
     all_goals go_wp2_with fail
     all_goals go_rounds 7
     all_goals go_roundw
     case rel=>exact ⟨k+1,by omega,by go_num,ha2,hb⟩
     case measure=>simp[intOf];omega
     case rel=>exact ⟨k+1,by omega,by go_num,ha2,hb⟩
     case measure=>simp[intOf];omega
   ·have hf:Hid (nmF (L s)=true):=by
     show _=_
     have:=ha.out
     rw[List.take_of_length_le (by rw[L_len];omega)] at this
     unfold nmF
     rw[this,L_len]
     simp
     omega
    go_wp2_with fail
    go_ret
    exact ⟨ret_b hf.out.symm,hb⟩
 ·have hf:Hid (nmF (L s)=false):=by
   show _=_
   unfold nmF
   rw[L_len]
   simp
   omega
  by_cases h0:s.size < 1
  ·go_enter Tryz.func46,Tryz.ntmps46
   go_wp2_with fail
   go_ret
   exact ⟨ret_b hf.out.symm,dr_refl _⟩
  ·have h32:(31:Int) < s.size:=by omega
   go_enter Tryz.func46,Tryz.ntmps46
   go_wp2_with fail
   go_ret
   exact ⟨ret_b hf.out.symm,dr_refl _⟩
theorem slr_head {α:Type} {P:Program} {R:World→List Value→α→Prop} {w:World} {v:Value} {xs:List α} {sz:Nat} (h:SlR sz R w v xs) {t:TypeId} (ht:P.underlying t=some (.slice (P.elem t))) (hs:∀w,(sizeOf (P.elem t)).run P w= .ok sz w) (n:Nat) (hn:n≤xs.length):
  ∃v',(∀w',(Instr.slice t v none (some (.int .i64 (n:Int))) none).run P w'= .ok v' w')∧SlR sz R w v' (xs.take n):=by
 obtain ⟨rows,h1,h2,h3⟩:=h
 obtain ⟨ao,cap,rfl,hc,hno,hx⟩:=h1.form
 refine ⟨sliced ao 0 n cap sz,fun w'=> ?_,rows.take n, ?_,by simp[h2],fun i hi=> ?_⟩
 ·rw[run_slice_h w' t ao rows.length cap ht .i64 (n:Int) (by omega) (by omega),hs]
  simp[Result.andThen]
 ·rcases Nat.eq_zero_or_pos n with h0|h0
  ·subst h0
   refine Or.inl ⟨if cap=0 then ao else ao.map (·.add (0*sz)),cap,by simp[sliced], ?_,by simp⟩
   intro he
   by_cases hc0:cap=0
   ·exact hc0
   ·rw[if_neg hc0] at he
    cases ao with
    |none=>exact hno rfl
    |some a=>cases he
  ·obtain ⟨hm,b,off,rfl,hcell⟩:=hx (by omega)
   have hl:(rows.take n).length=n:=by simp;omega
   refine Or.inr ⟨b,off,cap, ?_,by omega,by omega,hm,fun i hi=> ?_⟩
   ·rw[sliced,hl,if_neg (by omega)]
    simp[Addr.add]
   ·rw[hl] at hi
    have e:(rows.take n).getD i []=rows.getD i []:=by
     rw[List.getD_eq_getElem?_getD,List.getD_eq_getElem?_getD,List.getElem?_take,if_pos hi]
    rw[e]
    exact hcell i (by omega)
 ·have hi2:i < n:=by simp at hi;omega
  have e:(rows.take n).getD i []=rows.getD i []:=by
   rw[List.getD_eq_getElem?_getD,List.getD_eq_getElem?_getD,List.getElem?_take,if_pos hi2]
  rw[e,List.getElem_take]
  exact h3 i (by simp at hi;omega)
theorem frm_bad {t:List Nd} (i:Nat) (h:i < t.length) (hb:okN t i t[i]=false):frmT t=false:=by
 rw[Bool.eq_false_iff]
 intro hf
 obtain ⟨_,_,_,g⟩:=(frm_iff t).1 hf
 have:=g i h
 rw[hb] at this
 cases this
theorem frm_len {t:List Nd} (h:t.length=0∨32 < t.length):frmT t=false:=by
 rw[Bool.eq_false_iff]
 intro hf
 obtain ⟨g0,g1,_⟩:=(frm_iff t).1 hf
 omega
theorem frm_root {t:List Nd} (h:0 < t.length) (hb:rootF t[0]=false):frmT t=false:=by
 rw[Bool.eq_false_iff]
 intro hf
 obtain ⟨_,_,g,_⟩:=(frm_iff t).1 hf
 rw[hb] at g
 cases g
theorem okN_A {t:List Nd} {i:Nat} {x:Nd} (h0:¬i=0) (h:okA t i x=false):okN t i x=false:=by
 unfold okN
 rw[h,decide_eq_false h0]
 rfl
theorem okN_16 {t:List Nd} {i:Nat} {x:Nd} (h:16 < x.2.2.2.1.length∨16 < x.2.2.2.2.length):okN t i x=false:=by
 rw[Bool.eq_false_iff]
 intro g
 unfold okN at g
 simp only[Bool.and_eq_true,decide_eq_true_eq] at g
 omega
theorem okN_R {t:List Nd} {i:Nat} {x:Nd} (h:okR x.2.2.2.1=false):okN t i x=false:=by
 unfold okN
 rw[h]
 simp
theorem okR_bad {l:List Pp} (k:Nat) (h:k < l.length) (hb:okP l k l[k]=false):okR l=false:=by
 rw[Bool.eq_false_iff]
 intro g
 unfold okR at g
 rw[decide_eq_true_eq] at g
 have:=g k h
 rw[hb] at this
 cases this
theorem okA_bad {t:List Nd} {i:Nat} {x:Nd} (h:nmF x.1=false∨4 < x.2.1.length∨x.2.2.1 < 0∨(i:Int)≤x.2.2.1∨twF (t.take i) x.2.2.1 x.1 x.2.1=true):okA t i x=false:=by
 rw[Bool.eq_false_iff]
 intro g
 unfold okA at g
 simp only[Bool.and_eq_true,decide_eq_true_eq,Bool.not_eq_true'] at g
 obtain ⟨g1,g2,g3,g4,g5⟩:=g
 rcases h with h|h|h|h|h
 ·rw[g1] at h;cases h
 ·omega
 ·omega
 ·omega
 ·rw[g5] at h;cases h
theorem okP_bad {l:List Pp} {k:Nat} {x:Pp} (h:nmF x.1=false∨256 < x.2.length∨(0:Int)≤fdI (pfF (l.take k) x.1)):okP l k x=false:=by
 rw[Bool.eq_false_iff]
 intro g
 unfold okP at g
 simp only[Bool.and_eq_true,decide_eq_true_eq,Option.isNone_iff_eq_none] at g
 obtain ⟨g1,g2,g3⟩:=g
 rcases h with h|h|h
 ·rw[g1] at h;cases h
 ·omega
 ·rw[g3] at h
  unfold fdI at h
  simp at h
theorem okP_good {l:List Pp} {k:Nat} {x:Pp} (h1:nmF x.1=true) (h2:¬256 < x.2.length) (h3:¬(0:Int)≤fdI (pfF (l.take k) x.1)):okP l k x=true:=by
 unfold okP
 simp only[Bool.and_eq_true,decide_eq_true_eq,Option.isNone_iff_eq_none]
 refine ⟨h1,by omega, ?_⟩
 cases hp:pfF (l.take k) x.1 with
 |none=>rfl
 |some j=>
  rw[hp] at h3
  unfold fdI at h3
  simp at h3
set_option maxHeartbeats 8000000 in
set_option maxRecDepth 100000 in
theorem w_r8formed (v:Value) (t:List Nd) (w:World) (h:RdT w v t) (bt:∀x∈t,bytN x) (ls:∀x∈t,x.1.length≤maxLen∧∀p∈x.2.2.2.1,p.1.length≤maxLen):
  Calls Tryz.prog 31 #[v] w fun e w'=>e= .returned (.bool (frmT t))∧Below w.heap.size w w':=by
 have hla:=slr_len h uN (P:=Tryz.prog)
 have hm:=slr_max h
 unfold maxLen at hm
 by_cases h0:t.length=0
 ·have hf:=hid (frm_len (Or.inl h0))
  have hl1:(t.length:Int) < 1:=by omega
  clear h0
  go_enter Tryz.func31,Tryz.ntmps31
  go_wp2_with fail
  go_ret
  exact ⟨ret_b hf.out.symm,Below.refl _ _⟩
 ·by_cases h32:32 < t.length
  ·have hf:=hid (frm_len (Or.inr h32))
   have hl1:¬(t.length:Int) < 1:=by omega
   have hl2:(32:Int) < t.length:=by omega
   clear h0 h32
   go_enter Tryz.func31,Tryz.ntmps31
   go_wp2_with fail
   go_ret
   exact ⟨ret_b hf.out.symm,Below.refl _ _⟩
  ·have hl1:¬(t.length:Int) < 1:=by omega
   have hl2:¬(32:Int) < t.length:=by omega
   have ht0:0 < t.length:=by omega
   obtain ⟨b0,o0,N0,u0,p0,k0,r0,z0,z1,z2,z3,z4,e0,hu0,hp0,hc0⟩:=nod_at h 0 ht0
   have r0':∀w',(Instr.indexAt 27 v (.int .i64 0)).run Tryz.prog w'= .ok (.pointer (some ⟨b0,o0,none⟩)) w':=r0
   obtain ⟨ua0,uq0,rfl⟩:=rd_slice hu0
   have hN0:L N0=t[0].1:=by rw[←e0];exact LB_nums _ (bt _ (List.getElem_mem ht0)).1
   have hNe:(N0.toList==[])=decide (t[0].1=[]):=by
    rw[←hN0,Bool.eq_iff_iff,beq_iff_eq,decide_eq_true_eq]
    unfold L
    rw[ByteArray.toList_eq]
    simp
   obtain ⟨P0,hP0⟩:∃X,t[0].2.2.1=X:=⟨_,rfl⟩
   rw[hP0] at z2
   obtain ⟨n0,hn0⟩:∃n,t[0].2.1.length=n:=⟨_,rfl⟩
   rw[hn0] at z1
   by_cases g1:t[0].1=[]
   ·rw[decide_eq_true g1] at hNe
    have hNn:(N0.toList !=[])=false:=by simp[bne,hNe]
    have hNi:N0.toList.isEmpty=true:=by rw[←hNe];cases N0.toList <;> rfl
    by_cases g2:t[0].2.1=[]
    ·have hU0:¬(0:Int) < n0:=by rw[←hn0,g2];simp
     by_cases g3:t[0].2.2.1= -1
     ·have hP1:(P0 != -1)=false:=by rw[←hP0,g3];decide
      have hroot:Hid (rootF t[0]=true):=by show _=_;unfold rootF;simp[g1,g2,g3]
      have hlen32:Hid (t.length≤32∧1≤t.length):=⟨by omega,by omega⟩
      clear g1 g2 g3 hP0 hNe hN0 e0 r0 h0 h32 hn0 hu0
      go_enter Tryz.func31,Tryz.ntmps31
      go_wp2_with fail
      go_loopw [3] (fun I wx=>∃i:Nat,(i:Int)≤t.length∧I= .int .i64 i∧Hid (∀j (g:j < i) (hj:j < t.length),okN t j t[j]=true)∧Below w.heap.size w wx) (fun I _=>(t.length - intOf I).toNat)
      case atStart=>exact ⟨0,by omega,rfl,hid (fun j g=>by omega),Below.refl _ _⟩
      case round=>
       obtain ⟨i,hi,rfl,hok,hb⟩:=hrel
       by_cases hlt:(i:Int) < t.length
       ·have hil:i < t.length:=by omega
        obtain ⟨b1,o1,nm,u1,p1,c1,r1,f0,f1,f2,f3,f4,e1,hu1,hp1,hc1⟩:=nod_at h i hil
        obtain ⟨ua,uq,rfl⟩:=rd_slice hu1
        obtain ⟨pa,pq,rfl⟩:=slr_slice hp1
        obtain ⟨ca,cq,rfl⟩:=rd_slice hc1
        obtain ⟨P,hP⟩:∃X,t[i].2.2.1=X:=⟨_,rfl⟩
        rw[hP] at f2
        have l0:=below_cell hb f0
        have l1:=below_cell hb f1
        have l2:=below_cell hb f2
        have l3:=below_cell hb f3
        have l4:=below_cell hb f4
        clear f0 f1 f2 f3 f4
        have hNL:L nm=t[i].1:=by rw[←e1];exact LB_nums _ (bt _ (List.getElem_mem hil)).1
        have cn:=fun w=>w_rnamedQ nm w (by rw[←L_len,hNL];exact (ls _ (List.getElem_mem hil)).1)
        have ct:=fun W (g:Below w.heap.size w W)=>w_r8twin v t i P nm _ t[i].2.1 W (h.below g) (hu1.below g) bt (by omega)
        simp only[hNL] at cn ct
        have st0:=stands_new wr #[.string nm, .slice ua t[i].2.1.length uq, .int .i64 P, .slice pa t[i].2.2.2.1.length pq, .slice ca t[i].2.2.2.2.length cq] 91
        have hbx:=box_below wr (.cells #[.string nm, .slice ua t[i].2.1.length uq, .int .i64 P, .slice pa t[i].2.2.2.1.length pq, .slice ca t[i].2.2.2.2.length cq] 91)
        have hb0:=below_trans hb hbx
        have bad:=fun (h0:¬i=0) g=>hid (frm_bad i hil (okN_A h0 (okA_bad g)))
        by_cases hz:i=0
        ·have hi0:¬(0:Int) < i:=by omega
         have hA:Hid ((decide (i=0)||okA t i t[i])=true):=by show _=_;rw[decide_eq_true hz];rfl
         clear bad cn ct hNL e1 hP hz
         go_upto_region 9 with (fail)
         obtain ⟨W0,hW0⟩:∃W0,wr.alloc (.cells #[.string nm, .slice ua t[i].2.1.length uq, .int .i64 P, .slice pa t[i].2.2.2.1.length pq, .slice ca t[i].2.2.2.2.length cq] 91)=W0:=⟨_,rfl⟩
         rw[hW0] at st0 hb0 ⊢
         clear hW0 hbx l0 l1 l2 l3 l4
         have m3:=st0.cell 3 _ rfl
         have m4:=st0.cell 4 _ rfl
         by_cases hp16:16 < t[i].2.2.2.1.length
         ·have hf:=hid (frm_bad i hil (okN_16 (Or.inl hp16)))
          have y1:(16:Int) < t[i].2.2.2.1.length:=by omega
          go_wp2_with fail
          go_ret
          exact ⟨ret_b hf.out.symm,hb0⟩
         ·have y1:¬(16:Int) < t[i].2.2.2.1.length:=by omega
          by_cases hc16:16 < t[i].2.2.2.2.length
          ·have hf:=hid (frm_bad i hil (okN_16 (Or.inr hc16)))
           have y2:(16:Int) < t[i].2.2.2.2.length:=by omega
           go_wp2_with fail
           go_ret
           exact ⟨ret_b hf.out.symm,hb0⟩
          ·have y2:¬(16:Int) < t[i].2.2.2.2.length:=by omega
           have h16:Hid (t[i].2.2.2.1.length≤16∧t[i].2.2.2.2.length≤16):=⟨by omega,by omega⟩
           go_wp2_with fail
           go_loopw [5] (fun K wx=>∃k:Nat,(k:Int)≤t[i].2.2.2.1.length∧K= .int .i64 k∧Hid (∀m (g:m < k) (hm:m < t[i].2.2.2.1.length),okP t[i].2.2.2.1 m t[i].2.2.2.1[m]=true)∧Below W0.heap.size W0 wx) (fun K _=>(t[i].2.2.2.1.length - intOf K).toNat)
           case atStart=>exact ⟨0,by omega,rfl,hid (fun m g=>by omega),Below.refl _ _⟩
           case round=>
            obtain ⟨k,hk,rfl,hkp,hgk⟩:=hrel
            have bk:=below_trans hb0 hgk
            have sk:=st0.below hgk
            have j3:=sk.cell 3 _ rfl
            by_cases hkt:(k:Int) < t[i].2.2.2.1.length
            ·have hkl:k < t[i].2.2.2.1.length:=by omega
             have hpk:=hp1.below bk (propR_below bk)
             obtain ⟨bp,op,pn,vd,rp,s0,s1,en,hd⟩:=prp_at8 hpk k hkl
             obtain ⟨da,dq,rfl⟩:=rd_slice hd
             obtain ⟨vt,it,rt⟩:=slr_head hpk uR zR k (by omega)
             have hpL:L pn=t[i].2.2.2.1[k].1:=by rw[←en];exact LB_nums _ (((bt _ (List.getElem_mem hil)).2 _ (List.getElem_mem hkl)).1)
             have cn9:=fun w=>w_rnamedQ pn w (by rw[←L_len,hpL];exact (ls _ (List.getElem_mem hil)).2 _ (List.getElem_mem hkl))
             have cf9:=fun W (g:Below wr.heap.size wr W)=>w_r8find vt _ pn W (rt.below g (propR_below g)) (fun x hx=>((bt _ (List.getElem_mem hil)).2 x (List.mem_of_mem_take hx)).1)
             simp only[hpL] at cn9 cf9
             have bad:okP t[i].2.2.2.1 k t[i].2.2.2.1[k]=false→Hid (frmT t=false):=fun g=>frm_bad i hil (okN_R (okR_bad k hkl g))
             cases hnm:nmF t[i].2.2.2.1[k].1
             ·have hf:=bad (okP_bad (Or.inl hnm))
              rw[hnm] at cn9
              clear hnm bad cf9 en hpL
              go_wp2_with fail
              go_quiet (first|(go_at_call 46;exact Calls.quiet_of (cn9 _)))
              go_wp2_with fail
              go_ret
              exact ⟨ret_b hf.out.symm,below_drewN bk _⟩
             ·rw[hnm] at cn9
              by_cases hd256:256 < t[i].2.2.2.1[k].2.length
              ·have hf:=bad (okP_bad (Or.inr (Or.inl hd256)))
               have y5:(256:Int) < t[i].2.2.2.1[k].2.length:=by omega
               clear hnm bad cf9 en hpL hd256
               go_wp2_with fail
               go_quiet (first|(go_at_call 46;exact Calls.quiet_of (cn9 _)))
               go_wp2_with fail
               go_ret
               exact ⟨ret_b hf.out.symm,below_drewN bk _⟩
              ·have y5:¬(256:Int) < t[i].2.2.2.1[k].2.length:=by omega
               have good:¬(0:Int)≤fdI (pfF (t[i].2.2.2.1.take k) t[i].2.2.2.1[k].1)→okP t[i].2.2.2.1 k t[i].2.2.2.1[k]=true:=okP_good hnm hd256
               have bad2:=fun g=>bad (okP_bad (Or.inr (Or.inr g)))
               obtain ⟨F,hF⟩:∃F,fdI (pfF (t[i].2.2.2.1.take k) t[i].2.2.2.1[k].1)=F:=⟨_,rfl⟩
               rw[hF] at good bad2
               simp only[hF] at cf9
               by_cases hF0:0≤F
               ·have hf:=bad2 hF0
                clear hnm bad bad2 good en hpL hd256 hF
                go_wp2_with fail
                go_quiet (first|(go_at_call 46;exact Calls.quiet_of (cn9 _))|(go_at_call 48;exact Calls.quiet_of_same (cf9 _ (below_drewN (Below.refl _ _) _))))
                go_wp2_with fail
                go_ret
                exact ⟨ret_b hf.out.symm,below_drewN bk _⟩
               ·have hkp2:Hid (∀m (g:m < k+1) (hm:m < t[i].2.2.2.1.length),okP t[i].2.2.2.1 m t[i].2.2.2.1[m]=true):=by
                 show ∀m _ _,_
                 intro m g hm
                 by_cases hmk:m < k
                 ·exact hkp.out m hmk hm
                 ·have:m=k:=by omega
                  subst this
                  exact good hF0
                clear hnm bad bad2 good en hpL hd256 hF
                go_wp2_with fail
                go_quiet (first|(go_at_call 46;exact Calls.quiet_of (cn9 _))|(go_at_call 48;exact Calls.quiet_of_same (cf9 _ (below_drewN (Below.refl _ _) _))))
                go_wp2_with fail
                go_roundw
                case rel=>exact ⟨k+1,by omega,by go_num,hkp2,below_drewN hgk _⟩
                case measure=>simp[intOf];omega
            ·have hok2:Hid (∀j (g:j < i+1) (hj:j < t.length),okN t j t[j]=true):=by
              show ∀j _ _,_
              intro j g hj
              by_cases hji:j < i
              ·exact hok.out j hji hj
              ·have:j=i:=by omega
               subst this
               have hR:okR t[j].2.2.2.1=true:=by unfold okR;rw[decide_eq_true_eq];exact fun m hm=>hkp.out m (by omega) hm
               unfold okN
               rw[hR,decide_eq_true h16.out.1,decide_eq_true h16.out.2]
               have:=hA.out
               simpa using this
             go_wp2_with fail
             go_roundw
             case rel=>exact ⟨i+1,by omega,by go_num,hok2,bk⟩
             case measure=>simp[intOf];omega
        ·have hi0:(0:Int) < i:=by omega
         have a3:=st0.cell 0 _ rfl
         cases hnm:nmF t[i].1
         ·have hf:=bad hz (Or.inl hnm)
          rw[hnm] at cn
          clear bad ct hNL e1 hP hz hnm
          go_wp2_with (go_at_call 46;refine (cn _).mono ?_;rintro e q1 ⟨rfl,d1⟩;have st1:=st0.below (dr_below d1);have a1:=st1.cell 1 _ rfl;have a2:=st1.cell 2 _ rfl;have a0:=st1.cell 0 _ rfl;have bb1:=below_trans hb0 (dr_below d1))
          go_ret
          exact ⟨ret_b hf.out.symm,bb1⟩
         ·rw[hnm] at cn
          by_cases hu4:4 < t[i].2.1.length
          ·have hf:=bad hz (Or.inr (Or.inl hu4))
           have y0:(4:Int) < t[i].2.1.length:=by omega
           clear bad ct hNL e1 hP hz hnm hu4
           go_wp2_with (go_at_call 46;refine (cn _).mono ?_;rintro e q1 ⟨rfl,d1⟩;have st1:=st0.below (dr_below d1);have a1:=st1.cell 1 _ rfl;have a2:=st1.cell 2 _ rfl;have a0:=st1.cell 0 _ rfl;have bb1:=below_trans hb0 (dr_below d1))
           go_ret
           exact ⟨ret_b hf.out.symm,bb1⟩
          ·have y0:¬(4:Int) < t[i].2.1.length:=by omega
           by_cases hp0:P < 0
           ·have hf:=bad hz (Or.inr (Or.inr (Or.inl (by rw[hP];exact hp0))))
            clear bad ct hNL e1 hP hz hnm hu4
            go_wp2_with (go_at_call 46;refine (cn _).mono ?_;rintro e q1 ⟨rfl,d1⟩;have st1:=st0.below (dr_below d1);have a1:=st1.cell 1 _ rfl;have a2:=st1.cell 2 _ rfl;have a0:=st1.cell 0 _ rfl;have bb1:=below_trans hb0 (dr_below d1))
            go_ret
            exact ⟨ret_b hf.out.symm,bb1⟩
           ·by_cases hpi:(i:Int)≤P
            ·have hf:=bad hz (Or.inr (Or.inr (Or.inr (Or.inl (by rw[hP];exact hpi)))))
             clear bad ct hNL e1 hP hz hnm hu4
             go_wp2_with (go_at_call 46;refine (cn _).mono ?_;rintro e q1 ⟨rfl,d1⟩;have st1:=st0.below (dr_below d1);have a1:=st1.cell 1 _ rfl;have a2:=st1.cell 2 _ rfl;have a0:=st1.cell 0 _ rfl;have bb1:=below_trans hb0 (dr_below d1))
             go_ret
             exact ⟨ret_b hf.out.symm,bb1⟩
            ·cases htw:twF (t.take i) P t[i].1 t[i].2.1
             ·simp only[htw] at ct
              have hA:Hid ((decide (i=0)||okA t i t[i])=true):=by
               show _=_
               unfold okA
               rw[hnm,hP,htw]
               simp
               omega
              clear bad hNL e1 hP hz hnm hu4 htw
              go_upto_region 9 with (first|(go_at_call 46;refine (cn _).mono ?_;rintro e q1 ⟨rfl,d1⟩;have st1:=st0.below (dr_below d1);have a1:=st1.cell 1 _ rfl;have a2:=st1.cell 2 _ rfl;have a0:=st1.cell 0 _ rfl;have bb1:=below_trans hb0 (dr_below d1))|(go_at_call 47;refine (ct _ bb1).mono ?_;rintro e q2 ⟨rfl,d2⟩;have bb2:=below_trans bb1 (dr_below d2);have st2:=st1.below (dr_below d2)))
              clear hbx l0 l1 l2 l3 l4
              have m3:=st2.cell 3 _ rfl
              have m4:=st2.cell 4 _ rfl
              by_cases hp16:16 < t[i].2.2.2.1.length
              ·have hf:=hid (frm_bad i hil (okN_16 (Or.inl hp16)))
               have y1:(16:Int) < t[i].2.2.2.1.length:=by omega
               go_wp2_with fail
               go_ret
               exact ⟨ret_b hf.out.symm,bb2⟩
              ·have y1:¬(16:Int) < t[i].2.2.2.1.length:=by omega
               by_cases hc16:16 < t[i].2.2.2.2.length
               ·have hf:=hid (frm_bad i hil (okN_16 (Or.inr hc16)))
                have y2:(16:Int) < t[i].2.2.2.2.length:=by omega
                go_wp2_with fail
                go_ret
                exact ⟨ret_b hf.out.symm,bb2⟩
               ·have y2:¬(16:Int) < t[i].2.2.2.2.length:=by omega
                have h16:Hid (t[i].2.2.2.1.length≤16∧t[i].2.2.2.2.length≤16):=⟨by omega,by omega⟩
                go_wp2_with fail
                go_loopw [5] (fun K wx=>∃k:Nat,(k:Int)≤t[i].2.2.2.1.length∧K= .int .i64 k∧Hid (∀m (g:m < k) (hm:m < t[i].2.2.2.1.length),okP t[i].2.2.2.1 m t[i].2.2.2.1[m]=true)∧Below q2.heap.size q2 wx) (fun K _=>(t[i].2.2.2.1.length - intOf K).toNat)
                case atStart=>exact ⟨0,by omega,rfl,hid (fun m g=>by omega),Below.refl _ _⟩
                case round=>
                 obtain ⟨k,hk,rfl,hkp,hgk⟩:=hrel
                 have bk:=below_trans bb2 hgk
                 have sk:=st2.below hgk
                 have j3:=sk.cell 3 _ rfl
                 by_cases hkt:(k:Int) < t[i].2.2.2.1.length
                 ·have hkl:k < t[i].2.2.2.1.length:=by omega
                  have hpk:=hp1.below bk (propR_below bk)
                  obtain ⟨bp,op,pn,vd,rp,s0,s1,en,hd⟩:=prp_at8 hpk k hkl
                  obtain ⟨da,dq,rfl⟩:=rd_slice hd
                  obtain ⟨vt,it,rt⟩:=slr_head hpk uR zR k (by omega)
                  have hpL:L pn=t[i].2.2.2.1[k].1:=by rw[←en];exact LB_nums _ (((bt _ (List.getElem_mem hil)).2 _ (List.getElem_mem hkl)).1)
                  have cn9:=fun w=>w_rnamedQ pn w (by rw[←L_len,hpL];exact (ls _ (List.getElem_mem hil)).2 _ (List.getElem_mem hkl))
                  have cf9:=fun W (g:Below wr.heap.size wr W)=>w_r8find vt _ pn W (rt.below g (propR_below g)) (fun x hx=>((bt _ (List.getElem_mem hil)).2 x (List.mem_of_mem_take hx)).1)
                  simp only[hpL] at cn9 cf9
                  have bad:okP t[i].2.2.2.1 k t[i].2.2.2.1[k]=false→Hid (frmT t=false):=fun g=>frm_bad i hil (okN_R (okR_bad k hkl g))
                  cases hnm:nmF t[i].2.2.2.1[k].1
                  ·have hf:=bad (okP_bad (Or.inl hnm))
                   rw[hnm] at cn9
                   clear hnm bad cf9 en hpL
                   go_wp2_with fail
                   go_quiet (first|(go_at_call 46;exact Calls.quiet_of (cn9 _)))
                   go_wp2_with fail
                   go_ret
                   exact ⟨ret_b hf.out.symm,below_drewN bk _⟩
                  ·rw[hnm] at cn9
                   by_cases hd256:256 < t[i].2.2.2.1[k].2.length
                   ·have hf:=bad (okP_bad (Or.inr (Or.inl hd256)))
                    have y5:(256:Int) < t[i].2.2.2.1[k].2.length:=by omega
                    clear hnm bad cf9 en hpL hd256
                    go_wp2_with fail
                    go_quiet (first|(go_at_call 46;exact Calls.quiet_of (cn9 _)))
                    go_wp2_with fail
                    go_ret
                    exact ⟨ret_b hf.out.symm,below_drewN bk _⟩
                   ·have y5:¬(256:Int) < t[i].2.2.2.1[k].2.length:=by omega
                    have good:¬(0:Int)≤fdI (pfF (t[i].2.2.2.1.take k) t[i].2.2.2.1[k].1)→okP t[i].2.2.2.1 k t[i].2.2.2.1[k]=true:=okP_good hnm hd256
                    have bad2:=fun g=>bad (okP_bad (Or.inr (Or.inr g)))
                    obtain ⟨F,hF⟩:∃F,fdI (pfF (t[i].2.2.2.1.take k) t[i].2.2.2.1[k].1)=F:=⟨_,rfl⟩
                    rw[hF] at good bad2
                    simp only[hF] at cf9
                    by_cases hF0:0≤F
                    ·have hf:=bad2 hF0
                     clear hnm bad bad2 good en hpL hd256 hF
                     go_wp2_with fail
                     go_quiet (first|(go_at_call 46;exact Calls.quiet_of (cn9 _))|(go_at_call 48;exact Calls.quiet_of_same (cf9 _ (below_drewN (Below.refl _ _) _))))
                     go_wp2_with fail
                     go_ret
                     exact ⟨ret_b hf.out.symm,below_drewN bk _⟩
                    ·have hkp2:Hid (∀m (g:m < k+1) (hm:m < t[i].2.2.2.1.length),okP t[i].2.2.2.1 m t[i].2.2.2.1[m]=true):=by
                      show ∀m _ _,_
                      intro m g hm
                      by_cases hmk:m < k
                      ·exact hkp.out m hmk hm
                      ·have:m=k:=by omega
                       subst this
                       exact good hF0
                     clear hnm bad bad2 good en hpL hd256 hF
                     go_wp2_with fail
                     go_quiet (first|(go_at_call 46;exact Calls.quiet_of (cn9 _))|(go_at_call 48;exact Calls.quiet_of_same (cf9 _ (below_drewN (Below.refl _ _) _))))
                     go_wp2_with fail
                     go_roundw
                     case rel=>exact ⟨k+1,by omega,by go_num,hkp2,below_drewN hgk _⟩
                     case measure=>simp[intOf];omega
                 ·have hok2:Hid (∀j (g:j < i+1) (hj:j < t.length),okN t j t[j]=true):=by
                   show ∀j _ _,_
                   intro j g hj
                   by_cases hji:j < i
                   ·exact hok.out j hji hj
                   ·have:j=i:=by omega
                    subst this
                    have hR:okR t[j].2.2.2.1=true:=by unfold okR;rw[decide_eq_true_eq];exact fun m hm=>hkp.out m (by omega) hm
                    unfold okN
                    rw[hR,decide_eq_true h16.out.1,decide_eq_true h16.out.2]
                    have:=hA.out
                    simpa using this
                  go_wp2_with fail
                  go_roundw
                  case rel=>exact ⟨i+1,by omega,by go_num,hok2,bk⟩
                  case measure=>simp[intOf];omega
             ·have hf:=bad hz (Or.inr (Or.inr (Or.inr (Or.inr (by rw[hP];exact htw)))))
              simp only[htw] at ct
              clear bad hNL e1 hP hz hnm hu4 htw
              go_wp2_with (first|(go_at_call 46;refine (cn _).mono ?_;rintro e q1 ⟨rfl,d1⟩;have st1:=st0.below (dr_below d1);have a1:=st1.cell 1 _ rfl;have a2:=st1.cell 2 _ rfl;have a0:=st1.cell 0 _ rfl;have bb1:=below_trans hb0 (dr_below d1))|(go_at_call 47;refine (ct _ bb1).mono ?_;rintro e q2 ⟨rfl,d2⟩;have bb2:=below_trans bb1 (dr_below d2);have st2:=st1.below (dr_below d2)))
              go_ret
              exact ⟨ret_b hf.out.symm,bb2⟩
       ·have hf:Hid (frmT t=true):=by
         show _=_
         rw[frm_iff]
         exact ⟨hlen32.out.2,hlen32.out.1,hroot.out,fun j hj=>hok.out j (by omega) hj⟩
        go_wp2_with fail
        go_ret
        exact ⟨ret_b hf.out.symm,hb⟩
     ·have hP1:(P0 != -1)=true:=by rw[←hP0];simpa using g3
      have hf:=hid (frm_root ht0 (show rootF t[0]=false by unfold rootF;simp[g3]))
      clear g1 g2 g3 hP0 hNe hN0 e0 r0 h0 h32 hn0 hu0
      go_enter Tryz.func31,Tryz.ntmps31
      go_wp2_with fail
      go_ret
      exact ⟨ret_b hf.out.symm,Below.refl _ _⟩
    ·have hU0:(0:Int) < n0:=by have:=List.length_pos_iff.2 g2;omega
     have hf:=hid (frm_root ht0 (show rootF t[0]=false by unfold rootF;simp[g2]))
     clear g1 g2 hP0 hNe hN0 e0 r0 h0 h32 hn0 hu0
     go_enter Tryz.func31,Tryz.ntmps31
     go_wp2_with fail
     go_ret
     exact ⟨ret_b hf.out.symm,Below.refl _ _⟩
   ·rw[decide_eq_false g1] at hNe
    have hNn:(N0.toList !=[])=true:=by simp[bne,hNe]
    have hNi:N0.toList.isEmpty=false:=by rw[←hNe];cases N0.toList <;> rfl
    have hf:=hid (frm_root ht0 (show rootF t[0]=false by unfold rootF;simp[g1]))
    clear g1 hP0 hNe hN0 e0 r0 h0 h32 hn0 hu0
    go_enter Tryz.func31,Tryz.ntmps31
    go_wp2_with fail
    go_ret
    exact ⟨ret_b hf.out.symm,Below.refl _ _⟩
def stF (t:List Nd):Nat→Nat→List Sp
 |0,_=>[]
 |f+1,n=>if n=0 then [] else match t[n]? with
  |none=>[]
  |some x=>stF t f x.2.2.1.toNat++[(x.1,x.2.1,[])]
theorem frm_at {t:List Nd} (hf:frmT t=true) {n:Nat} (h:n < t.length) (h0:¬n=0):nmF t[n].1=true∧t[n].2.1.length≤4∧0≤t[n].2.2.1∧t[n].2.2.1 < n∧twF (t.take n) t[n].2.2.1 t[n].1 t[n].2.1=false:=by
 obtain ⟨g0,g1,g2,g3⟩:=(frm_iff t).1 hf
 have:=g3 n h
 unfold okN okA at this
 simp only[Bool.and_eq_true,Bool.or_eq_true,decide_eq_true_eq,Bool.not_eq_true'] at this
 rcases this.1 with g|g
 ·exact absurd g h0
 ·exact ⟨g.1,g.2.1,g.2.2.1,g.2.2.2.1,g.2.2.2.2⟩
theorem prm_rng:∀p∈prmL,0≤p.2∧p.2 < 1000:=by
 have h:prmL.all (fun p=>decide (0≤p.2∧p.2 < 1000))=true:=by decide+kernel
 exact fun p hp=>of_decide_eq_true (List.all_eq_true.1 h p hp)
theorem prm_byt:∀p∈prmL,bytesL p.1:=by
 have h:prmL.all (fun p=>p.1.all (fun c=>decide (0≤c∧c < 256)))=true:=by decide+kernel
 exact fun p hp c hc=>of_decide_eq_true (List.all_eq_true.1 (List.all_eq_true.1 h p hp) c hc)
def okW (ws:List Wd) (t:List Nd) (i:Nat) (x:Wd):Bool:=if i < 111 then decide (x=prmW (prmL.getD i ([],0))) else wofF x ws.length t
theorem wds_yes {ws:List Wd} {t:List Nd} (h1:111≤ws.length) (h2:ws.length≤640) (h:∀i (hi:i < ws.length),okW ws t i ws[i]=true):wdsF ws t=true:=by
 unfold wdsF
 rw[decide_eq_true ⟨h1,h2⟩,Bool.true_and,Bool.and_eq_true]
 constructor
 ·rw[decide_eq_true_eq]
  apply List.ext_getElem
  ·simp[prm_len]
   omega
  ·intro i hi1 hi2
   have hi:i < 111:=by simp at hi1;omega
   have:=h i (by omega)
   unfold okW at this
   rw[if_pos hi,decide_eq_true_eq] at this
   rw[List.getElem_take,List.getElem_map,this,List.getD_eq_getElem?_getD,List.getElem?_eq_getElem (by rw[prm_len];exact hi),Option.getD_some]
 ·rw[List.all_eq_true]
  intro x hx
  obtain ⟨i,hi,rfl⟩:=List.getElem_of_mem hx
  have hi2:111+i < ws.length:=by simp at hi;omega
  have:=h (111+i) hi2
  unfold okW at this
  rw[if_neg (by omega)] at this
  rw[List.getElem_drop]
  exact this
theorem wds_no {ws:List Wd} {t:List Nd} {i:Nat} (hi:i < ws.length) (h:okW ws t i ws[i]=false):wdsF ws t=false:=by
 rw[Bool.eq_false_iff]
 intro g
 unfold wdsF at g
 simp only[Bool.and_eq_true,decide_eq_true_eq,List.all_eq_true] at g
 obtain ⟨⟨g1,g2⟩,g3,g4⟩:=g
 unfold okW at h
 split at h
 ·rename_i hlt
  rw[decide_eq_false_iff_not] at h
  apply h
  have e1:(ws.take 111)[i]? =(prmL.map prmW)[i]? :=by rw[g3]
  rw[List.getElem?_take_of_lt hlt,List.getElem?_eq_getElem hi,List.getElem?_map,List.getElem?_eq_getElem (by rw[prm_len];exact hlt)] at e1
  rw[List.getD_eq_getElem?_getD,List.getElem?_eq_getElem (by rw[prm_len];exact hlt),Option.getD_some]
  simpa using e1
 ·rename_i hge
  have hm:ws[i]∈ws.drop 111:=by
   rw[List.mem_drop_iff_getElem]
   exact ⟨i - 111,by omega,by congr 1;omega⟩
  rw[g4 _ hm] at h
  cases h
theorem cds_no {c:List Int} {n i:Nat} (hi:i < c.length) (h:¬(-1≤c[i]∧c[i] < n)):cdsF c n=false:=by
 rw[Bool.eq_false_iff]
 intro g
 unfold cdsF at g
 simp only[Bool.and_eq_true,decide_eq_true_eq,List.all_eq_true] at g
 exact h (g.2 _ (List.getElem_mem hi))
theorem frm_no {m:Mc} (h:¬(m.stack.length≤64∧m.mem.length≤4096∧2≤m.base∧m.base≤36∧m.out.length≤1024∧frmT m.tree=true∧(-1≤m.node∧m.node < m.tree.length)∧insF m.insts m.tree=true∧(m.self= -1∨alvF m.insts m.self=true)∧wdsF m.words m.tree=true∧cdsF m.codes m.words.length=true)):frmM m=false:=by
 rw[Bool.eq_false_iff]
 intro g
 unfold frmM at g
 simp only[Bool.and_eq_true,Bool.or_eq_true,decide_eq_true_eq] at g
 obtain ⟨⟨g1,g2,g3,g4,g5⟩,g6,g7,g8,g9,g10,g11⟩:=g
 exact h ⟨g1,g2,g3,g4,g5,g6,g7,g8,g9,g10,g11⟩
theorem frm_yes {m:Mc} (g1:m.stack.length≤64) (g2:m.mem.length≤4096) (g3:2≤m.base) (g4:m.base≤36) (g5:m.out.length≤1024) (g6:frmT m.tree=true) (g7: -1≤m.node∧m.node < m.tree.length) (g8:insF m.insts m.tree=true) (g9:m.self= -1∨alvF m.insts m.self=true) (g10:wdsF m.words m.tree=true) (g11:cdsF m.codes m.words.length=true):frmM m=true:=by
 unfold frmM
 simp only[Bool.and_eq_true,Bool.or_eq_true,decide_eq_true_eq]
 exact ⟨⟨g1,g2,g3,g4,g5⟩,g6,g7,g8,g9,g10,g11⟩
structure gdM (m:Mc):Prop where
 by':byM m
 len:∀x∈m.tree,lenN x
 nam:∀x∈m.words,x.1.length≤maxLen
 ops:∀x∈m.words,∀y∈x.2.2.2.2,0≤y.2∧y.2 < 4294967296
 num:∀x∈m.words,0≤x.2.2.2.1∧x.2.2.2.1 < 4294967296
 arg:∀x∈m.insts,x.2.2.1.length≤maxLen
theorem uA:Tryz.prog.underlying 23=some (.slice (Tryz.prog.elem 23)):=by kernel_rfl
set_option maxHeartbeats 8000000 in
set_option maxRecDepth 100000 in
theorem w_r9formed (m:Mc) (v:Mv) (o:ByteArray) (w:World) (h:RdM w v m o) (g:gdM m):
  Calls Tryz.prog 14 #[.agg (v.cs m o)] w fun e w'=>e= .returned (.bool (frmM m))∧Below w.heap.size w w':=by
 have st:=stands_new w (v.cs m o) 30
 have bw:=box_below w (.cells (v.cs m o) 30)
 have K:=fun q (g:Below (w.alloc (.cells (v.cs m o) 30)).heap.size (w.alloc (.cells (v.cs m o) 30)) q)=>mch_cells (st.below g)
 have l1:=rd_len h.stack uU (P:=Tryz.prog)
 have l2:=rd_len h.mem uA (P:=Tryz.prog)
 have l3:=slr_len h.words uW (P:=Tryz.prog)
 have l4:=rd_len h.codes uJ (P:=Tryz.prog)
 have l5:=slr_len h.tree uN (P:=Tryz.prog)
 have hos:o.size=m.out.length:=by rw[←L_len,show L o=m.out by rw[←h.out];exact LB_nums _ g.by'.out]
 have ct:=fun W (b:Below w.heap.size w W)=>w_r8formed v.vt m.tree W (h.tree.below b) g.by'.tree g.len
 have ci:=fun W (b:Below w.heap.size w W)=>w_r9insts v.vi v.vt m.insts m.tree W (h.insts.below b) (h.tree.below b) g.by'.insts g.arg
 have ca:=fun W (b:Below w.heap.size w W)=>w_r9alive v.vi m.insts m.self W (h.insts.below b)
 have no:=fun x=>hid (frm_no (m:=m) x)
 have yes:= @frm_yes m
 obtain ⟨R,hR⟩:∃R,frmM m=R:=⟨_,rfl⟩
 rw[hR]
 simp only[hR] at yes no
 obtain ⟨BA,hBA⟩:∃X,m.base=X:=⟨_,rfl⟩
 obtain ⟨ND,hND⟩:∃X,m.node=X:=⟨_,rfl⟩
 obtain ⟨SE,hSE⟩:∃X,m.self=X:=⟨_,rfl⟩
 obtain ⟨U,hU⟩:∃X,v.cs m o=X:=⟨_,rfl⟩
 simp only[hBA,hND,hSE,hU] at yes no ca K bw ⊢
 obtain ⟨FT,hFT⟩:∃X,frmT m.tree=X:=⟨_,rfl⟩
 obtain ⟨FI,hFI⟩:∃X,insF m.insts m.tree=X:=⟨_,rfl⟩
 obtain ⟨FA,hFA⟩:∃X,alvF m.insts SE=X:=⟨_,rfl⟩
 simp only[hFT,hFI,hFA] at yes no ct ci ca
 obtain ⟨f0,f1,f2,f3,f4,f5,f6,f7,f8,f9⟩:=K _ (Below.refl _ _)
 have pl:(prmL.length:Int)=111:=by rw[prm_len];rfl
 clear hR hBA hND hSE hU hFT hFI hFA st
 by_cases c_stack:(m.stack.length:Int)≤64
 ·skip
  by_cases c_mem:(m.mem.length:Int)≤4096
  ·skip
   by_cases c_wd1:(m.words.length:Int)≤640
   ·skip
    by_cases c_wd2:(111:Int)≤m.words.length
    ·skip
     by_cases c_codes:(m.codes.length:Int)≤2048
     ·skip
      by_cases c_b1:2≤BA
      ·skip
       by_cases c_b2:BA≤36
       ·skip
        by_cases c_out:(o.size:Int)≤1024
        ·skip
         by_cases c_tree:FT=true
         ·subst c_tree
          by_cases c_n1: -1≤ND
          ·skip
           by_cases c_n2:ND < (m.tree.length:Int)
           ·skip
            by_cases c_ins:FI=true
            ·subst c_ins
             by_cases c_s:SE= -1∨FA=true
             ·skip
              have hsel:(SE != -1)=false∨(SE != -1)=true∧FA=true:=by
               rcases c_s with c_s|c_s
               ·exact Or.inl (by simp[c_s])
               ·cases q:(SE != -1)
                ·exact Or.inl rfl
                ·exact Or.inr ⟨rfl,c_s⟩
              have Yes:wdsF m.words m.tree=true→cdsF m.codes m.words.length=true→Hid (R=true):=fun a b=>hid (yes (by omega) (by omega) c_b1 c_b2 (by omega) rfl ⟨c_n1,c_n2⟩ rfl c_s a b)
              have No1:wdsF m.words m.tree=false→Hid (R=false):=fun a=>no (fun x=>by have:=x.2.2.2.2.2.2.2.2.2.1;rw[a] at this;cases this)
              have No2:cdsF m.codes m.words.length=false→Hid (R=false):=fun a=>no (fun x=>by have:=x.2.2.2.2.2.2.2.2.2.2;rw[a] at this;cases this)
              have Wy:= @wds_yes m.words m.tree (by omega) (by omega)
              clear yes no hos c_s
              rcases hsel with q_s|⟨q_s,c_f⟩
              ·skip
               go_enter Tryz.func14,Tryz.ntmps14
               go_wp2_with (go_at_call 30;refine (w_r9prims _).mono ?_;rintro e q1 ⟨u1,rfl,p1,b1⟩;have e1:=b1;have lp:=slr_len p1 uM (P:=Tryz.prog);rw[pl] at lp;obtain ⟨x0_1,x1_1,x2_1,x3_1,x4_1,x5_1,x6_1,x7_1,x8_1,x9_1⟩:=K _ e1)
               go_wp2_with (go_at_call 31;refine (ct _ (below_trans bw e1)).mono ?_;rintro e q2 ⟨rfl,b2⟩;have e2:=below_trans e1 b2;obtain ⟨x0_2,x1_2,x2_2,x3_2,x4_2,x5_2,x6_2,x7_2,x8_2,x9_2⟩:=K _ e2)
               go_wp2_with (go_at_call 32;refine (ci _ (below_trans bw e2)).mono ?_;rintro e q3 ⟨rfl,b3⟩;have e3:=below_trans e2 b3;obtain ⟨x0_3,x1_3,x2_3,x3_3,x4_3,x5_3,x6_3,x7_3,x8_3,x9_3⟩:=K _ e3)
               go_loopw [4] (fun I wx=>∃(k:Nat),(k:Int)≤m.words.length∧I= .int .i64 k∧Hid (∀i (hi:i < k) (hx:i < m.words.length),okW m.words m.tree i m.words[i]=true)∧Below q3.heap.size q3 wx) (fun I _=>(m.words.length - intOf I).toNat)
               case atStart=>exact ⟨0,by omega,rfl,hid (fun i hi=>by omega),Below.refl _ _⟩
               case round=>
                obtain ⟨i,hi,rfl,hw,hb⟩:=hrel
                have e4:=below_trans e3 hb
                obtain ⟨x0_4,x1_4,x2_4,x3_4,x4_4,x5_4,x6_4,x7_4,x8_4,x9_4⟩:=K _ e4
                by_cases hlt:(i:Int) < m.words.length
                ·have hil:i < m.words.length:=by omega
                 obtain ⟨b5,o5,nm,vc,r5,w0,w1,w2,w3,w4,en,hc⟩:=wrd_at (RdW.below h.words (below_trans bw e4)) i hil
                 obtain ⟨ca9,cq9,rfl⟩:=slr_slice hc
                 have hm1:=List.getElem_mem hil
                 have step:okW m.words m.tree i m.words[i]=true→Hid (∀j (hj:j < i+1) (hx:j < m.words.length),okW m.words m.tree j m.words[j]=true):=fun a=>by
                  show ∀j (hj:j < i+1) (hx:j < m.words.length),_
                  intro j hj hx
                  by_cases c:j=i
                  ·subst c;exact a
                  ·exact hw.out j (by omega) hx
                 have stop:okW m.words m.tree i m.words[i]=false→Hid (R=false):=fun a=>No1 (wds_no hil a)
                 have hokW:okW m.words m.tree i m.words[i]=if i < 111 then decide (m.words[i]=prmW (prmL.getD i ([],0))) else wofF m.words[i] m.words.length m.tree:=rfl
                 have hrd:Hid (Below wr.heap.size wr wr.drew):=below_drewN (Below.refl _ _) 1
                 have hrdq:Hid (Below q3.heap.size q3 wr.drew):=below_drewN hb 1
                 by_cases h111:(i:Int) < 111
                 ·have hip:i < prmL.length:=by omega
                  rw[if_pos (by omega),List.getD_eq_getElem?_getD,List.getElem?_eq_getElem hip,Option.getD_some] at hokW
                  obtain ⟨b6,o6,nm2,r6,y0,y1,en2⟩:=prm_cell ((p1.below b2 (prmR_below b2)).below (below_trans b3 hb) (prmR_below (below_trans b3 hb))) i hip
                  have hrg:=prm_rng _ (List.getElem_mem hip)
                  have cW:∀W,Below wr.heap.size wr W→Calls Tryz.prog 34 #[.agg #[.string nm, .int .i64 m.words[i].2.1, .int .i64 m.words[i].2.2.1, .int .u32 m.words[i].2.2.2.1, .slice ca9 m.words[i].2.2.2.2.length cq9], .agg #[.string nm2, .int .i64 (-1), .int .i64 1, .int .u32 prmL[i].2, .slice none 0 0]] W fun e w'=>e= .returned (.bool (eqW m.words[i] (prmW prmL[i])))∧Below W.heap.size W w':=fun W g9=>w_r9word m.words[i] (prmW prmL[i]) nm nm2 (.slice ca9 m.words[i].2.2.2.2.length cq9) (.slice none 0 0) W en en2 (RdO.below hc g9) (OwnR.read (by decide) (OwnR.nil 47 2 opR W.heap.size W) (fun _ _ x=>x)) (g.by'.words _ hm1) (prm_byt _ (List.getElem_mem hip))
                  obtain ⟨A1,hA1⟩:∃X,m.words[i].2.1=X:=⟨_,rfl⟩
                  obtain ⟨A2,hA2⟩:∃X,m.words[i].2.2.1=X:=⟨_,rfl⟩
                  obtain ⟨A3,hA3⟩:∃X,m.words[i].2.2.2.1=X:=⟨_,rfl⟩
                  obtain ⟨PC,hPC⟩:∃X,prmL[i].2=X:=⟨_,rfl⟩
                  rw[hA1] at w1
                  rw[hA2] at w2
                  rw[hA3] at w3
                  rw[hPC] at y1 hrg
                  simp only[hA1,hA2,hA3,hPC] at cW
                  have hwr:IntKind.u32.wrap PC=PC:=by simp[IntKind.wrap,IntKind.bits,IntKind.signed];omega
                  have HS:Hid (∀W,Below wr.heap.size wr W→(W.cell? ⟨w.heap.size,2,none⟩=some v.vw∧W.cell? ⟨b5,o5,none⟩=some (.string nm)∧W.cell? ⟨b5,o5+1,none⟩=some (.int .i64 A1)∧W.cell? ⟨b5,o5+2,none⟩=some (.int .i64 A2)∧W.cell? ⟨b5,o5+3,none⟩=some (.int .u32 A3)∧W.cell? ⟨b5,o5+4,none⟩=some (.slice ca9 m.words[i].2.2.2.2.length cq9)∧W.cell? ⟨b6,o6,none⟩=some (.string nm2)∧W.cell? ⟨b6,o6+1,none⟩=some (.int .i64 PC))):=fun W x=>⟨below_cell x x2_4,below_cell x w0,below_cell x w1,below_cell x w2,below_cell x w3,below_cell x w4,below_cell x y0,below_cell x y1⟩
                  have hEQ:eqW m.words[i] (prmW prmL[i])=okW m.words m.tree i m.words[i]:=hokW.symm
                  simp only[hEQ] at cW
                  obtain ⟨OK,hOK⟩:∃X,okW m.words m.tree i m.words[i]=X:=⟨_,rfl⟩
                  simp only[hOK] at cW step stop
                  clear hA1 hA2 hA3 hPC hEQ hOK hokW hw en en2 w0 w1 w2 w3 w4 y0 y1 hm1
                  cases OK
                  ·have hf:=stop rfl
                   clear step stop
                   go_wp2_with fail
                   go_region_held (fun W=>W.cell? ⟨w.heap.size,2,none⟩=some v.vw∧W.cell? ⟨b5,o5,none⟩=some (.string nm)∧W.cell? ⟨b5,o5+1,none⟩=some (.int .i64 A1)∧W.cell? ⟨b5,o5+2,none⟩=some (.int .i64 A2)∧W.cell? ⟨b5,o5+3,none⟩=some (.int .u32 A3)∧W.cell? ⟨b5,o5+4,none⟩=some (.slice ca9 m.words[i].2.2.2.2.length cq9)∧W.cell? ⟨b6,o6,none⟩=some (.string nm2)∧W.cell? ⟨b6,o6+1,none⟩=some (.int .i64 PC)) (exact HS.out _ (by first|with_reducible exact hrd.out|with_reducible exact RX.out))
                    (first|(go_at_call 34;refine (cW _ hrd.out).mono ?_;rintro e qc ⟨rfl,bc⟩;have RX:Hid (Below wr.heap.size wr qc):=below_trans hrd.out bc;have RQ:Hid (Below q3.heap.size q3 qc):=below_trans hrdq.out bc))
                   go_wp2_with fail
                   go_ret
                   exact ⟨ret_b hf.out.symm,below_trans (below_trans bw e3) RQ.out⟩
                  ·have hf:=step rfl
                   clear step stop
                   go_wp2_with fail
                   go_region_held (fun W=>W.cell? ⟨w.heap.size,2,none⟩=some v.vw∧W.cell? ⟨b5,o5,none⟩=some (.string nm)∧W.cell? ⟨b5,o5+1,none⟩=some (.int .i64 A1)∧W.cell? ⟨b5,o5+2,none⟩=some (.int .i64 A2)∧W.cell? ⟨b5,o5+3,none⟩=some (.int .u32 A3)∧W.cell? ⟨b5,o5+4,none⟩=some (.slice ca9 m.words[i].2.2.2.2.length cq9)∧W.cell? ⟨b6,o6,none⟩=some (.string nm2)∧W.cell? ⟨b6,o6+1,none⟩=some (.int .i64 PC)) (exact HS.out _ (by first|with_reducible exact hrd.out|with_reducible exact RX.out))
                    (first|(go_at_call 34;refine (cW _ hrd.out).mono ?_;rintro e qc ⟨rfl,bc⟩;have RX:Hid (Below wr.heap.size wr qc):=below_trans hrd.out bc;have RQ:Hid (Below q3.heap.size q3 qc):=below_trans hrdq.out bc))
                   go_wp2_with fail
                   go_roundw
                   case rel=>exact ⟨i+1,by omega,by go_num,hf,RQ.out⟩
                   case measure=>simp[intOf];omega
                 ·rw[if_neg (by omega)] at hokW
                  have cW:=fun W (g9:Below wr.heap.size wr W)=>w_r9wof m.words[i] nm (.slice ca9 m.words[i].2.2.2.2.length cq9) v.vt m.words.length m.tree W en (RdO.below hc g9) (RdT.below h.tree (below_trans (below_trans bw e4) g9)) (g.by'.words _ hm1) (g.nam _ hm1) (g.ops _ hm1) (g.num _ hm1)
                  obtain ⟨A1,hA1⟩:∃X,m.words[i].2.1=X:=⟨_,rfl⟩
                  obtain ⟨A2,hA2⟩:∃X,m.words[i].2.2.1=X:=⟨_,rfl⟩
                  obtain ⟨A3,hA3⟩:∃X,m.words[i].2.2.2.1=X:=⟨_,rfl⟩
                  rw[hA1] at w1
                  rw[hA2] at w2
                  rw[hA3] at w3
                  simp only[hA1,hA2,hA3,←hokW] at cW
                  have HS:Hid (∀W,Below wr.heap.size wr W→(W.cell? ⟨w.heap.size,2,none⟩=some v.vw∧W.cell? ⟨w.heap.size,5,none⟩=some v.vt∧W.cell? ⟨b5,o5,none⟩=some (.string nm)∧W.cell? ⟨b5,o5+1,none⟩=some (.int .i64 A1)∧W.cell? ⟨b5,o5+2,none⟩=some (.int .i64 A2)∧W.cell? ⟨b5,o5+3,none⟩=some (.int .u32 A3)∧W.cell? ⟨b5,o5+4,none⟩=some (.slice ca9 m.words[i].2.2.2.2.length cq9))):=fun W x=>⟨below_cell x x2_4,below_cell x x5_4,below_cell x w0,below_cell x w1,below_cell x w2,below_cell x w3,below_cell x w4⟩
                  obtain ⟨OK,hOK⟩:∃X,okW m.words m.tree i m.words[i]=X:=⟨_,rfl⟩
                  simp only[hOK] at cW step stop
                  clear hA1 hA2 hA3 hOK hokW hw en w0 w1 w2 w3 w4 hm1
                  cases OK
                  ·have hf:=stop rfl
                   clear step stop
                   go_wp2_with fail
                   go_region_held (fun W=>W.cell? ⟨w.heap.size,2,none⟩=some v.vw∧W.cell? ⟨w.heap.size,5,none⟩=some v.vt∧W.cell? ⟨b5,o5,none⟩=some (.string nm)∧W.cell? ⟨b5,o5+1,none⟩=some (.int .i64 A1)∧W.cell? ⟨b5,o5+2,none⟩=some (.int .i64 A2)∧W.cell? ⟨b5,o5+3,none⟩=some (.int .u32 A3)∧W.cell? ⟨b5,o5+4,none⟩=some (.slice ca9 m.words[i].2.2.2.2.length cq9)) (exact HS.out _ (by first|with_reducible exact hrd.out|with_reducible exact RX.out))
                    (first|(go_at_call 35;refine (cW _ hrd.out).mono ?_;rintro e qc ⟨rfl,bc⟩;have RX:Hid (Below wr.heap.size wr qc):=below_trans hrd.out bc;have RQ:Hid (Below q3.heap.size q3 qc):=below_trans hrdq.out bc))
                   go_wp2_with fail
                   go_ret
                   exact ⟨ret_b hf.out.symm,below_trans (below_trans bw e3) RQ.out⟩
                  ·have hf:=step rfl
                   clear step stop
                   go_wp2_with fail
                   go_region_held (fun W=>W.cell? ⟨w.heap.size,2,none⟩=some v.vw∧W.cell? ⟨w.heap.size,5,none⟩=some v.vt∧W.cell? ⟨b5,o5,none⟩=some (.string nm)∧W.cell? ⟨b5,o5+1,none⟩=some (.int .i64 A1)∧W.cell? ⟨b5,o5+2,none⟩=some (.int .i64 A2)∧W.cell? ⟨b5,o5+3,none⟩=some (.int .u32 A3)∧W.cell? ⟨b5,o5+4,none⟩=some (.slice ca9 m.words[i].2.2.2.2.length cq9)) (exact HS.out _ (by first|with_reducible exact hrd.out|with_reducible exact RX.out))
                    (first|(go_at_call 35;refine (cW _ hrd.out).mono ?_;rintro e qc ⟨rfl,bc⟩;have RX:Hid (Below wr.heap.size wr qc):=below_trans hrd.out bc;have RQ:Hid (Below q3.heap.size q3 qc):=below_trans hrdq.out bc))
                   go_wp2_with fail
                   go_roundw
                   case rel=>exact ⟨i+1,by omega,by go_num,hf,RQ.out⟩
                   case measure=>simp[intOf];omega
                ·have hW:=Wy (fun j hj=>hw.out j (by omega) hj)
                 have Yes2:=Yes hW
                 clear hw Yes No1 Wy
                 go_wp2_with fail
                 go_loopw [5] (fun I wx=>∃(k:Nat),(k:Int)≤m.codes.length∧I= .int .i64 k∧Hid (∀i (hi:i < k) (hx:i < m.codes.length), -1≤m.codes[i]∧m.codes[i] < (m.words.length:Int))∧Below q3.heap.size q3 wx) (fun I _=>(m.codes.length - intOf I).toNat)
                 case atStart=>exact ⟨0,by omega,rfl,hid (fun i hi=>by omega),hb⟩
                 case round=>
                  obtain ⟨j,hj,rfl,hcd,hb5⟩:=hrel
                  have e5:=below_trans e3 hb5
                  obtain ⟨x0_5,x1_5,x2_5,x3_5,x4_5,x5_5,x6_5,x7_5,x8_5,x9_5⟩:=K _ e5
                  by_cases hlj:(j:Int) < m.codes.length
                  ·have hjl:j < m.codes.length:=by omega
                   obtain ⟨ad,rj,hcj⟩:=rd_idx (h.codes.below (below_trans bw e5)) uJ zJ (j:Int) (by omega) hlj
                   rw[Int.toNat_natCast,List.getD_eq_getElem?_getD,List.getElem?_eq_getElem hjl,Option.getD_some] at hcj
                   have step:(-1≤m.codes[j]∧m.codes[j] < (m.words.length:Int))→Hid (∀i (hi:i < j+1) (hx:i < m.codes.length), -1≤m.codes[i]∧m.codes[i] < (m.words.length:Int)):=fun a=>by
                    show ∀i (hi:i < j+1) (hx:i < m.codes.length),_
                    intro i hi2 hx
                    by_cases c:i=j
                    ·subst c;exact a
                    ·exact hcd.out i (by omega) hx
                   have stop:¬(-1≤m.codes[j]∧m.codes[j] < (m.words.length:Int))→Hid (R=false):=fun a=>No2 (cds_no hjl a)
                   obtain ⟨X,hX⟩:∃X,m.codes[j]=X:=⟨_,rfl⟩
                   rw[hX] at hcj step stop
                   clear hX hcd
                   by_cases z1: -1≤X
                   ·have y1:decide (X < -1)=false:=by simp;omega
                    by_cases z2:X < (m.words.length:Int)
                    ·have y2:decide ((m.words.length:Int)≤X)=false:=by simp;omega
                     have hf:=step ⟨z1,z2⟩
                     clear step stop
                     go_wp2_with fail
                     go_quiet (fail)
                     go_wp2_with fail
                     go_roundw
                     case rel=>exact ⟨j+1,by omega,by go_num,hf,below_drewN hb5 _⟩
                     case measure=>simp[intOf];omega
                    ·have y2:decide ((m.words.length:Int)≤X)=true:=by simp;omega
                     have hf:=stop (fun x=>z2 x.2)
                     clear step stop
                     go_wp2_with fail
                     go_quiet (fail)
                     go_wp2_with fail
                     go_ret
                     exact ⟨ret_b hf.out.symm,below_trans (below_trans bw e3) (below_drewN hb5 _)⟩
                   ·have y1:decide (X < -1)=true:=by simp;omega
                    have hf:=stop (fun x=>z1 x.1)
                    clear step stop
                    go_wp2_with fail
                    go_quiet (fail)
                    go_wp2_with fail
                    go_ret
                    exact ⟨ret_b hf.out.symm,below_trans (below_trans bw e3) (below_drewN hb5 _)⟩
                  ·have hf:=Yes2 (by
                    unfold cdsF
                    rw[decide_eq_true (by omega),Bool.true_and,List.all_eq_true]
                    intro x hx
                    obtain ⟨i,hi2,rfl⟩:=List.getElem_of_mem hx
                    exact decide_eq_true (hcd.out i (by omega) hi2))
                   clear hcd
                   go_wp2_with fail
                   go_ret
                   exact ⟨ret_b hf.out.symm,below_trans bw e5⟩
              ·subst c_f
               go_enter Tryz.func14,Tryz.ntmps14
               go_wp2_with (go_at_call 30;refine (w_r9prims _).mono ?_;rintro e q1 ⟨u1,rfl,p1,b1⟩;have e1:=b1;have lp:=slr_len p1 uM (P:=Tryz.prog);rw[pl] at lp;obtain ⟨x0_1,x1_1,x2_1,x3_1,x4_1,x5_1,x6_1,x7_1,x8_1,x9_1⟩:=K _ e1)
               go_wp2_with (go_at_call 31;refine (ct _ (below_trans bw e1)).mono ?_;rintro e q2 ⟨rfl,b2⟩;have e2:=below_trans e1 b2;obtain ⟨x0_2,x1_2,x2_2,x3_2,x4_2,x5_2,x6_2,x7_2,x8_2,x9_2⟩:=K _ e2)
               go_wp2_with (go_at_call 32;refine (ci _ (below_trans bw e2)).mono ?_;rintro e q3 ⟨rfl,b3⟩;have e3:=below_trans e2 b3;obtain ⟨x0_3,x1_3,x2_3,x3_3,x4_3,x5_3,x6_3,x7_3,x8_3,x9_3⟩:=K _ e3)
               go_wp2_with (go_at_call 33;refine (ca _ (below_trans bw e3)).mono ?_;rintro e qs ⟨rfl,hs⟩;subst qs)
               go_loopw [4] (fun I wx=>∃(k:Nat),(k:Int)≤m.words.length∧I= .int .i64 k∧Hid (∀i (hi:i < k) (hx:i < m.words.length),okW m.words m.tree i m.words[i]=true)∧Below q3.heap.size q3 wx) (fun I _=>(m.words.length - intOf I).toNat)
               case atStart=>exact ⟨0,by omega,rfl,hid (fun i hi=>by omega),Below.refl _ _⟩
               case round=>
                obtain ⟨i,hi,rfl,hw,hb⟩:=hrel
                have e4:=below_trans e3 hb
                obtain ⟨x0_4,x1_4,x2_4,x3_4,x4_4,x5_4,x6_4,x7_4,x8_4,x9_4⟩:=K _ e4
                by_cases hlt:(i:Int) < m.words.length
                ·have hil:i < m.words.length:=by omega
                 obtain ⟨b5,o5,nm,vc,r5,w0,w1,w2,w3,w4,en,hc⟩:=wrd_at (RdW.below h.words (below_trans bw e4)) i hil
                 obtain ⟨ca9,cq9,rfl⟩:=slr_slice hc
                 have hm1:=List.getElem_mem hil
                 have step:okW m.words m.tree i m.words[i]=true→Hid (∀j (hj:j < i+1) (hx:j < m.words.length),okW m.words m.tree j m.words[j]=true):=fun a=>by
                  show ∀j (hj:j < i+1) (hx:j < m.words.length),_
                  intro j hj hx
                  by_cases c:j=i
                  ·subst c;exact a
                  ·exact hw.out j (by omega) hx
                 have stop:okW m.words m.tree i m.words[i]=false→Hid (R=false):=fun a=>No1 (wds_no hil a)
                 have hokW:okW m.words m.tree i m.words[i]=if i < 111 then decide (m.words[i]=prmW (prmL.getD i ([],0))) else wofF m.words[i] m.words.length m.tree:=rfl
                 have hrd:Hid (Below wr.heap.size wr wr.drew):=below_drewN (Below.refl _ _) 1
                 have hrdq:Hid (Below q3.heap.size q3 wr.drew):=below_drewN hb 1
                 by_cases h111:(i:Int) < 111
                 ·have hip:i < prmL.length:=by omega
                  rw[if_pos (by omega),List.getD_eq_getElem?_getD,List.getElem?_eq_getElem hip,Option.getD_some] at hokW
                  obtain ⟨b6,o6,nm2,r6,y0,y1,en2⟩:=prm_cell ((p1.below b2 (prmR_below b2)).below (below_trans b3 hb) (prmR_below (below_trans b3 hb))) i hip
                  have hrg:=prm_rng _ (List.getElem_mem hip)
                  have cW:∀W,Below wr.heap.size wr W→Calls Tryz.prog 34 #[.agg #[.string nm, .int .i64 m.words[i].2.1, .int .i64 m.words[i].2.2.1, .int .u32 m.words[i].2.2.2.1, .slice ca9 m.words[i].2.2.2.2.length cq9], .agg #[.string nm2, .int .i64 (-1), .int .i64 1, .int .u32 prmL[i].2, .slice none 0 0]] W fun e w'=>e= .returned (.bool (eqW m.words[i] (prmW prmL[i])))∧Below W.heap.size W w':=fun W g9=>w_r9word m.words[i] (prmW prmL[i]) nm nm2 (.slice ca9 m.words[i].2.2.2.2.length cq9) (.slice none 0 0) W en en2 (RdO.below hc g9) (OwnR.read (by decide) (OwnR.nil 47 2 opR W.heap.size W) (fun _ _ x=>x)) (g.by'.words _ hm1) (prm_byt _ (List.getElem_mem hip))
                  obtain ⟨A1,hA1⟩:∃X,m.words[i].2.1=X:=⟨_,rfl⟩
                  obtain ⟨A2,hA2⟩:∃X,m.words[i].2.2.1=X:=⟨_,rfl⟩
                  obtain ⟨A3,hA3⟩:∃X,m.words[i].2.2.2.1=X:=⟨_,rfl⟩
                  obtain ⟨PC,hPC⟩:∃X,prmL[i].2=X:=⟨_,rfl⟩
                  rw[hA1] at w1
                  rw[hA2] at w2
                  rw[hA3] at w3
                  rw[hPC] at y1 hrg
                  simp only[hA1,hA2,hA3,hPC] at cW
                  have hwr:IntKind.u32.wrap PC=PC:=by simp[IntKind.wrap,IntKind.bits,IntKind.signed];omega
                  have HS:Hid (∀W,Below wr.heap.size wr W→(W.cell? ⟨w.heap.size,2,none⟩=some v.vw∧W.cell? ⟨b5,o5,none⟩=some (.string nm)∧W.cell? ⟨b5,o5+1,none⟩=some (.int .i64 A1)∧W.cell? ⟨b5,o5+2,none⟩=some (.int .i64 A2)∧W.cell? ⟨b5,o5+3,none⟩=some (.int .u32 A3)∧W.cell? ⟨b5,o5+4,none⟩=some (.slice ca9 m.words[i].2.2.2.2.length cq9)∧W.cell? ⟨b6,o6,none⟩=some (.string nm2)∧W.cell? ⟨b6,o6+1,none⟩=some (.int .i64 PC))):=fun W x=>⟨below_cell x x2_4,below_cell x w0,below_cell x w1,below_cell x w2,below_cell x w3,below_cell x w4,below_cell x y0,below_cell x y1⟩
                  have hEQ:eqW m.words[i] (prmW prmL[i])=okW m.words m.tree i m.words[i]:=hokW.symm
                  simp only[hEQ] at cW
                  obtain ⟨OK,hOK⟩:∃X,okW m.words m.tree i m.words[i]=X:=⟨_,rfl⟩
                  simp only[hOK] at cW step stop
                  clear hA1 hA2 hA3 hPC hEQ hOK hokW hw en en2 w0 w1 w2 w3 w4 y0 y1 hm1
                  cases OK
                  ·have hf:=stop rfl
                   clear step stop
                   go_wp2_with fail
                   go_region_held (fun W=>W.cell? ⟨w.heap.size,2,none⟩=some v.vw∧W.cell? ⟨b5,o5,none⟩=some (.string nm)∧W.cell? ⟨b5,o5+1,none⟩=some (.int .i64 A1)∧W.cell? ⟨b5,o5+2,none⟩=some (.int .i64 A2)∧W.cell? ⟨b5,o5+3,none⟩=some (.int .u32 A3)∧W.cell? ⟨b5,o5+4,none⟩=some (.slice ca9 m.words[i].2.2.2.2.length cq9)∧W.cell? ⟨b6,o6,none⟩=some (.string nm2)∧W.cell? ⟨b6,o6+1,none⟩=some (.int .i64 PC)) (exact HS.out _ (by first|with_reducible exact hrd.out|with_reducible exact RX.out))
                    (first|(go_at_call 34;refine (cW _ hrd.out).mono ?_;rintro e qc ⟨rfl,bc⟩;have RX:Hid (Below wr.heap.size wr qc):=below_trans hrd.out bc;have RQ:Hid (Below q3.heap.size q3 qc):=below_trans hrdq.out bc))
                   go_wp2_with fail
                   go_ret
                   exact ⟨ret_b hf.out.symm,below_trans (below_trans bw e3) RQ.out⟩
                  ·have hf:=step rfl
                   clear step stop
                   go_wp2_with fail
                   go_region_held (fun W=>W.cell? ⟨w.heap.size,2,none⟩=some v.vw∧W.cell? ⟨b5,o5,none⟩=some (.string nm)∧W.cell? ⟨b5,o5+1,none⟩=some (.int .i64 A1)∧W.cell? ⟨b5,o5+2,none⟩=some (.int .i64 A2)∧W.cell? ⟨b5,o5+3,none⟩=some (.int .u32 A3)∧W.cell? ⟨b5,o5+4,none⟩=some (.slice ca9 m.words[i].2.2.2.2.length cq9)∧W.cell? ⟨b6,o6,none⟩=some (.string nm2)∧W.cell? ⟨b6,o6+1,none⟩=some (.int .i64 PC)) (exact HS.out _ (by first|with_reducible exact hrd.out|with_reducible exact RX.out))
                    (first|(go_at_call 34;refine (cW _ hrd.out).mono ?_;rintro e qc ⟨rfl,bc⟩;have RX:Hid (Below wr.heap.size wr qc):=below_trans hrd.out bc;have RQ:Hid (Below q3.heap.size q3 qc):=below_trans hrdq.out bc))
                   go_wp2_with fail
                   go_roundw
                   case rel=>exact ⟨i+1,by omega,by go_num,hf,RQ.out⟩
                   case measure=>simp[intOf];omega
                 ·rw[if_neg (by omega)] at hokW
                  have cW:=fun W (g9:Below wr.heap.size wr W)=>w_r9wof m.words[i] nm (.slice ca9 m.words[i].2.2.2.2.length cq9) v.vt m.words.length m.tree W en (RdO.below hc g9) (RdT.below h.tree (below_trans (below_trans bw e4) g9)) (g.by'.words _ hm1) (g.nam _ hm1) (g.ops _ hm1) (g.num _ hm1)
                  obtain ⟨A1,hA1⟩:∃X,m.words[i].2.1=X:=⟨_,rfl⟩
                  obtain ⟨A2,hA2⟩:∃X,m.words[i].2.2.1=X:=⟨_,rfl⟩
                  obtain ⟨A3,hA3⟩:∃X,m.words[i].2.2.2.1=X:=⟨_,rfl⟩
                  rw[hA1] at w1
                  rw[hA2] at w2
                  rw[hA3] at w3
                  simp only[hA1,hA2,hA3,←hokW] at cW
                  have HS:Hid (∀W,Below wr.heap.size wr W→(W.cell? ⟨w.heap.size,2,none⟩=some v.vw∧W.cell? ⟨w.heap.size,5,none⟩=some v.vt∧W.cell? ⟨b5,o5,none⟩=some (.string nm)∧W.cell? ⟨b5,o5+1,none⟩=some (.int .i64 A1)∧W.cell? ⟨b5,o5+2,none⟩=some (.int .i64 A2)∧W.cell? ⟨b5,o5+3,none⟩=some (.int .u32 A3)∧W.cell? ⟨b5,o5+4,none⟩=some (.slice ca9 m.words[i].2.2.2.2.length cq9))):=fun W x=>⟨below_cell x x2_4,below_cell x x5_4,below_cell x w0,below_cell x w1,below_cell x w2,below_cell x w3,below_cell x w4⟩
                  obtain ⟨OK,hOK⟩:∃X,okW m.words m.tree i m.words[i]=X:=⟨_,rfl⟩
                  simp only[hOK] at cW step stop
                  clear hA1 hA2 hA3 hOK hokW hw en w0 w1 w2 w3 w4 hm1
                  cases OK
                  ·have hf:=stop rfl
                   clear step stop
                   go_wp2_with fail
                   go_region_held (fun W=>W.cell? ⟨w.heap.size,2,none⟩=some v.vw∧W.cell? ⟨w.heap.size,5,none⟩=some v.vt∧W.cell? ⟨b5,o5,none⟩=some (.string nm)∧W.cell? ⟨b5,o5+1,none⟩=some (.int .i64 A1)∧W.cell? ⟨b5,o5+2,none⟩=some (.int .i64 A2)∧W.cell? ⟨b5,o5+3,none⟩=some (.int .u32 A3)∧W.cell? ⟨b5,o5+4,none⟩=some (.slice ca9 m.words[i].2.2.2.2.length cq9)) (exact HS.out _ (by first|with_reducible exact hrd.out|with_reducible exact RX.out))
                    (first|(go_at_call 35;refine (cW _ hrd.out).mono ?_;rintro e qc ⟨rfl,bc⟩;have RX:Hid (Below wr.heap.size wr qc):=below_trans hrd.out bc;have RQ:Hid (Below q3.heap.size q3 qc):=below_trans hrdq.out bc))
                   go_wp2_with fail
                   go_ret
                   exact ⟨ret_b hf.out.symm,below_trans (below_trans bw e3) RQ.out⟩
                  ·have hf:=step rfl
                   clear step stop
                   go_wp2_with fail
                   go_region_held (fun W=>W.cell? ⟨w.heap.size,2,none⟩=some v.vw∧W.cell? ⟨w.heap.size,5,none⟩=some v.vt∧W.cell? ⟨b5,o5,none⟩=some (.string nm)∧W.cell? ⟨b5,o5+1,none⟩=some (.int .i64 A1)∧W.cell? ⟨b5,o5+2,none⟩=some (.int .i64 A2)∧W.cell? ⟨b5,o5+3,none⟩=some (.int .u32 A3)∧W.cell? ⟨b5,o5+4,none⟩=some (.slice ca9 m.words[i].2.2.2.2.length cq9)) (exact HS.out _ (by first|with_reducible exact hrd.out|with_reducible exact RX.out))
                    (first|(go_at_call 35;refine (cW _ hrd.out).mono ?_;rintro e qc ⟨rfl,bc⟩;have RX:Hid (Below wr.heap.size wr qc):=below_trans hrd.out bc;have RQ:Hid (Below q3.heap.size q3 qc):=below_trans hrdq.out bc))
                   go_wp2_with fail
                   go_roundw
                   case rel=>exact ⟨i+1,by omega,by go_num,hf,RQ.out⟩
                   case measure=>simp[intOf];omega
                ·have hW:=Wy (fun j hj=>hw.out j (by omega) hj)
                 have Yes2:=Yes hW
                 clear hw Yes No1 Wy
                 go_wp2_with fail
                 go_loopw [5] (fun I wx=>∃(k:Nat),(k:Int)≤m.codes.length∧I= .int .i64 k∧Hid (∀i (hi:i < k) (hx:i < m.codes.length), -1≤m.codes[i]∧m.codes[i] < (m.words.length:Int))∧Below q3.heap.size q3 wx) (fun I _=>(m.codes.length - intOf I).toNat)
                 case atStart=>exact ⟨0,by omega,rfl,hid (fun i hi=>by omega),hb⟩
                 case round=>
                  obtain ⟨j,hj,rfl,hcd,hb5⟩:=hrel
                  have e5:=below_trans e3 hb5
                  obtain ⟨x0_5,x1_5,x2_5,x3_5,x4_5,x5_5,x6_5,x7_5,x8_5,x9_5⟩:=K _ e5
                  by_cases hlj:(j:Int) < m.codes.length
                  ·have hjl:j < m.codes.length:=by omega
                   obtain ⟨ad,rj,hcj⟩:=rd_idx (h.codes.below (below_trans bw e5)) uJ zJ (j:Int) (by omega) hlj
                   rw[Int.toNat_natCast,List.getD_eq_getElem?_getD,List.getElem?_eq_getElem hjl,Option.getD_some] at hcj
                   have step:(-1≤m.codes[j]∧m.codes[j] < (m.words.length:Int))→Hid (∀i (hi:i < j+1) (hx:i < m.codes.length), -1≤m.codes[i]∧m.codes[i] < (m.words.length:Int)):=fun a=>by
                    show ∀i (hi:i < j+1) (hx:i < m.codes.length),_
                    intro i hi2 hx
                    by_cases c:i=j
                    ·subst c;exact a
                    ·exact hcd.out i (by omega) hx
                   have stop:¬(-1≤m.codes[j]∧m.codes[j] < (m.words.length:Int))→Hid (R=false):=fun a=>No2 (cds_no hjl a)
                   obtain ⟨X,hX⟩:∃X,m.codes[j]=X:=⟨_,rfl⟩
                   rw[hX] at hcj step stop
                   clear hX hcd
                   by_cases z1: -1≤X
                   ·have y1:decide (X < -1)=false:=by simp;omega
                    by_cases z2:X < (m.words.length:Int)
                    ·have y2:decide ((m.words.length:Int)≤X)=false:=by simp;omega
                     have hf:=step ⟨z1,z2⟩
                     clear step stop
                     go_wp2_with fail
                     go_quiet (fail)
                     go_wp2_with fail
                     go_roundw
                     case rel=>exact ⟨j+1,by omega,by go_num,hf,below_drewN hb5 _⟩
                     case measure=>simp[intOf];omega
                    ·have y2:decide ((m.words.length:Int)≤X)=true:=by simp;omega
                     have hf:=stop (fun x=>z2 x.2)
                     clear step stop
                     go_wp2_with fail
                     go_quiet (fail)
                     go_wp2_with fail
                     go_ret
                     exact ⟨ret_b hf.out.symm,below_trans (below_trans bw e3) (below_drewN hb5 _)⟩
                   ·have y1:decide (X < -1)=true:=by simp;omega
                    have hf:=stop (fun x=>z1 x.1)
                    clear step stop
                    go_wp2_with fail
                    go_quiet (fail)
                    go_wp2_with fail
                    go_ret
                    exact ⟨ret_b hf.out.symm,below_trans (below_trans bw e3) (below_drewN hb5 _)⟩
                  ·have hf:=Yes2 (by
                    unfold cdsF
                    rw[decide_eq_true (by omega),Bool.true_and,List.all_eq_true]
                    intro x hx
                    obtain ⟨i,hi2,rfl⟩:=List.getElem_of_mem hx
                    exact decide_eq_true (hcd.out i (by omega) hi2))
                   clear hcd
                   go_wp2_with fail
                   go_ret
                   exact ⟨ret_b hf.out.symm,below_trans bw e5⟩
             ·have c_a:¬SE= -1:=fun x=>c_s (Or.inl x)
              have c_f:FA=false:=by cases FA <;> simp_all
              subst c_f
              have q_s:(SE != -1)=true:=by simpa using c_a
              have hf:=no (fun x=>c_s x.2.2.2.2.2.2.2.2.1)
              clear yes no hos
              go_enter Tryz.func14,Tryz.ntmps14
              go_wp2_with (go_at_call 30;refine (w_r9prims _).mono ?_;rintro e q1 ⟨u1,rfl,p1,b1⟩;have e1:=b1;have lp:=slr_len p1 uM (P:=Tryz.prog);rw[pl] at lp;obtain ⟨x0_1,x1_1,x2_1,x3_1,x4_1,x5_1,x6_1,x7_1,x8_1,x9_1⟩:=K _ e1)
              go_wp2_with (go_at_call 31;refine (ct _ (below_trans bw e1)).mono ?_;rintro e q2 ⟨rfl,b2⟩;have e2:=below_trans e1 b2;obtain ⟨x0_2,x1_2,x2_2,x3_2,x4_2,x5_2,x6_2,x7_2,x8_2,x9_2⟩:=K _ e2)
              go_wp2_with (go_at_call 32;refine (ci _ (below_trans bw e2)).mono ?_;rintro e q3 ⟨rfl,b3⟩;have e3:=below_trans e2 b3;obtain ⟨x0_3,x1_3,x2_3,x3_3,x4_3,x5_3,x6_3,x7_3,x8_3,x9_3⟩:=K _ e3)
              go_wp2_with (go_at_call 33;refine (ca _ (below_trans bw e3)).mono ?_;rintro e qs ⟨rfl,hs⟩;subst qs)
              go_ret
              exact ⟨ret_b hf.out.symm,below_trans bw e3⟩
            ·have c_f:FI=false:=by simpa using c_ins
             subst c_f
             have hf:=no (fun x=>by have:=x.2.2.2.2.2.2.2.1;cases this)
             clear yes no hos
             go_enter Tryz.func14,Tryz.ntmps14
             go_wp2_with (go_at_call 30;refine (w_r9prims _).mono ?_;rintro e q1 ⟨u1,rfl,p1,b1⟩;have e1:=b1;have lp:=slr_len p1 uM (P:=Tryz.prog);rw[pl] at lp;obtain ⟨x0_1,x1_1,x2_1,x3_1,x4_1,x5_1,x6_1,x7_1,x8_1,x9_1⟩:=K _ e1)
             go_wp2_with (go_at_call 31;refine (ct _ (below_trans bw e1)).mono ?_;rintro e q2 ⟨rfl,b2⟩;have e2:=below_trans e1 b2;obtain ⟨x0_2,x1_2,x2_2,x3_2,x4_2,x5_2,x6_2,x7_2,x8_2,x9_2⟩:=K _ e2)
             go_wp2_with (go_at_call 32;refine (ci _ (below_trans bw e2)).mono ?_;rintro e q3 ⟨rfl,b3⟩;have e3:=below_trans e2 b3;obtain ⟨x0_3,x1_3,x2_3,x3_3,x4_3,x5_3,x6_3,x7_3,x8_3,x9_3⟩:=K _ e3)
             go_ret
             exact ⟨ret_b hf.out.symm,below_trans bw e3⟩
           ·have hf:=no (fun x=>c_n2 (x.2.2.2.2.2.2.1.2))
            clear yes no hos
            go_enter Tryz.func14,Tryz.ntmps14
            go_wp2_with (go_at_call 30;refine (w_r9prims _).mono ?_;rintro e q1 ⟨u1,rfl,p1,b1⟩;have e1:=b1;have lp:=slr_len p1 uM (P:=Tryz.prog);rw[pl] at lp;obtain ⟨x0_1,x1_1,x2_1,x3_1,x4_1,x5_1,x6_1,x7_1,x8_1,x9_1⟩:=K _ e1)
            go_wp2_with (go_at_call 31;refine (ct _ (below_trans bw e1)).mono ?_;rintro e q2 ⟨rfl,b2⟩;have e2:=below_trans e1 b2;obtain ⟨x0_2,x1_2,x2_2,x3_2,x4_2,x5_2,x6_2,x7_2,x8_2,x9_2⟩:=K _ e2)
            go_ret
            exact ⟨ret_b hf.out.symm,below_trans bw e2⟩
          ·have hf:=no (fun x=>c_n1 (x.2.2.2.2.2.2.1.1))
           clear yes no hos
           go_enter Tryz.func14,Tryz.ntmps14
           go_wp2_with (go_at_call 30;refine (w_r9prims _).mono ?_;rintro e q1 ⟨u1,rfl,p1,b1⟩;have e1:=b1;have lp:=slr_len p1 uM (P:=Tryz.prog);rw[pl] at lp;obtain ⟨x0_1,x1_1,x2_1,x3_1,x4_1,x5_1,x6_1,x7_1,x8_1,x9_1⟩:=K _ e1)
           go_wp2_with (go_at_call 31;refine (ct _ (below_trans bw e1)).mono ?_;rintro e q2 ⟨rfl,b2⟩;have e2:=below_trans e1 b2;obtain ⟨x0_2,x1_2,x2_2,x3_2,x4_2,x5_2,x6_2,x7_2,x8_2,x9_2⟩:=K _ e2)
           go_ret
           exact ⟨ret_b hf.out.symm,below_trans bw e2⟩
         ·have c_f:FT=false:=by simpa using c_tree
          subst c_f
          have hf:=no (fun x=>by have:=x.2.2.2.2.2.1;cases this)
          clear yes no hos
          go_enter Tryz.func14,Tryz.ntmps14
          go_wp2_with (go_at_call 30;refine (w_r9prims _).mono ?_;rintro e q1 ⟨u1,rfl,p1,b1⟩;have e1:=b1;have lp:=slr_len p1 uM (P:=Tryz.prog);rw[pl] at lp;obtain ⟨x0_1,x1_1,x2_1,x3_1,x4_1,x5_1,x6_1,x7_1,x8_1,x9_1⟩:=K _ e1)
          go_wp2_with (go_at_call 31;refine (ct _ (below_trans bw e1)).mono ?_;rintro e q2 ⟨rfl,b2⟩;have e2:=below_trans e1 b2;obtain ⟨x0_2,x1_2,x2_2,x3_2,x4_2,x5_2,x6_2,x7_2,x8_2,x9_2⟩:=K _ e2)
          go_ret
          exact ⟨ret_b hf.out.symm,below_trans bw e2⟩
        ·have hf:=no (fun x=>c_out (by have:=x.2.2.2.2.1;omega))
         clear yes no hos
         go_enter Tryz.func14,Tryz.ntmps14
         go_wp2_with (go_at_call 30;refine (w_r9prims _).mono ?_;rintro e q1 ⟨u1,rfl,p1,b1⟩;have e1:=b1;have lp:=slr_len p1 uM (P:=Tryz.prog);rw[pl] at lp;obtain ⟨x0_1,x1_1,x2_1,x3_1,x4_1,x5_1,x6_1,x7_1,x8_1,x9_1⟩:=K _ e1)
         go_ret
         exact ⟨ret_b hf.out.symm,below_trans bw e1⟩
       ·have hf:=no (fun x=>c_b2 (x.2.2.2.1))
        clear yes no hos
        go_enter Tryz.func14,Tryz.ntmps14
        go_wp2_with (go_at_call 30;refine (w_r9prims _).mono ?_;rintro e q1 ⟨u1,rfl,p1,b1⟩;have e1:=b1;have lp:=slr_len p1 uM (P:=Tryz.prog);rw[pl] at lp;obtain ⟨x0_1,x1_1,x2_1,x3_1,x4_1,x5_1,x6_1,x7_1,x8_1,x9_1⟩:=K _ e1)
        go_ret
        exact ⟨ret_b hf.out.symm,below_trans bw e1⟩
      ·have hf:=no (fun x=>c_b1 (x.2.2.1))
       clear yes no hos
       go_enter Tryz.func14,Tryz.ntmps14
       go_wp2_with (go_at_call 30;refine (w_r9prims _).mono ?_;rintro e q1 ⟨u1,rfl,p1,b1⟩;have e1:=b1;have lp:=slr_len p1 uM (P:=Tryz.prog);rw[pl] at lp;obtain ⟨x0_1,x1_1,x2_1,x3_1,x4_1,x5_1,x6_1,x7_1,x8_1,x9_1⟩:=K _ e1)
       go_ret
       exact ⟨ret_b hf.out.symm,below_trans bw e1⟩
     ·have hf:=no (fun x=>c_codes (by have:=x.2.2.2.2.2.2.2.2.2.2;unfold cdsF at this;simp only[Bool.and_eq_true,decide_eq_true_eq] at this;omega))
      clear yes no hos
      go_enter Tryz.func14,Tryz.ntmps14
      go_wp2_with (go_at_call 30;refine (w_r9prims _).mono ?_;rintro e q1 ⟨u1,rfl,p1,b1⟩;have e1:=b1;have lp:=slr_len p1 uM (P:=Tryz.prog);rw[pl] at lp;obtain ⟨x0_1,x1_1,x2_1,x3_1,x4_1,x5_1,x6_1,x7_1,x8_1,x9_1⟩:=K _ e1)
      go_ret
      exact ⟨ret_b hf.out.symm,below_trans bw e1⟩
    ·have hf:=no (fun x=>c_wd2 (by have:=x.2.2.2.2.2.2.2.2.2.1;unfold wdsF at this;simp only[Bool.and_eq_true,decide_eq_true_eq] at this;omega))
     clear yes no hos
     go_enter Tryz.func14,Tryz.ntmps14
     go_wp2_with (go_at_call 30;refine (w_r9prims _).mono ?_;rintro e q1 ⟨u1,rfl,p1,b1⟩;have e1:=b1;have lp:=slr_len p1 uM (P:=Tryz.prog);rw[pl] at lp;obtain ⟨x0_1,x1_1,x2_1,x3_1,x4_1,x5_1,x6_1,x7_1,x8_1,x9_1⟩:=K _ e1)
     go_ret
     exact ⟨ret_b hf.out.symm,below_trans bw e1⟩
   ·have hf:=no (fun x=>c_wd1 (by have:=x.2.2.2.2.2.2.2.2.2.1;unfold wdsF at this;simp only[Bool.and_eq_true,decide_eq_true_eq] at this;omega))
    clear yes no hos
    go_enter Tryz.func14,Tryz.ntmps14
    go_wp2_with (go_at_call 30;refine (w_r9prims _).mono ?_;rintro e q1 ⟨u1,rfl,p1,b1⟩;have e1:=b1;have lp:=slr_len p1 uM (P:=Tryz.prog);rw[pl] at lp;obtain ⟨x0_1,x1_1,x2_1,x3_1,x4_1,x5_1,x6_1,x7_1,x8_1,x9_1⟩:=K _ e1)
    go_ret
    exact ⟨ret_b hf.out.symm,below_trans bw e1⟩
  ·have hf:=no (fun x=>c_mem (by have:=x.2.1;omega))
   clear yes no hos
   go_enter Tryz.func14,Tryz.ntmps14
   go_wp2_with (go_at_call 30;refine (w_r9prims _).mono ?_;rintro e q1 ⟨u1,rfl,p1,b1⟩;have e1:=b1;have lp:=slr_len p1 uM (P:=Tryz.prog);rw[pl] at lp;obtain ⟨x0_1,x1_1,x2_1,x3_1,x4_1,x5_1,x6_1,x7_1,x8_1,x9_1⟩:=K _ e1)
   go_ret
   exact ⟨ret_b hf.out.symm,below_trans bw e1⟩
 ·have hf:=no (fun x=>c_stack (by have:=x.1;omega))
  clear yes no hos
  go_enter Tryz.func14,Tryz.ntmps14
  go_wp2_with (go_at_call 30;refine (w_r9prims _).mono ?_;rintro e q1 ⟨u1,rfl,p1,b1⟩;have e1:=b1;have lp:=slr_len p1 uM (P:=Tryz.prog);rw[pl] at lp;obtain ⟨x0_1,x1_1,x2_1,x3_1,x4_1,x5_1,x6_1,x7_1,x8_1,x9_1⟩:=K _ e1)
  go_ret
  exact ⟨ret_b hf.out.symm,below_trans bw e1⟩
theorem infoNode:(Tryz.prog.info? 91).map (fun i=>(i.zero,i.size,i.bytes))=some (some (.agg #[.string ⟨#[]⟩, .slice none 0 0, .int .i64 0, .slice none 0 0, .slice none 0 0]),5,96):=by kernel_rfl
theorem infoProp:(Tryz.prog.info? 93).map (fun i=>(i.zero,i.size,i.bytes))=some (some (.agg #[.string ⟨#[]⟩, .slice none 0 0]),2,40):=by kernel_rfl
def SepR (rows:List (List Value)):Prop:=∀i j g,i < j→j < rows.length→((rows.getD i []).getD 3 (.slice none 0 0)).ownBlock=some g→((rows.getD j []).getD 3 (.slice none 0 0)).ownBlock≠some g
def OwnTS (base:Nat) (w:World) (v:Value) (t:List Nd):Prop:=∃rows:List (List Value),rows.length=t.length∧(∀r∈rows,r.length=5)∧w.ownsRow base 91 5 v t.length rows.flatten∧(∀i (h:i < t.length),nodO base w (rows.getD i []) t[i])∧SepR rows
theorem OwnTS.own {base:Nat} {w:World} {v:Value} {t:List Nd} (h:OwnTS base w v t):OwnT8 base w v t:=by
 obtain ⟨rows,h1,h2,h3,h4,_⟩:=h
 exact ⟨rows,h1,h2,h3,h4⟩
theorem OwnTS.nil (base:Nat) (w:World):OwnTS base w (.slice none 0 0) []:=⟨[],rfl,by simp,World.ownsRow_nil _ _ _ _,fun i hi=>by simp at hi,fun i j g h1 h2=>by simp at h2⟩
theorem OwnTS.below {base:Nat} {w w':World} {v:Value} {t:List Nd} (h:OwnTS base w v t) (g:Below w.heap.size w w'):OwnTS base w' v t:=by
 obtain ⟨rows,h1,h2,h3,h4,h5⟩:=h
 exact ⟨rows,h1,h2,own_kept (T:=5) (Kept.below g) (by decide) h3,fun i hi=>nodO_below g _ _ (h4 i hi),h5⟩
theorem OwnTS.le {b b':Nat} {w:World} {v:Value} {t:List Nd} (hb:b≤b') (h:OwnTS b' w v t):OwnTS b w v t:=by
 obtain ⟨rows,h1,h2,h3,h4,h5⟩:=h
 exact ⟨rows,h1,h2,own_le hb h3,fun i hi=>nodO_le hb _ _ (h4 i hi),h5⟩
theorem sep_snoc {rows:List (List Value)} {row:List Value} (h:SepR rows) (hn:∀i g,i < rows.length→((rows.getD i []).getD 3 (.slice none 0 0)).ownBlock=some g→(row.getD 3 (.slice none 0 0)).ownBlock≠some g):SepR (rows++[row]):=by
 intro i j g hij hj hi
 have hlen:(rows++[row]).length=rows.length+1:=by simp
 have ei:(rows++[row]).getD i []=rows.getD i []:=by
  rw[List.getD_eq_getElem?_getD,List.getD_eq_getElem?_getD,List.getElem?_append_left (by omega)]
 rw[ei] at hi
 by_cases hlt:j < rows.length
 ·have ej:(rows++[row]).getD j []=rows.getD j []:=by
   rw[List.getD_eq_getElem?_getD,List.getD_eq_getElem?_getD,List.getElem?_append_left hlt]
  rw[ej]
  exact h i j g hij hlt hi
 ·have hj2:j=rows.length:=by omega
  subst hj2
  have ej:(rows++[row]).getD rows.length []=row:=by
   rw[List.getD_eq_getElem?_getD,List.getElem?_append_right (Nat.le_refl _)]
   simp
  rw[ej]
  exact hn i g hij hi
theorem OwnTS.snoc {base:Nat} {w w':World} {U v':Value} {xs:List Nd} {x:Nd} {row:List Value} {rows:List (List Value)} (h1:rows.length=xs.length) (h2:∀r∈rows,r.length=5) (h3:w.ownsRow base 91 5 U xs.length rows.flatten) (h4:∀i (h:i < xs.length),nodO base w (rows.getD i []) xs[i])
  (h5:SepR (rows++[row])) (hr:row.length=5) (hx:nodO base w row x) (o:w'.ownsRow base 91 5 v' (xs.length+1) (rows.flatten++row)) (g:w.grownBy w' U.ownBlock):OwnTS base w' v' (xs++[x]):=by
 have k:=Kept.own h3 g
 have ha:Apt 91 (nodO base):=nodO_apt (by decide) (by decide) (by decide)
 refine ⟨rows++[row],by simp[h1],fun r hm=> ?_,by simpa using o,fun i hi=> ?_,h5⟩
 ·rcases List.mem_append.1 hm with hm|hm
  ·exact h2 r hm
  ·simp at hm;subst hm;exact hr
 ·by_cases hlt:i < xs.length
  ·rw[List.getD_eq_getElem?_getD,List.getElem?_append_left (by omega),List.getElem_append_left hlt,←List.getD_eq_getElem?_getD]
   exact ha _ _ _ _ k (h4 i hlt)
  ·have hi2:i=xs.length:=by simp at hi;omega
   subst hi2
   rw[List.getD_eq_getElem?_getD,List.getElem?_append_right (by omega),h1]
   simp
   exact ha _ _ _ _ k hx
theorem one5 (nm:ByteArray) (a:Option Addr) (l c:Nat) (p:Int) (a2:Option Addr) (l2 c2:Nat) (a3:Option Addr) (l3 c3:Nat):∀r∈[[Value.string nm, .slice a l c, .int .i64 p, .slice a2 l2 c2, .slice a3 l3 c3]],∀u∈r,u.oneCell'=true:=by
 intro r hr u hu
 simp at hr
 subst hr
 simp at hu
 rcases hu with rfl|rfl|rfl|rfl|rfl <;> rfl
theorem one2 (pn:ByteArray) (a:Option Addr) (l c:Nat):∀r∈[[Value.string pn, .slice a l c]],∀u∈r,u.oneCell'=true:=by
 intro r hr u hu
 simp at hr
 subst hr
 simp at hu
 rcases hu with rfl|rfl <;> rfl
set_option maxHeartbeats 4000000 in
set_option maxRecDepth 100000 in
theorem w_r8copy (v:Value) (t:List Nd) (w:World) (h:RdT w v t) (hz:t.length*96≤140737488355328) (hs:∀x∈t,sizN x):
  Calls Tryz.prog 24 #[v] w fun e w'=>∃v1,e= .returned v1∧OwnTS w.heap.size w' v1 t∧Below w.heap.size w w':=by
 have hla:=slr_len h uN (P:=Tryz.prog)
 obtain ⟨i0,hi0,hz0,hz1,hz2⟩:=info_parts infoNode
 obtain ⟨i9,hi9,hz9,hz8,hz7⟩:=info_parts infoProp
 go_enter Tryz.func24,Tryz.ntmps24
 go_wp2_with fail
 go_loopw [3,4] (fun U I wx=>∃(i:Nat),(i:Int)≤t.length∧I= .int .i64 i∧OwnTS w.heap.size wx U (t.take i)∧Below w.heap.size w wx) (fun _ I _=>(t.length - intOf I).toNat)
 case atStart=>exact ⟨0,by omega,rfl,OwnTS.nil _ _,Below.refl _ _⟩
 case round=>
  obtain ⟨i,hi,rfl,ho,hb⟩:=hrel
  by_cases hlt:(i:Int) < t.length
  ·have hil:i < t.length:=by omega
   obtain ⟨b1,o1,nm,u1,p1,c1,r1,f0,f1,f2,f3,f4,e1,hu1,hp1,hc1⟩:=nod_at h i hil
   obtain ⟨ua,uq,rfl⟩:=rd_slice hu1
   obtain ⟨pa,pq,rfl⟩:=slr_slice hp1
   obtain ⟨ca,cq,rfl⟩:=rd_slice hc1
   obtain ⟨s1,s2,s3,s4⟩:=hs _ (List.getElem_mem hil)
   obtain ⟨P,hP⟩:∃P,t[i].2.2.1=P:=⟨_,rfl⟩
   rw[hP] at f2
   have l0:=below_cell hb f0
   have l1:=below_cell hb f1
   have l2:=below_cell hb f2
   have l3:=below_cell hb f3
   have l4:=below_cell hb f4
   have cu:=fun W (g:Below w.heap.size w W)=>w_r3copy _ _ W (hu1.below g) (by unfold maxLen;omega) s1
   have cc:=fun W (g:Below w.heap.size w W)=>w_r3copy _ _ W (hc1.below g) (by unfold maxLen;omega) s2
   go_upto_region 5 with fail
   go_cut [5] (fun S wx=>∃(B:Nat) (vU vC:Value),S= .pointer (some ⟨B,0,none⟩)∧wr.heap.size≤B∧Stands wx B #[.string nm,vU, .int .i64 P, .slice none 0 0,vC] 91∧wx.ownsRow wr.heap.size 26 1 vU t[i].2.1.length (t[i].2.1.map (Value.int .u32))∧wx.ownsRow wr.heap.size 26 1 vC t[i].2.2.2.2.length (t[i].2.2.2.2.map (Value.int .u32))∧Below wr.heap.size wr wx)
   case first=>
    have HB:=hid hb
    have CU:=hid cu
    have CC:=hid cc
    have HS:Hid (∀W,Below wr.heap.size wr W→W.cell? ⟨b1,o1,none⟩=some (.string nm)∧W.cell? ⟨b1,o1+1,none⟩=some (.slice ua t[i].2.1.length uq)∧W.cell? ⟨b1,o1+2,none⟩=some (.int .i64 P)∧W.cell? ⟨b1,o1+4,none⟩=some (.slice ca t[i].2.2.2.2.length cq)):=fun W g=>⟨below_cell g l0,below_cell g l1,below_cell g l2,below_cell g l4⟩
    have hbd:Hid (Below w.heap.size w wr.drew):=below_drewN hb 1
    have hbdA:Hid (Below w.heap.size w (wr.drew.alloc (.cells #[.string ⟨#[]⟩, .slice none 0 0, .int .i64 0, .slice none 0 0, .slice none 0 0] 91))):=hbd.out.alloc hbd.out.size (.cells #[.string ⟨#[]⟩, .slice none 0 0, .int .i64 0, .slice none 0 0, .slice none 0 0] 91)
    have hbdD:Hid (Below w.heap.size w (wr.alloc (.cells #[.string ⟨#[]⟩, .slice none 0 0, .int .i64 0, .slice none 0 0, .slice none 0 0] 91)).drew):=below_drewN (hb.alloc hb.size (.cells #[.string ⟨#[]⟩, .slice none 0 0, .int .i64 0, .slice none 0 0, .slice none 0 0] 91)) 1
    have hrdD:Hid (Below wr.heap.size wr (wr.alloc (.cells #[.string ⟨#[]⟩, .slice none 0 0, .int .i64 0, .slice none 0 0, .slice none 0 0] 91)).drew):=below_drewN ((Below.refl _ wr).alloc (Nat.le_refl _) (.cells #[.string ⟨#[]⟩, .slice none 0 0, .int .i64 0, .slice none 0 0, .slice none 0 0] 91)) 1
    have stD:Hid (Stands (wr.alloc (.cells #[.string ⟨#[]⟩, .slice none 0 0, .int .i64 0, .slice none 0 0, .slice none 0 0] 91)).drew wr.heap.size #[.string ⟨#[]⟩, .slice none 0 0, .int .i64 0, .slice none 0 0, .slice none 0 0] 91):=stands_new wr #[.string ⟨#[]⟩, .slice none 0 0, .int .i64 0, .slice none 0 0, .slice none 0 0] 91
    have hrd:Hid (Below wr.heap.size wr wr.drew):=below_drewN (Below.refl _ _) 1
    have hrdA:Hid (Below wr.heap.size wr (wr.drew.alloc (.cells #[.string ⟨#[]⟩, .slice none 0 0, .int .i64 0, .slice none 0 0, .slice none 0 0] 91))):=hrd.out.alloc hrd.out.size (.cells #[.string ⟨#[]⟩, .slice none 0 0, .int .i64 0, .slice none 0 0, .slice none 0 0] 91)
    clear hb cu cc f0 f1 f2 f3 f4 l0 l1 l2 l3 l4 hla hi0 hz0 hz1 hz2 hi9 hz9 hz8 hz7 ho hs h hz hu1 hp1 hc1 s1 s2 s3 s4 e1 hP hi
    go_region_held (fun W=>W.cell? ⟨b1,o1,none⟩=some (.string nm)∧W.cell? ⟨b1,o1+1,none⟩=some (.slice ua t[i].2.1.length uq)∧W.cell? ⟨b1,o1+2,none⟩=some (.int .i64 P)∧W.cell? ⟨b1,o1+4,none⟩=some (.slice ca t[i].2.2.2.2.length cq)) (exact HS.out _ (by first|with_reducible exact hrd.out|with_reducible exact hrdA.out|with_reducible exact hrdD.out|with_reducible exact RU.out|with_reducible exact RC.out|with_reducible exact RU.out.alloc RU.out.size _|with_reducible exact RC.out.alloc RC.out.size _|with_reducible exact below_set (below_set (below_set (below_set (below_set RU.out _ _ _ (by first|with_reducible exact Nat.le_refl _|with_reducible exact RU.out.size|with_reducible exact RC.out.size)) _ _ _ (by first|with_reducible exact Nat.le_refl _|with_reducible exact RU.out.size|with_reducible exact RC.out.size)) _ _ _ (by first|with_reducible exact Nat.le_refl _|with_reducible exact RU.out.size|with_reducible exact RC.out.size)) _ _ _ (by first|with_reducible exact Nat.le_refl _|with_reducible exact RU.out.size|with_reducible exact RC.out.size)) _ _ _ (by first|with_reducible exact Nat.le_refl _|with_reducible exact RU.out.size|with_reducible exact RC.out.size)|with_reducible exact below_set (below_set (below_set (below_set (below_set RC.out _ _ _ (by first|with_reducible exact Nat.le_refl _|with_reducible exact RU.out.size|with_reducible exact RC.out.size)) _ _ _ (by first|with_reducible exact Nat.le_refl _|with_reducible exact RU.out.size|with_reducible exact RC.out.size)) _ _ _ (by first|with_reducible exact Nat.le_refl _|with_reducible exact RU.out.size|with_reducible exact RC.out.size)) _ _ _ (by first|with_reducible exact Nat.le_refl _|with_reducible exact RU.out.size|with_reducible exact RC.out.size)) _ _ _ (by first|with_reducible exact Nat.le_refl _|with_reducible exact RU.out.size|with_reducible exact RC.out.size))) (first
     |(go_at_call_of 21 ua;refine (CU.out _ (by first|with_reducible exact hbd.out|with_reducible exact hbdA.out|with_reducible exact hbdD.out|with_reducible exact BC.out|with_reducible exact BC.out.alloc BC.out.size _)).mono ?_;rintro e qU ⟨vU,rfl,oU,bU'⟩;obtain ⟨uo,ucap,rfl⟩:=own_form oU;have RU:Hid (Below wr.heap.size wr qU):=below_trans (by first|with_reducible exact hrd.out|with_reducible exact hrdA.out|with_reducible exact hrdD.out|with_reducible exact RC.out|with_reducible exact RC.out.alloc RC.out.size _) bU';have BU:Hid (Below w.heap.size w qU):=below_trans HB.out RU.out;(try (have stU:Stands qU _ #[.string ⟨#[]⟩, .slice none 0 0, .int .i64 0, .slice none 0 0, .slice none 0 0] 91:=(by first|with_reducible exact stC.below bU'|with_reducible exact (stands_new _ _ _).below bU'|with_reducible exact stD.out.below bU');have z0:=stU.cell 0 _ rfl;have z1:=stU.cell 1 _ rfl;have z2:=stU.cell 2 _ rfl;have z3:=stU.cell 3 _ rfl;have z4:=stU.cell 4 _ rfl;have z5:=stU.free));have OU:=hid (own_le (b:=wr.heap.size) (by first|with_reducible exact hrd.out.size|with_reducible exact hrdA.out.size|with_reducible exact hrdD.out.size|with_reducible exact RC.out.size|with_reducible exact (RC.out.alloc RC.out.size _).size) oU);have HU:=hid bU';clear oU bU')
     |(go_at_call_of 21 ca;refine (CC.out _ (by first|with_reducible exact hbd.out|with_reducible exact hbdA.out|with_reducible exact hbdD.out|with_reducible exact BU.out|with_reducible exact BU.out.alloc BU.out.size _)).mono ?_;rintro e qC ⟨vC,rfl,oC,bC'⟩;obtain ⟨co,ccap,rfl⟩:=own_form oC;have RC:Hid (Below wr.heap.size wr qC):=below_trans (by first|with_reducible exact hrd.out|with_reducible exact hrdA.out|with_reducible exact hrdD.out|with_reducible exact RU.out|with_reducible exact RU.out.alloc RU.out.size _) bC';have BC:Hid (Below w.heap.size w qC):=below_trans HB.out RC.out;(try (have stC:Stands qC _ #[.string ⟨#[]⟩, .slice none 0 0, .int .i64 0, .slice none 0 0, .slice none 0 0] 91:=(by first|with_reducible exact stU.below bC'|with_reducible exact (stands_new _ _ _).below bC'|with_reducible exact stD.out.below bC');have z0:=stC.cell 0 _ rfl;have z1:=stC.cell 1 _ rfl;have z2:=stC.cell 2 _ rfl;have z3:=stC.cell 3 _ rfl;have z4:=stC.cell 4 _ rfl;have z5:=stC.free));have OC:=hid (own_le (b:=wr.heap.size) (by first|with_reducible exact hrd.out.size|with_reducible exact hrdA.out.size|with_reducible exact hrdD.out.size|with_reducible exact RU.out.size|with_reducible exact (RU.out.alloc RU.out.size _).size) oC);have HC:=hid bC';clear oC bC'))
    all_goals go_wp2_with fail
    ·go_meet
     case rel=>exact ⟨qC.heap.size,_,_,rfl,RC.out.size,stands_new qC _ _,World.ownsRow.alloc (own_below OU.out HC.out) _,World.ownsRow.alloc OC.out _,RC.out.alloc RC.out.size _⟩
    ·obtain ⟨k1,k2⟩:=set5 stC (.string nm) (.slice uo t[i].2.1.length ucap) (.int .i64 P) (.slice none 0 0) (.slice co t[i].2.2.2.2.length ccap)
     have K1:=hid k1
     have K2:=hid (k2 (by decide) (own_below (World.ownsRow.alloc OU.out _) HC.out))
     have K3:=hid (k2 (by decide) OC.out)
     have K4:Hid (Below wr.heap.size wr _):=below_set (below_set (below_set (below_set (below_set RC.out qU.heap.size 0 (.string nm) RU.out.size) qU.heap.size 1 (.slice uo t[i].2.1.length ucap) RU.out.size) qU.heap.size 2 (.int .i64 P) RU.out.size) qU.heap.size 3 (.slice none 0 0) RU.out.size) qU.heap.size 4 (.slice co t[i].2.2.2.2.length ccap) RU.out.size
     clear k1 k2
     go_meet
     case rel=>exact ⟨qU.heap.size,_,_,rfl,RU.out.size,K1.out,K2.out,K3.out,K4.out⟩
    ·obtain ⟨k1,k2⟩:=set5 stC (.string nm) (.slice uo t[i].2.1.length ucap) (.int .i64 P) (.slice none 0 0) (.slice co t[i].2.2.2.2.length ccap)
     have K1:=hid k1
     have K2:=hid (k2 (by decide) (own_below OU.out HC.out))
     have K3:=hid (k2 (by decide) OC.out)
     have K4:Hid (Below wr.heap.size wr _):=below_set (below_set (below_set (below_set (below_set RC.out wr.heap.size 0 (.string nm) (Nat.le_refl _)) wr.heap.size 1 (.slice uo t[i].2.1.length ucap) (Nat.le_refl _)) wr.heap.size 2 (.int .i64 P) (Nat.le_refl _)) wr.heap.size 3 (.slice none 0 0) (Nat.le_refl _)) wr.heap.size 4 (.slice co t[i].2.2.2.2.length ccap) (Nat.le_refl _)
     clear k1 k2
     go_meet
     case rel=>exact ⟨wr.heap.size,_,_,rfl,Nat.le_refl _,K1.out,K2.out,K3.out,K4.out⟩
   case rest=>
    obtain ⟨W0,rfl⟩:∃W0,W0=wr:=⟨_,rfl⟩
    obtain ⟨B,vU,vC,rfl,hBw,st,oU,oC,bw⟩:=hcut
    obtain ⟨Ps,hPs⟩:∃Ps,t[i].2.2.2.1=Ps:=⟨_,rfl⟩
    rw[hPs] at hp1 s3 s4 l3 f3
    have hPl:=slr_max hp1
    unfold maxLen at hPl
    clear cu cc l0 l1 l2 l3 l4 hu1 hc1
    go_wp2_with fail
    go_loopw [6] (fun K wx=>∃(k:Nat) (vp:Value),(k:Int)≤Ps.length∧K= .int .i64 k∧Stands wx B #[.string nm,vU, .int .i64 P,vp,vC] 91∧wx.ownsRow W0.heap.size 26 1 vU t[i].2.1.length (t[i].2.1.map (Value.int .u32))∧wx.ownsRow W0.heap.size 26 1 vC t[i].2.2.2.2.length (t[i].2.2.2.2.map (Value.int .u32))∧OwnR 93 2 (propO W0.heap.size) W0.heap.size wx vp (Ps.take k)∧Below W0.heap.size W0 wx) (fun K _=>(Ps.length - intOf K).toNat)
    case atStart=>exact ⟨0, .slice none 0 0,by omega,rfl,st,oU,oC,OwnR.nil _ _ _ _ _,bw⟩
    case round=>
     obtain ⟨k,vp,hk,rfl,st2,oU2,oC2,oP,hb0⟩:=hrel
     have hb2:=below_trans hb hb0
     have l3:=below_cell hb2 f3
     by_cases hlk:(k:Int) < Ps.length
     ·have hkl:k < Ps.length:=by omega
      obtain ⟨b2,o2,pn,vd,r2,g0,g1,e2,hd2⟩:=prp_at8 hp1 k hkl
      obtain ⟨da,dq,rfl⟩:=rd_slice hd2
      have n0:=below_cell hb2 g0
      have n1:=below_cell hb2 g1
      have cd:=fun W (g:Below w.heap.size w W)=>w_rcopy _ _ W (hd2.below g) (s4 _ (List.getElem_mem hkl))
      go_upto_region 9 with fail
      have HB:=hid hb2
      have CD:=hid cd
      have HS:Hid (∀W,Below wr.heap.size wr W→W.cell? ⟨b1,o1+3,none⟩=some (.slice pa Ps.length pq)∧W.cell? ⟨b2,o2,none⟩=some (.string pn)∧W.cell? ⟨b2,o2+1,none⟩=some (.slice da Ps[k].2.length dq)):=fun W g=>⟨below_cell g l3,below_cell g n0,below_cell g n1⟩
      have HT:Hid (∀W,Below w.heap.size w W→W.cell? ⟨b1,o1+3,none⟩=some (.slice pa Ps.length pq)∧W.cell? ⟨b2,o2,none⟩=some (.string pn)∧W.cell? ⟨b2,o2+1,none⟩=some (.slice da Ps[k].2.length dq)):=fun W g=>⟨below_cell g f3,below_cell g g0,below_cell g g1⟩
      have hrd:Hid (Below wr.heap.size wr wr.drew):=below_drewN (Below.refl _ _) 1
      have hbd:Hid (Below w.heap.size w wr.drew):=below_drewN hb2 1
      have B0:=hid hb0
      have ST:=hid st2
      have OU:=hid oU2
      have OC:=hid oC2
      have OP:=hid oP
      clear hb2 cd l3 n0 n1 hb0 st2 oU2 oC2 oP
      refine wp_region_held_drew (S:=fun W=>W.cell? ⟨b1,o1+3,none⟩=some (.slice pa Ps.length pq)∧W.cell? ⟨b2,o2,none⟩=some (.string pn)∧W.cell? ⟨b2,o2+1,none⟩=some (.slice da Ps[k].2.length dq)) (by kernel_rfl) (HS.out _ hrd.out) (fun hHeld=> ?_)
      refine wpAnyH_take (i:=0) (v:= ?v1) rfl (by kernel_rfl) (by kernel_rfl) (by kernel_rfl) (fun _ _ _ h=>h) (Or.inl ⟨by rfl, ?h1⟩) (by assumption) ?r1
      case h1=>intro W hSw;(try dsimp only at hSw);go_simp;try with_reducible rfl
      simp only[Act.put,List.setIfInBounds_toArray,List.set_cons_zero,List.set_cons_succ]
      refine wpAnyH_take (i:=2) (v:= ?v2) rfl (by kernel_rfl) (by kernel_rfl) (by kernel_rfl) (fun _ _ _ h=>h) (Or.inl ⟨by rfl, ?h2⟩) (by assumption) ?r2
      case h2=>intro W hSw;(try dsimp only at hSw);go_simp;try with_reducible rfl
      simp only[Act.put,List.setIfInBounds_toArray,List.set_cons_zero,List.set_cons_succ]
      refine wpAnyH_take (i:=3) (v:= ?v3) rfl (by kernel_rfl) (by kernel_rfl) (by kernel_rfl) (fun _ _ _ h=>h) (Or.inl ⟨by rfl, ?h3⟩) (by assumption) ?r3
      case h3=>intro W hSw;(try dsimp only at hSw);go_simp;try with_reducible rfl
      simp only[Act.put,List.setIfInBounds_toArray,List.set_cons_zero,List.set_cons_succ]
      refine wpAnyH_take (i:=4) (v:= ?v4) rfl (by kernel_rfl) (by kernel_rfl) (by kernel_rfl) (fun _ _ _ h=>h) (Or.inl ⟨by rfl, ?h4⟩) (by assumption) ?r4
      case h4=>intro W hSw;(try dsimp only at hSw);go_simp;try with_reducible rfl
      simp only[Act.put,List.setIfInBounds_toArray,List.set_cons_zero,List.set_cons_succ]
      refine wpAnyH_take (i:=5) (v:= ?v5) rfl (by kernel_rfl) (by kernel_rfl) (by kernel_rfl) (fun _ _ _ h=>h) (Or.inl ⟨by rfl, ?h5⟩) (by assumption) ?r5
      case h5=>intro W hSw;(try dsimp only at hSw);go_simp;try with_reducible rfl
      simp only[Act.put,List.setIfInBounds_toArray,List.set_cons_zero,List.set_cons_succ]
      refine wpAnyH_take (i:=6) (v:= ?v6) rfl (by kernel_rfl) (by kernel_rfl) (by kernel_rfl) (fun _ _ _ h=>h) (Or.inl ⟨by rfl, ?h6⟩) (by assumption) ?r6
      case h6=>intro W hSw;(try dsimp only at hSw);go_simp;try with_reducible rfl
      simp only[Act.put,List.setIfInBounds_toArray,List.set_cons_zero,List.set_cons_succ]
      refine wpAnyH_take (i:=7) (v:= ?v7) rfl (by kernel_rfl) (by kernel_rfl) (by kernel_rfl) (fun _ _ _ h=>h) (Or.inl ⟨by rfl, ?h7⟩) (by assumption) ?r7
      case h7=>intro W hSw;(try dsimp only at hSw);go_simp;try with_reducible rfl
      simp only[Act.put,List.setIfInBounds_toArray,List.set_cons_zero,List.set_cons_succ]
      refine wpAnyH_take (i:=8) (v:= ?v8) rfl (by kernel_rfl) (by kernel_rfl) (by kernel_rfl) (fun _ _ _ h=>h) (Or.inl ⟨by rfl, ?h8⟩) (by assumption) ?r8
      case h8=>intro W hSw;(try dsimp only at hSw);go_simp;try with_reducible rfl
      simp only[Act.put,List.setIfInBounds_toArray,List.set_cons_zero,List.set_cons_succ]
      refine wpAnyH_take (i:=9) (v:= ?v9) rfl (by kernel_rfl) (by kernel_rfl) (by kernel_rfl) (fun _ _ _ h=>h) (Or.inl ⟨by rfl, ?h9⟩) (by assumption) ?r9
      case h9=>intro W hSw;(try dsimp only at hSw);go_simp;try with_reducible rfl
      simp only[Act.put,List.setIfInBounds_toArray,List.set_cons_zero,List.set_cons_succ]
      refine wpAnyH_take (i:=10) (v:= ?v10) rfl (by kernel_rfl) (by kernel_rfl) (by kernel_rfl) (fun _ _ _ h=>h) (Or.inl ⟨by rfl, ?h10⟩) (by assumption) ?r10
      case h10=>intro W hSw;(try dsimp only at hSw);go_simp;try with_reducible rfl
      simp only[Act.put,List.setIfInBounds_toArray,List.set_cons_zero,List.set_cons_succ]
      refine wpAnyH_take (i:=11) (v:= ?v11) rfl (by kernel_rfl) (by kernel_rfl) (by kernel_rfl) (fun _ _ _ h=>h) (Or.inl ⟨by rfl, ?h11⟩) (by assumption) ?r11
      case h11=>intro W hSw;(try dsimp only at hSw);go_simp;try with_reducible rfl
      simp only[Act.put,List.setIfInBounds_toArray,List.set_cons_zero,List.set_cons_succ]
      refine wpAnyH_take (i:=12) (v:= ?v12) rfl (by kernel_rfl) (by kernel_rfl) (by kernel_rfl) (fun _ _ _ h=>h) (Or.inl ⟨by rfl, ?h12⟩) (by assumption) ?r12
      case h12=>intro W hSw;(try dsimp only at hSw);go_simp;try with_reducible rfl
      simp only[Act.put,List.setIfInBounds_toArray,List.set_cons_zero,List.set_cons_succ]
      refine wpAnyH_take (i:=13) (v:= ?v13) rfl (by kernel_rfl) (by kernel_rfl) (by kernel_rfl) (fun _ _ _ h=>h) (Or.inl ⟨by rfl, ?h13⟩) (by assumption) ?r13
      case h13=>intro W hSw;(try dsimp only at hSw);go_simp;try with_reducible rfl
      simp only[Act.put,List.setIfInBounds_toArray,List.set_cons_zero,List.set_cons_succ]
      refine wpAnyH_take (i:=14) (v:= ?v14) rfl (by kernel_rfl) (by kernel_rfl) (by kernel_rfl) (fun _ _ _ h=>h) (Or.inl ⟨by rfl, ?h14⟩) (by assumption) ?r14
      case h14=>intro W hSw;(try dsimp only at hSw);go_simp;try with_reducible rfl
      simp only[Act.put,List.setIfInBounds_toArray,List.set_cons_zero,List.set_cons_succ]
      refine wpAnyH_take (i:=15) (v:= ?v15) rfl (by kernel_rfl) (by kernel_rfl) (by kernel_rfl) (fun _ _ _ h=>h) (Or.inl ⟨by rfl, ?h15⟩) (by assumption) ?r15
      case h15=>intro W hSw;(try dsimp only at hSw);go_simp;try with_reducible rfl
      simp only[Act.put,List.setIfInBounds_toArray,List.set_cons_zero,List.set_cons_succ]
      refine wpAnyH_take (i:=16) (v:= ?v16) rfl (by kernel_rfl) (by kernel_rfl) (by kernel_rfl) (fun _ _ _ h=>h) (Or.inl ⟨by rfl, ?h16⟩) (by assumption) ?r16
      case h16=>intro W hSw;(try dsimp only at hSw);go_simp;try with_reducible rfl
      simp only[Act.put,List.setIfInBounds_toArray,List.set_cons_zero,List.set_cons_succ]
      refine wpAnyH_take (i:=17) (v:= ?v17) rfl (by kernel_rfl) (by kernel_rfl) (by kernel_rfl) (fun _ _ _ h=>h) (Or.inl ⟨by rfl, ?h17⟩) (by assumption) ?r17
      case h17=>intro W hSw;(try dsimp only at hSw);go_simp;try with_reducible rfl
      simp only[Act.put,List.setIfInBounds_toArray,List.set_cons_zero,List.set_cons_succ]
      refine wpAnyH_take (i:=18) (v:= ?v18) rfl (by kernel_rfl) (by kernel_rfl) (by kernel_rfl) (fun _ _ _ h=>h) (Or.inl ⟨by rfl, ?h18⟩) (by assumption) ?r18
      case h18=>intro W hSw;(try dsimp only at hSw);go_simp;try with_reducible rfl
      simp only[Act.put,List.setIfInBounds_toArray,List.set_cons_zero,List.set_cons_succ]
      refine wpAnyH_take (i:=19) (v:= ?v19) rfl (by kernel_rfl) (by kernel_rfl) (by kernel_rfl) (fun _ _ _ h=>h) (Or.inl ⟨by rfl, ?h19⟩) (by assumption) ?r19
      case h19=>intro W hSw;(try dsimp only at hSw);go_simp;try with_reducible rfl
      simp only[Act.put,List.setIfInBounds_toArray,List.set_cons_zero,List.set_cons_succ]
      refine wpAnyH_ready (rs:=[1,20]) (by kernel_rfl) (by simp) ?_
      refine AllReadyH.cons rfl (fun K hK=> ?_) ?_
      ·have zb:wr.drew.cell? ⟨B,3,none⟩=some vp:=ST.out.cell 3 _ rfl
       go_simp
       clear zb
       refine hK.out _ _ (HS.out _ hrd.out) (fun hc1=> ?_)
       clear hK K
       clear hHeld
       refine wpAnyH_ready (rs:=[20]) (by kernel_rfl) (by simp) ?_
       refine AllReadyH.cons rfl (fun K hK=> ?_) AllReadyH.nil
       go_simp
       go_wp2_with (first|(go_at_call 23;refine (CD.out _ (by with_reducible exact hbd.out)).mono ?_;rintro e qD ⟨vD,rfl,oD,bD'⟩;obtain ⟨dd,dcap,rfl⟩:=own_form oD;have RD:Hid (Below wr.heap.size wr qD):=below_trans hrd.out bD';have OD:=hid oD;have HD:=hid bD';clear oD bD'))
       refine hK.out _ _ (HS.out _ RD.out) (fun hc=> ?_)
       clear hK K
       clear hc1
       refine wpAnyH_take (i:=21) (v:= ?v20) rfl (by kernel_rfl) (by kernel_rfl) (by kernel_rfl) (fun _ _ _ h=>h) (Or.inl ⟨by rfl, ?h20⟩) (by assumption) ?r20
       case h20=>intro W hSw;(try dsimp only at hSw);go_simp;try with_reducible rfl
       simp only[Act.put,List.setIfInBounds_toArray,List.set_cons_zero,List.set_cons_succ]
       refine wpAnyH_ready (rs:=[22]) (by kernel_rfl) (by simp) ?_
       refine AllReadyH.cons rfl (fun K hK=> ?_) AllReadyH.nil
       go_simp
       refine hK.out _ _ (HS.out _ (RD.out.alloc RD.out.size _)) (fun hc2=> ?_)
       clear hK K
       have BX:Below wr.heap.size wr (qD.alloc (.cells #[.string pn, .slice dd Ps[k].2.length dcap] 93)):=RD.out.alloc RD.out.size _
       have dX:(qD.alloc (.cells #[.string pn, .slice dd Ps[k].2.length dcap] 93)).ownsRow W0.heap.size 5 1 (.slice dd Ps[k].2.length dcap) Ps[k].2.length (Ps[k].2.map (Value.int .u8)):=World.ownsRow.alloc (own_le (Nat.le_trans B0.out.size hrd.out.size) OD.out) _
       obtain ⟨rows,h1,h2,h3,h4⟩:=OwnR.below OP.out BX (propO_below BX)
       have hkt:(Ps.take k).length=k:=by rw[List.length_take];omega
       have hpn:strOfNums Ps[k].1=pn:=e2
       have hx:propO W0.heap.size (qD.alloc (.cells #[.string pn, .slice dd Ps[k].2.length dcap] 93)) [Value.string pn, .slice dd Ps[k].2.length dcap] Ps[k]:=⟨_,by rw[hpn],dX⟩
       refine wpAnyH_ready (rs:=[23]) (by kernel_rfl) (by simp) ?_
       refine AllReadyH.cons rfl (fun K hK=> ?_) AllReadyH.nil
       refine step_append_rows rfl _ _ 89 rfl W0.heap.size 93 i9 _ 2 40 Tryz.underlying89 hi9 hz9 hz8 hz7 rfl (by decide) vp (Ps.take k).length _ rfl h3 _ [[Value.string pn, .slice dd Ps[k].2.length dcap]] rfl (slc_one qD [Value.string pn, .slice dd Ps[k].2.length dcap] 93 2 rfl) (one2 pn dd Ps[k].2.length dcap) (by rw[hkt];unfold maxLen;simp only[List.length_singleton];omega) (by rw[hkt];simp only[List.length_singleton];omega) (Nat.le_trans B0.out.size BX.size) ?_
       intro v4 w4 ho4 hg4
       rw[show (Ps.take k).length+[[Value.string pn, .slice dd Ps[k].2.length dcap]].length=k+1 by rw[hkt];rfl] at ho4
       obtain ⟨a4,c4,rfl⟩:=own_form ho4
       have k4:=Kept.own h3 hg4
       have bW4:Hid (Below W0.heap.size W0 w4):=below_grown (below_trans B0.out BX) hg4 (fun k hk=>(h3.lt k hk).1)
       have st4:=stands_kept k4 (by decide) (ST.out.below BX)
       have oU4:=hid (own_kept k4 (by decide) (own_below OU.out BX))
       have oC4:=hid (own_kept k4 (by decide) (own_below OC.out BX))
       have oP4:=hid (OwnR.snoc (propO_apt (by decide)) h1 h2 h3 h4 rfl hx (by rw[hkt];simpa using ho4) hg4)
       have bw4:Hid (Below w.heap.size w w4):=below_trans hb bW4.out
       refine hK.out _ _ (HT.out _ bw4.out) (fun hc4=> ?_)
       clear hK K
       clear hc2
       have k1:=hid (st4.set 3 (.slice a4 (k+1) c4))
       have kk:=set_kept st4 3 (.slice a4 (k+1) c4)
       have k2:=hid (own_kept kk (by decide) oU4.out)
       have k3:=hid (own_kept kk (by decide) oC4.out)
       have k5:=hid (OwnR.kept oP4.out kk (by decide) (propO_apt (by decide)))
       have k6:Hid (Below W0.heap.size W0 _):=below_set bW4.out B 3 (.slice a4 (k+1) c4) hBw
       have k7:Hid (Below w.heap.size w _):=below_set bw4.out B 3 (.slice a4 (k+1) c4) (Nat.le_trans hb.size hBw)
       have y3:=st4.cell 3 _ rfl
       have y4:=st4.free
       clear kk k4 h1 h2 h3 h4 hx dX ho4 hg4 BX st4
       refine wpAnyH_take (i:=24) (v:= ?v21) rfl (by kernel_rfl) (by kernel_rfl) (by kernel_rfl) (fun _ _ _ h=>h) (Or.inl ⟨by rfl, ?h21⟩) (by assumption) ?r21
       case h21=>intro W hSw;(try dsimp only at hSw);go_simp;try with_reducible rfl
       simp only[Act.put,List.setIfInBounds_toArray,List.set_cons_zero,List.set_cons_succ]
       refine wpAnyH_ready (rs:=[25]) (by kernel_rfl) (by simp) ?_
       refine AllReadyH.cons rfl (fun K hK=> ?_) AllReadyH.nil
       go_simp
       refine hK.out _ _ (HT.out _ k7.out) (fun hc5=> ?_)
       clear hK K
       refine wpAnyH_done (by kernel_rfl) ?_ _
       clear hc4 hc5 y3 y4
       go_wp2_with fail
       go_roundw
       case rel=>
        refine ⟨k+1,_,by omega,by go_num,k1.out,k2.out,k3.out, ?_,k6.out⟩
        rw[List.take_succ_eq_append_getElem hkl]
        exact k5.out
       case measure=>simp[intOf];omega
      ·refine AllReadyH.cons rfl (fun K hK=> ?_) AllReadyH.nil
       go_simp
       go_wp2_with (first|(go_at_call 23;refine (CD.out _ (by with_reducible exact hbd.out)).mono ?_;rintro e qD ⟨vD,rfl,oD,bD'⟩;obtain ⟨dd,dcap,rfl⟩:=own_form oD;have RD:Hid (Below wr.heap.size wr qD):=below_trans hrd.out bD';have OD:=hid oD;have HD:=hid bD';clear oD bD'))
       refine hK.out _ _ (HS.out _ RD.out) (fun hc=> ?_)
       clear hK K
       clear hHeld
       refine wpAnyH_take (i:=21) (v:= ?v22) rfl (by kernel_rfl) (by kernel_rfl) (by kernel_rfl) (fun _ _ _ h=>h) (Or.inl ⟨by rfl, ?h22⟩) (by assumption) ?r22
       case h22=>intro W hSw;(try dsimp only at hSw);go_simp;try with_reducible rfl
       simp only[Act.put,List.setIfInBounds_toArray,List.set_cons_zero,List.set_cons_succ]
       refine wpAnyH_ready (rs:=[1,22]) (by kernel_rfl) (by simp) ?_
       refine AllReadyH.cons rfl (fun K hK=> ?_) ?_
       ·have zb:qD.cell? ⟨B,3,none⟩=some vp:=(ST.out.below RD.out).cell 3 _ rfl
        go_simp
        clear zb
        refine hK.out _ _ (HS.out _ RD.out) (fun hc1=> ?_)
        clear hK K
        clear hc
        refine wpAnyH_ready (rs:=[22]) (by kernel_rfl) (by simp) ?_
        refine AllReadyH.cons rfl (fun K hK=> ?_) AllReadyH.nil
        go_simp
        refine hK.out _ _ (HS.out _ (RD.out.alloc RD.out.size _)) (fun hc2=> ?_)
        clear hK K
        clear hc1
        have BX:Below wr.heap.size wr (qD.alloc (.cells #[.string pn, .slice dd Ps[k].2.length dcap] 93)):=RD.out.alloc RD.out.size _
        have dX:(qD.alloc (.cells #[.string pn, .slice dd Ps[k].2.length dcap] 93)).ownsRow W0.heap.size 5 1 (.slice dd Ps[k].2.length dcap) Ps[k].2.length (Ps[k].2.map (Value.int .u8)):=World.ownsRow.alloc (own_le (Nat.le_trans B0.out.size hrd.out.size) OD.out) _
        obtain ⟨rows,h1,h2,h3,h4⟩:=OwnR.below OP.out BX (propO_below BX)
        have hkt:(Ps.take k).length=k:=by rw[List.length_take];omega
        have hpn:strOfNums Ps[k].1=pn:=e2
        have hx:propO W0.heap.size (qD.alloc (.cells #[.string pn, .slice dd Ps[k].2.length dcap] 93)) [Value.string pn, .slice dd Ps[k].2.length dcap] Ps[k]:=⟨_,by rw[hpn],dX⟩
        refine wpAnyH_ready (rs:=[23]) (by kernel_rfl) (by simp) ?_
        refine AllReadyH.cons rfl (fun K hK=> ?_) AllReadyH.nil
        refine step_append_rows rfl _ _ 89 rfl W0.heap.size 93 i9 _ 2 40 Tryz.underlying89 hi9 hz9 hz8 hz7 rfl (by decide) vp (Ps.take k).length _ rfl h3 _ [[Value.string pn, .slice dd Ps[k].2.length dcap]] rfl (slc_one qD [Value.string pn, .slice dd Ps[k].2.length dcap] 93 2 rfl) (one2 pn dd Ps[k].2.length dcap) (by rw[hkt];unfold maxLen;simp only[List.length_singleton];omega) (by rw[hkt];simp only[List.length_singleton];omega) (Nat.le_trans B0.out.size BX.size) ?_
        intro v4 w4 ho4 hg4
        rw[show (Ps.take k).length+[[Value.string pn, .slice dd Ps[k].2.length dcap]].length=k+1 by rw[hkt];rfl] at ho4
        obtain ⟨a4,c4,rfl⟩:=own_form ho4
        have k4:=Kept.own h3 hg4
        have bW4:Hid (Below W0.heap.size W0 w4):=below_grown (below_trans B0.out BX) hg4 (fun k hk=>(h3.lt k hk).1)
        have st4:=stands_kept k4 (by decide) (ST.out.below BX)
        have oU4:=hid (own_kept k4 (by decide) (own_below OU.out BX))
        have oC4:=hid (own_kept k4 (by decide) (own_below OC.out BX))
        have oP4:=hid (OwnR.snoc (propO_apt (by decide)) h1 h2 h3 h4 rfl hx (by rw[hkt];simpa using ho4) hg4)
        have bw4:Hid (Below w.heap.size w w4):=below_trans hb bW4.out
        refine hK.out _ _ (HT.out _ bw4.out) (fun hc4=> ?_)
        clear hK K
        clear hc2
        have k1:=hid (st4.set 3 (.slice a4 (k+1) c4))
        have kk:=set_kept st4 3 (.slice a4 (k+1) c4)
        have k2:=hid (own_kept kk (by decide) oU4.out)
        have k3:=hid (own_kept kk (by decide) oC4.out)
        have k5:=hid (OwnR.kept oP4.out kk (by decide) (propO_apt (by decide)))
        have k6:Hid (Below W0.heap.size W0 _):=below_set bW4.out B 3 (.slice a4 (k+1) c4) hBw
        have k7:Hid (Below w.heap.size w _):=below_set bw4.out B 3 (.slice a4 (k+1) c4) (Nat.le_trans hb.size hBw)
        have y3:=st4.cell 3 _ rfl
        have y4:=st4.free
        clear kk k4 h1 h2 h3 h4 hx dX ho4 hg4 BX st4
        refine wpAnyH_take (i:=24) (v:= ?v23) rfl (by kernel_rfl) (by kernel_rfl) (by kernel_rfl) (fun _ _ _ h=>h) (Or.inl ⟨by rfl, ?h23⟩) (by assumption) ?r23
        case h23=>intro W hSw;(try dsimp only at hSw);go_simp;try with_reducible rfl
        simp only[Act.put,List.setIfInBounds_toArray,List.set_cons_zero,List.set_cons_succ]
        refine wpAnyH_ready (rs:=[25]) (by kernel_rfl) (by simp) ?_
        refine AllReadyH.cons rfl (fun K hK=> ?_) AllReadyH.nil
        go_simp
        refine hK.out _ _ (HT.out _ k7.out) (fun hc5=> ?_)
        clear hK K
        refine wpAnyH_done (by kernel_rfl) ?_ _
        clear hc4 hc5 y3 y4
        go_wp2_with fail
        go_roundw
        case rel=>
         refine ⟨k+1,_,by omega,by go_num,k1.out,k2.out,k3.out, ?_,k6.out⟩
         rw[List.take_succ_eq_append_getElem hkl]
         exact k5.out
        case measure=>simp[intOf];omega
       ·refine AllReadyH.cons rfl (fun K hK=> ?_) AllReadyH.nil
        go_simp
        refine hK.out _ _ (HS.out _ (RD.out.alloc RD.out.size _)) (fun hc1=> ?_)
        clear hK K
        clear hc
        refine wpAnyH_ready (rs:=[1]) (by kernel_rfl) (by simp) ?_
        refine AllReadyH.cons rfl (fun K hK=> ?_) AllReadyH.nil
        have zb:(qD.alloc (.cells #[.string pn, .slice dd Ps[k].2.length dcap] 93)).cell? ⟨B,3,none⟩=some vp:=(ST.out.below (RD.out.alloc RD.out.size _)).cell 3 _ rfl
        go_simp
        clear zb
        refine hK.out _ _ (HS.out _ (RD.out.alloc RD.out.size _)) (fun hc2=> ?_)
        clear hK K
        clear hc1
        have BX:Below wr.heap.size wr (qD.alloc (.cells #[.string pn, .slice dd Ps[k].2.length dcap] 93)):=RD.out.alloc RD.out.size _
        have dX:(qD.alloc (.cells #[.string pn, .slice dd Ps[k].2.length dcap] 93)).ownsRow W0.heap.size 5 1 (.slice dd Ps[k].2.length dcap) Ps[k].2.length (Ps[k].2.map (Value.int .u8)):=World.ownsRow.alloc (own_le (Nat.le_trans B0.out.size hrd.out.size) OD.out) _
        obtain ⟨rows,h1,h2,h3,h4⟩:=OwnR.below OP.out BX (propO_below BX)
        have hkt:(Ps.take k).length=k:=by rw[List.length_take];omega
        have hpn:strOfNums Ps[k].1=pn:=e2
        have hx:propO W0.heap.size (qD.alloc (.cells #[.string pn, .slice dd Ps[k].2.length dcap] 93)) [Value.string pn, .slice dd Ps[k].2.length dcap] Ps[k]:=⟨_,by rw[hpn],dX⟩
        refine wpAnyH_ready (rs:=[23]) (by kernel_rfl) (by simp) ?_
        refine AllReadyH.cons rfl (fun K hK=> ?_) AllReadyH.nil
        refine step_append_rows rfl _ _ 89 rfl W0.heap.size 93 i9 _ 2 40 Tryz.underlying89 hi9 hz9 hz8 hz7 rfl (by decide) vp (Ps.take k).length _ rfl h3 _ [[Value.string pn, .slice dd Ps[k].2.length dcap]] rfl (slc_one qD [Value.string pn, .slice dd Ps[k].2.length dcap] 93 2 rfl) (one2 pn dd Ps[k].2.length dcap) (by rw[hkt];unfold maxLen;simp only[List.length_singleton];omega) (by rw[hkt];simp only[List.length_singleton];omega) (Nat.le_trans B0.out.size BX.size) ?_
        intro v4 w4 ho4 hg4
        rw[show (Ps.take k).length+[[Value.string pn, .slice dd Ps[k].2.length dcap]].length=k+1 by rw[hkt];rfl] at ho4
        obtain ⟨a4,c4,rfl⟩:=own_form ho4
        have k4:=Kept.own h3 hg4
        have bW4:Hid (Below W0.heap.size W0 w4):=below_grown (below_trans B0.out BX) hg4 (fun k hk=>(h3.lt k hk).1)
        have st4:=stands_kept k4 (by decide) (ST.out.below BX)
        have oU4:=hid (own_kept k4 (by decide) (own_below OU.out BX))
        have oC4:=hid (own_kept k4 (by decide) (own_below OC.out BX))
        have oP4:=hid (OwnR.snoc (propO_apt (by decide)) h1 h2 h3 h4 rfl hx (by rw[hkt];simpa using ho4) hg4)
        have bw4:Hid (Below w.heap.size w w4):=below_trans hb bW4.out
        refine hK.out _ _ (HT.out _ bw4.out) (fun hc4=> ?_)
        clear hK K
        clear hc2
        have k1:=hid (st4.set 3 (.slice a4 (k+1) c4))
        have kk:=set_kept st4 3 (.slice a4 (k+1) c4)
        have k2:=hid (own_kept kk (by decide) oU4.out)
        have k3:=hid (own_kept kk (by decide) oC4.out)
        have k5:=hid (OwnR.kept oP4.out kk (by decide) (propO_apt (by decide)))
        have k6:Hid (Below W0.heap.size W0 _):=below_set bW4.out B 3 (.slice a4 (k+1) c4) hBw
        have k7:Hid (Below w.heap.size w _):=below_set bw4.out B 3 (.slice a4 (k+1) c4) (Nat.le_trans hb.size hBw)
        have y3:=st4.cell 3 _ rfl
        have y4:=st4.free
        clear kk k4 h1 h2 h3 h4 hx dX ho4 hg4 BX st4
        refine wpAnyH_take (i:=24) (v:= ?v24) rfl (by kernel_rfl) (by kernel_rfl) (by kernel_rfl) (fun _ _ _ h=>h) (Or.inl ⟨by rfl, ?h24⟩) (by assumption) ?r24
        case h24=>intro W hSw;(try dsimp only at hSw);go_simp;try with_reducible rfl
        simp only[Act.put,List.setIfInBounds_toArray,List.set_cons_zero,List.set_cons_succ]
        refine wpAnyH_ready (rs:=[25]) (by kernel_rfl) (by simp) ?_
        refine AllReadyH.cons rfl (fun K hK=> ?_) AllReadyH.nil
        go_simp
        refine hK.out _ _ (HT.out _ k7.out) (fun hc5=> ?_)
        clear hK K
        refine wpAnyH_done (by kernel_rfl) ?_ _
        clear hc4 hc5 y3 y4
        go_wp2_with fail
        go_roundw
        case rel=>
         refine ⟨k+1,_,by omega,by go_num,k1.out,k2.out,k3.out, ?_,k6.out⟩
         rw[List.take_succ_eq_append_getElem hkl]
         exact k5.out
        case measure=>simp[intOf];omega
     ·have hke:k=Ps.length:=by omega
      subst hke
      rw[List.take_length] at oP
      obtain ⟨pr,hpr⟩:=oP.row
      obtain ⟨pa2,pcap2,rfl⟩:=own_form hpr
      have x0:=st2.cell 0 _ rfl
      have x1:=st2.cell 1 _ rfl
      have x2:=st2.cell 2 _ rfl
      have x3:=st2.cell 3 _ rfl
      have x4:=st2.cell 4 _ rfl
      obtain ⟨ua2,uc2,rfl⟩:=own_form oU2
      obtain ⟨ca2,cc2,rfl⟩:=own_form oC2
      have bX:=below_trans hb0 (box_below wr (.cells #[.string nm, .slice ua2 t[i].2.1.length uc2, .int .i64 P, .slice pa2 Ps.length pcap2, .slice ca2 t[i].2.2.2.2.length cc2] 91))
      have hx9:nodO w.heap.size (wr.alloc (.cells #[.string nm, .slice ua2 t[i].2.1.length uc2, .int .i64 P, .slice pa2 Ps.length pcap2, .slice ca2 t[i].2.2.2.2.length cc2] 91)) [Value.string nm, .slice ua2 t[i].2.1.length uc2, .int .i64 P, .slice pa2 Ps.length pcap2, .slice ca2 t[i].2.2.2.2.length cc2] t[i]:=
       ⟨_,_,_,by rw[e1,hP],World.ownsRow.alloc (own_le hb.size oU2) _,by rw[hPs];exact OwnR.below (OwnR.le hb.size oP (propO_le hb.size)) (box_below wr _) (propO_below (box_below wr _)),World.ownsRow.alloc (own_le hb.size oC2) _⟩
      obtain ⟨rowsT,q1,q2,q3',q4',q5⟩:=ho
      have q3:=own_kept (T:=5) (Kept.below bX) (by decide) q3'
      have q4:=fun i hi=>nodO_below bX _ _ (q4' i hi)
      have q6:SepR (rowsT++[[Value.string nm, .slice ua2 t[i].2.1.length uc2, .int .i64 P, .slice pa2 Ps.length pcap2, .slice ca2 t[i].2.2.2.2.length cc2]]):=sep_snoc q5 fun j g hj hg hg2=>by
       obtain ⟨vu9,vp9,vc9,hv9, -,op9, -⟩:=q4' j (by omega)
       obtain ⟨cs9,o9⟩:=op9.row
       rw[hv9] at hg
       have a1:=(o9.lt g (by simpa using hg)).2
       have a2:=(hpr.lt g (by simpa using hg2)).1
       omega
      have Q6:=hid q6
      clear q6 q4' q3'
      have hit:(t.take i).length=i:=by rw[List.length_take];omega
      have H9:=hid hx9
      have HX:=hid bX
      have Q2:=hid q2
      have Q4:=hid q4
      clear hx9 bX q2 q4 oP oU2 oC2 hpr st2 hb0
      go_wp2_with (at_builtin;refine wpList_append_rows rfl _ _ 27 rfl w.heap.size 91 i0 _ 5 96 Tryz.underlying27 hi0 hz0 hz1 hz2 rfl (by decide) u3 (t.take i).length _ rfl q3 _ [[Value.string nm, .slice ua2 t[i].2.1.length uc2, .int .i64 P, .slice pa2 Ps.length pcap2, .slice ca2 t[i].2.2.2.2.length cc2]] rfl (slc_one wr [Value.string nm, .slice ua2 t[i].2.1.length uc2, .int .i64 P, .slice pa2 Ps.length pcap2, .slice ca2 t[i].2.2.2.2.length cc2] 91 5 rfl) (one5 _ _ _ _ _ _ _ _ _ _ _) (by rw[hit];unfold maxLen;simp only[List.length_singleton];omega) (by rw[hit];simp only[List.length_singleton];omega) (below_trans hb HX.out).size ?_;intro v9 w9 ho9 hg9)
      have oT9:=OwnTS.snoc q1 Q2.out q3 Q4.out Q6.out rfl H9.out (by simpa using ho9) hg9
      have b9:=below_grown (below_trans hb HX.out) hg9 (fun k hk=>(q3.lt k hk).1)
      go_roundw
      case rel=>
       refine ⟨i+1,by omega,by go_num, ?_,b9⟩
       rw[List.take_succ_eq_append_getElem hil]
       exact oT9
      case measure=>simp[intOf];omega
  ·go_wp2_with fail
   go_ret
   rw[List.take_of_length_le (by omega)] at ho
   exact ⟨_,rfl,ho,hb⟩
end Go.Proofs.YtbamcchghecpeaaGreatDoor
