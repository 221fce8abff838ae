import Derived.Test.YtlokhciaaepenaaGreatDoorB10
set_option linter.unusedVariables false
set_option linter.unusedSimpArgs false
set_option maxRecDepth 100000
namespace Go.Proofs.YtlokhciaaepenaaGreatDoor
open Go.ChangeShapes Go.WideShapes Go.ChangeAt Go.RowKit
set_option maxHeartbeats 2000000 in
set_option maxRecDepth 100000 in
theorem w_p8formed' (v:Value) (t:List Nd) (w:World) (h:RdT w v t) (bt:∀x∈t,bytN x) (ls:∀x∈t,lenN x):
  Calls Tryz.prog 35 #[v] w fun e w'=>e= .returned (.bool (frmT t))∧Below w.heap.size w w':=by
 have hla:=slr_len h uN (P:=Tryz.prog)
 have hm:=slr_max h
 unfold maxLen at hm
 by_cases h0:t.length=0
 ·have hf:=hid (frm_len (Or.inl h0))
  have hl1:((t.length:Int)==0)=true:=by simp;exact List.eq_nil_of_length_eq_zero h0
  obtain ⟨n,hn⟩:∃n,t.length=n:=⟨_,rfl⟩
  rw[hn] at hla hl1
  clear h0 hn hm
  go_enter Tryz.func35,Tryz.ntmps35
  go_wp2_with fail
  go_ret
  exact ⟨ret_b hf.out.symm,Below.refl _ _⟩
 ·have hl1:((t.length:Int)==0)=false:=by simp;intro h;exact h0 (by rw[h];rfl)
  by_cases h32:(32:Int) < t.length
  ·have hf:=hid (frm_len (Or.inr (show 32 < t.length by omega)))
   clear h0
   go_enter Tryz.func35,Tryz.ntmps35
   go_wp2_with fail
   go_ret
   exact ⟨ret_b hf.out.symm,Below.refl _ _⟩
  ·have ht0:0 < t.length:=by omega
   obtain ⟨b0,o0,N0,u0,p0,k0,r0,z0,z1,z2,z3,z4,e0,hu0,hp0,hc0⟩:=nod_at h 0 ht0
   have r0':∀w',(Instr.indexAt 27 v (.int .i64 0)).run Tryz.prog w'= .ok (.pointer (some ⟨b0,o0,none⟩)) w':=r0
   have cr:=w_pisroot N0 u0 p0 k0 t[0] w e0 (bt _ (List.getElem_mem ht0)).1 hu0 hp0 hc0
   obtain ⟨ua0,uq0,rfl⟩:=rd_slice hu0
   obtain ⟨pa0,pq0,rfl⟩:=slr_slice hp0
   obtain ⟨ca0,cq0,rfl⟩:=rd_slice hc0
   obtain ⟨P0,hP0⟩:∃X,t[0].2.2.1=X:=⟨_,rfl⟩
   rw[hP0] at z2 cr
   cases hrt:rootF t[0]
   ·have hf:=hid (frm_root ht0 hrt)
    rw[hrt] at cr
    clear hrt hP0 e0 r0 h0
    go_enter Tryz.func35,Tryz.ntmps35
    go_wp2_with (go_at_call 68;refine cr.mono ?_;rintro e w1 ⟨rfl,b1⟩)
    go_ret
    exact ⟨ret_b hf.out.symm,b1⟩
   ·rw[hrt] at cr
    have hroot:=hid hrt
    have hlen32:Hid (t.length≤32∧1≤t.length):=⟨by omega,by omega⟩
    clear hrt hP0 e0 r0 h0
    go_enter Tryz.func35,Tryz.ntmps35
    go_wp2_with (go_at_call 68;refine cr.mono ?_;rintro e w1 ⟨rfl,b1⟩)
    clear cr z0 z1 z2 z3 z4 r0'
    go_loopw [22] (fun I wx=>∃i:Nat,(i:Int)≤t.length∧I= .int .i64 i∧Hid (∀j (g:j < i) (hj:j < t.length),okN t j t[j]=true)∧Below w.heap.size w wx) (fun I _=>(t.length - intOf I).toNat)
    case atStart=>exact ⟨0,by omega,rfl,hid (fun j g=>by omega),b1⟩
    case round=>
     clear b1
     obtain ⟨i,hi,rfl,hok,hb⟩:=hrel
     by_cases hlt:(i:Int) < t.length
     ·have hil:i < t.length:=by omega
      obtain ⟨b1,o1,nm,u1,p1,c1,r1,f0,f1,f2,f3,f4,e1,hu1,hp1,hc1⟩:=nod_at (h.below hb) i hil
      obtain ⟨vh,hh,hhR⟩:=slr_head h uN zN i (by omega)
      have hbt:=bt _ (List.getElem_mem hil)
      have hlt2:=ls _ (List.getElem_mem hil)
      have cq:=fun W (g:Below wr.heap.size wr W)=>w_pplaced vh (t.take i) nm u1 p1 c1 t[i] W (RdT.below hhR (below_trans hb g)) (fun x hx=>bt x (List.mem_of_mem_take hx)) e1 hbt.1 hlt2.1 (hu1.below g) (hp1.below g (propR_below g)) (hc1.below g)
      have cf:=fun W (g:Below wr.heap.size wr W)=>w_ppropsformed p1 t[i].2.2.2.1 W (hp1.below g (propR_below g)) (fun x hx=>(hbt.2 x hx).1) (fun x hx=>hlt2.2 x hx)
      have hlc:=rd_len hc1 uU (P:=Tryz.prog)
      have htl:(t.take i).length=i:=by rw[List.length_take];omega
      rw[htl] at cq
      obtain ⟨ua,uq,rfl⟩:=rd_slice hu1
      obtain ⟨pa,pq,rfl⟩:=slr_slice hp1
      obtain ⟨ca,cq',rfl⟩:=rd_slice hc1
      have hokA:okA t i t[i]=(nmF t[i].1&&(decide (t[i].2.1.length≤4)&&(decide (0≤t[i].2.2.1)&&(decide (t[i].2.2.1 < i)&& !twF (t.take i) t[i].2.2.1 t[i].1 t[i].2.1)))):=rfl
      rw[←hokA] at cq
      clear hokA
      obtain ⟨P,hP⟩:∃X,t[i].2.2.1=X:=⟨_,rfl⟩
      rw[hP] at f2 cq
      have st:=stands_new wr #[.string nm, .slice ua t[i].2.1.length uq, .int .i64 P, .slice pa t[i].2.2.2.1.length pq, .slice ca t[i].2.2.2.2.length cq'] 51
      have hbx:=box_below wr (.cells #[.string nm, .slice ua t[i].2.1.length uq, .int .i64 P, .slice pa t[i].2.2.2.1.length pq, .slice ca t[i].2.2.2.2.length cq'] 51)
      have hokN:okN t i t[i]=((decide (i=0)||okA t i t[i])&&((decide (t[i].2.2.2.1.length≤16)&&okR t[i].2.2.2.1)&&decide (t[i].2.2.2.2.length≤16))):=by
       unfold okN
       cases decide (t[i].2.2.2.1.length≤16) <;> cases decide (t[i].2.2.2.2.length≤16) <;> cases okR t[i].2.2.2.1 <;> rfl
      have HN:=hid hokN
      clear hokN hP e1 htl
      have hbad:=fun g=>hid (frm_bad i hil g)
      obtain ⟨m,hm2⟩:∃m,t[i].2.2.2.2.length=m:=⟨_,rfl⟩
      rw[hm2] at f4 st hbx hlc HN
      simp only[hm2] at cq
      clear hm2
      cases hA:(decide (i=0)||okA t i t[i])
      ·have hf:=hbad (by rw[HN.out,hA,Bool.false_and])
       have hi0:((i:Int) !=0)=true:=by
        rw[Bool.or_eq_false_iff,decide_eq_false_iff_not] at hA
        simp
        exact hA.1
       have hq:okA t i t[i]=false:=(Bool.or_eq_false_iff.1 hA).2
       rw[hq] at cq
       clear hq hA hbad HN cf
       have CQ:=hid cq
       clear cq
       go_wp2_with fail
       generalize wr.alloc (.cells #[.string nm, .slice ua t[i].2.1.length uq, .int .i64 P, .slice pa t[i].2.2.2.1.length pq, .slice ca m cq'] 51)=w1 at st hbx ⊢
       have Z:Hid (∀W,Below w1.heap.size w1 W→W.cell? ⟨wr.heap.size,0,none⟩=some (.string nm)∧W.cell? ⟨wr.heap.size,1,none⟩=some (.slice ua t[i].2.1.length uq)∧W.cell? ⟨wr.heap.size,2,none⟩=some (.int .i64 P)∧W.cell? ⟨wr.heap.size,3,none⟩=some (.slice pa t[i].2.2.2.1.length pq)∧W.cell? ⟨wr.heap.size,4,none⟩=some (.slice ca m cq')):=fun W g=>⟨(st.below g).cell 0 _ rfl,(st.below g).cell 1 _ rfl,(st.below g).cell 2 _ rfl,(st.below g).cell 3 _ rfl,(st.below g).cell 4 _ rfl⟩
       have hrd:Hid (Below w1.heap.size w1 w1.drew):=below_drewN (Below.refl _ _) 1
       have B0:=hid hbx
       clear st hbx
       go_region_held (fun W=>W.cell? ⟨wr.heap.size,0,none⟩=some (.string nm)∧W.cell? ⟨wr.heap.size,1,none⟩=some (.slice ua t[i].2.1.length uq)∧W.cell? ⟨wr.heap.size,2,none⟩=some (.int .i64 P)∧W.cell? ⟨wr.heap.size,3,none⟩=some (.slice pa t[i].2.2.2.1.length pq)∧W.cell? ⟨wr.heap.size,4,none⟩=some (.slice ca m cq')) (first|with_reducible exact Z.out _ hrd.out|with_reducible exact Z.out _ R2.out)
        (first|(go_at_call 69;refine (CQ.out _ (below_trans B0.out hrd.out)).mono ?_;rintro e w2 ⟨rfl,b2⟩;have R2:Hid (Below w1.heap.size w1 w2):=below_trans hrd.out b2;clear b2))
       go_wp2_with fail
       go_ret
       exact ⟨ret_b hf.out.symm,below_trans hb (below_trans B0.out R2.out)⟩
      ·rw[hA,Bool.true_and] at HN
       by_cases hz:i=0
       ·have hi0:((i:Int) !=0)=false:=by simp[hz]
        clear hA cq hz
        cases hPF:(decide (t[i].2.2.2.1.length≤16)&&okR t[i].2.2.2.1)
        ·have hf:=hbad (by rw[HN.out,hPF,Bool.false_and])
         rw[hPF] at cf
         clear hPF hbad HN
         have CF:=hid cf
         clear cf
         go_wp2_with fail
         generalize wr.alloc (.cells #[.string nm, .slice ua t[i].2.1.length uq, .int .i64 P, .slice pa t[i].2.2.2.1.length pq, .slice ca m cq'] 51)=w1 at st hbx ⊢
         have Z:Hid (∀W,Below w1.heap.size w1 W→W.cell? ⟨wr.heap.size,0,none⟩=some (.string nm)∧W.cell? ⟨wr.heap.size,1,none⟩=some (.slice ua t[i].2.1.length uq)∧W.cell? ⟨wr.heap.size,2,none⟩=some (.int .i64 P)∧W.cell? ⟨wr.heap.size,3,none⟩=some (.slice pa t[i].2.2.2.1.length pq)∧W.cell? ⟨wr.heap.size,4,none⟩=some (.slice ca m cq')):=fun W g=>⟨(st.below g).cell 0 _ rfl,(st.below g).cell 1 _ rfl,(st.below g).cell 2 _ rfl,(st.below g).cell 3 _ rfl,(st.below g).cell 4 _ rfl⟩
         have B0:=hid hbx
         obtain ⟨y0,y1,y2,y3,y4⟩:=Z.out _ (Below.refl _ _)
         clear st hbx
         go_quiet (fail)
         obtain ⟨w2,hw2⟩:∃w2,w2=w1.drewN 1:=⟨_,rfl⟩
         have R2:Hid (Below w1.heap.size w1 w2):=by rw[hw2];exact below_drewN (Below.refl _ _) 1
         have q3:=below_cell (below_drewN (Below.refl _ w1) 1) y3
         have q4:=y4
         go_wp2_with (go_at_call 70;refine (CF.out _ (below_drewN B0.out _)).mono ?_;rintro e w3 ⟨rfl,b3⟩;have z4:=below_cell (below_trans (below_drewN (Below.refl _ w1) _) b3) y4)
         go_ret
         exact ⟨ret_b hf.out.symm,below_trans hb (below_trans (below_drewN B0.out _) b3)⟩
        ·rw[hPF] at cf
         rw[hPF,Bool.true_and] at HN
         have CF:=hid cf
         clear cf hPF
         by_cases h16:(16:Int) < m
         ·have hf:=hbad (by rw[HN.out,decide_eq_false (by omega)])
          clear hbad HN
          go_wp2_with fail
          generalize wr.alloc (.cells #[.string nm, .slice ua t[i].2.1.length uq, .int .i64 P, .slice pa t[i].2.2.2.1.length pq, .slice ca m cq'] 51)=w1 at st hbx ⊢
          have Z:Hid (∀W,Below w1.heap.size w1 W→W.cell? ⟨wr.heap.size,0,none⟩=some (.string nm)∧W.cell? ⟨wr.heap.size,1,none⟩=some (.slice ua t[i].2.1.length uq)∧W.cell? ⟨wr.heap.size,2,none⟩=some (.int .i64 P)∧W.cell? ⟨wr.heap.size,3,none⟩=some (.slice pa t[i].2.2.2.1.length pq)∧W.cell? ⟨wr.heap.size,4,none⟩=some (.slice ca m cq')):=fun W g=>⟨(st.below g).cell 0 _ rfl,(st.below g).cell 1 _ rfl,(st.below g).cell 2 _ rfl,(st.below g).cell 3 _ rfl,(st.below g).cell 4 _ rfl⟩
          have B0:=hid hbx
          obtain ⟨y0,y1,y2,y3,y4⟩:=Z.out _ (Below.refl _ _)
          clear st hbx
          go_quiet (fail)
          obtain ⟨w2,hw2⟩:∃w2,w2=w1.drewN 1:=⟨_,rfl⟩
          have R2:Hid (Below w1.heap.size w1 w2):=by rw[hw2];exact below_drewN (Below.refl _ _) 1
          have q3:=below_cell (below_drewN (Below.refl _ w1) 1) y3
          have q4:=y4
          go_wp2_with (go_at_call 70;refine (CF.out _ (below_drewN B0.out _)).mono ?_;rintro e w3 ⟨rfl,b3⟩;have z4:=below_cell (below_trans (below_drewN (Below.refl _ w1) _) b3) y4)
          go_ret
          exact ⟨ret_b hf.out.symm,below_trans hb (below_trans (below_drewN B0.out _) b3)⟩
         ·have hg:okN t i t[i]=true:=by rw[HN.out,decide_eq_true (by omega)]
          have hok2:Hid (∀j (g:j < i+1) (hj:j < t.length),okN t j t[j]=true):=by
           show ∀j _ _,_
           intro j g hj
           by_cases hjk:j < i
           ·exact hok.out j hjk hj
           ·have:j=i:=by omega
            subst this
            exact hg
          clear hbad HN hg
          go_wp2_with fail
          generalize wr.alloc (.cells #[.string nm, .slice ua t[i].2.1.length uq, .int .i64 P, .slice pa t[i].2.2.2.1.length pq, .slice ca m cq'] 51)=w1 at st hbx ⊢
          have Z:Hid (∀W,Below w1.heap.size w1 W→W.cell? ⟨wr.heap.size,0,none⟩=some (.string nm)∧W.cell? ⟨wr.heap.size,1,none⟩=some (.slice ua t[i].2.1.length uq)∧W.cell? ⟨wr.heap.size,2,none⟩=some (.int .i64 P)∧W.cell? ⟨wr.heap.size,3,none⟩=some (.slice pa t[i].2.2.2.1.length pq)∧W.cell? ⟨wr.heap.size,4,none⟩=some (.slice ca m cq')):=fun W g=>⟨(st.below g).cell 0 _ rfl,(st.below g).cell 1 _ rfl,(st.below g).cell 2 _ rfl,(st.below g).cell 3 _ rfl,(st.below g).cell 4 _ rfl⟩
          have B0:=hid hbx
          obtain ⟨y0,y1,y2,y3,y4⟩:=Z.out _ (Below.refl _ _)
          clear st hbx
          go_quiet (fail)
          obtain ⟨w2,hw2⟩:∃w2,w2=w1.drewN 1:=⟨_,rfl⟩
          have R2:Hid (Below w1.heap.size w1 w2):=by rw[hw2];exact below_drewN (Below.refl _ _) 1
          have q3:=below_cell (below_drewN (Below.refl _ w1) 1) y3
          have q4:=y4
          go_wp2_with (go_at_call 70;refine (CF.out _ (below_drewN B0.out _)).mono ?_;rintro e w3 ⟨rfl,b3⟩;have z4:=below_cell (below_trans (below_drewN (Below.refl _ w1) _) b3) y4)
          go_roundw
          case rel=>exact ⟨i+1,by omega,by go_num,hok2,below_trans hb (below_trans (below_drewN B0.out _) b3)⟩
          case measure=>simp[intOf];omega
       ·have hi0:((i:Int) !=0)=true:=by simp;exact hz
        have hq:okA t i t[i]=true:=by rw[decide_eq_false hz,Bool.false_or] at hA;exact hA
        rw[hq] at cq
        clear hq hA hz
        have CQ:=hid cq
        clear cq
        cases hPF:(decide (t[i].2.2.2.1.length≤16)&&okR t[i].2.2.2.1)
        ·have hf:=hbad (by rw[HN.out,hPF,Bool.false_and])
         rw[hPF] at cf
         clear hPF hbad HN
         have CF:=hid cf
         clear cf
         go_wp2_with fail
         generalize wr.alloc (.cells #[.string nm, .slice ua t[i].2.1.length uq, .int .i64 P, .slice pa t[i].2.2.2.1.length pq, .slice ca m cq'] 51)=w1 at st hbx ⊢
         have Z:Hid (∀W,Below w1.heap.size w1 W→W.cell? ⟨wr.heap.size,0,none⟩=some (.string nm)∧W.cell? ⟨wr.heap.size,1,none⟩=some (.slice ua t[i].2.1.length uq)∧W.cell? ⟨wr.heap.size,2,none⟩=some (.int .i64 P)∧W.cell? ⟨wr.heap.size,3,none⟩=some (.slice pa t[i].2.2.2.1.length pq)∧W.cell? ⟨wr.heap.size,4,none⟩=some (.slice ca m cq')):=fun W g=>⟨(st.below g).cell 0 _ rfl,(st.below g).cell 1 _ rfl,(st.below g).cell 2 _ rfl,(st.below g).cell 3 _ rfl,(st.below g).cell 4 _ rfl⟩
         have B0:=hid hbx
         have hrd:Hid (Below w1.heap.size w1 w1.drew):=below_drewN (Below.refl _ _) 1
         clear st hbx
         go_region_held (fun W=>W.cell? ⟨wr.heap.size,0,none⟩=some (.string nm)∧W.cell? ⟨wr.heap.size,1,none⟩=some (.slice ua t[i].2.1.length uq)∧W.cell? ⟨wr.heap.size,2,none⟩=some (.int .i64 P)∧W.cell? ⟨wr.heap.size,3,none⟩=some (.slice pa t[i].2.2.2.1.length pq)∧W.cell? ⟨wr.heap.size,4,none⟩=some (.slice ca m cq')) (first|with_reducible exact Z.out _ hrd.out|with_reducible exact Z.out _ R2.out)
          (first|(go_at_call 69;refine (CQ.out _ (below_trans B0.out hrd.out)).mono ?_;rintro e w2 ⟨rfl,b2⟩;have R2:Hid (Below w1.heap.size w1 w2):=below_trans hrd.out b2;clear b2))
         obtain ⟨y0,y1,y2,y3,y4⟩:=Z.out _ R2.out
         go_wp2_with (go_at_call 70;refine (CF.out _ (below_trans B0.out R2.out)).mono ?_;rintro e w3 ⟨rfl,b3⟩;have z4:=below_cell b3 y4)
         go_ret
         exact ⟨ret_b hf.out.symm,below_trans hb (below_trans (below_trans B0.out R2.out) b3)⟩
        ·rw[hPF] at cf
         rw[hPF,Bool.true_and] at HN
         have CF:=hid cf
         clear cf hPF
         by_cases h16:(16:Int) < m
         ·have hf:=hbad (by rw[HN.out,decide_eq_false (by omega)])
          clear hbad HN
          go_wp2_with fail
          generalize wr.alloc (.cells #[.string nm, .slice ua t[i].2.1.length uq, .int .i64 P, .slice pa t[i].2.2.2.1.length pq, .slice ca m cq'] 51)=w1 at st hbx ⊢
          have Z:Hid (∀W,Below w1.heap.size w1 W→W.cell? ⟨wr.heap.size,0,none⟩=some (.string nm)∧W.cell? ⟨wr.heap.size,1,none⟩=some (.slice ua t[i].2.1.length uq)∧W.cell? ⟨wr.heap.size,2,none⟩=some (.int .i64 P)∧W.cell? ⟨wr.heap.size,3,none⟩=some (.slice pa t[i].2.2.2.1.length pq)∧W.cell? ⟨wr.heap.size,4,none⟩=some (.slice ca m cq')):=fun W g=>⟨(st.below g).cell 0 _ rfl,(st.below g).cell 1 _ rfl,(st.below g).cell 2 _ rfl,(st.below g).cell 3 _ rfl,(st.below g).cell 4 _ rfl⟩
          have B0:=hid hbx
          have hrd:Hid (Below w1.heap.size w1 w1.drew):=below_drewN (Below.refl _ _) 1
          clear st hbx
          go_region_held (fun W=>W.cell? ⟨wr.heap.size,0,none⟩=some (.string nm)∧W.cell? ⟨wr.heap.size,1,none⟩=some (.slice ua t[i].2.1.length uq)∧W.cell? ⟨wr.heap.size,2,none⟩=some (.int .i64 P)∧W.cell? ⟨wr.heap.size,3,none⟩=some (.slice pa t[i].2.2.2.1.length pq)∧W.cell? ⟨wr.heap.size,4,none⟩=some (.slice ca m cq')) (first|with_reducible exact Z.out _ hrd.out|with_reducible exact Z.out _ R2.out)
           (first|(go_at_call 69;refine (CQ.out _ (below_trans B0.out hrd.out)).mono ?_;rintro e w2 ⟨rfl,b2⟩;have R2:Hid (Below w1.heap.size w1 w2):=below_trans hrd.out b2;clear b2))
          obtain ⟨y0,y1,y2,y3,y4⟩:=Z.out _ R2.out
          go_wp2_with (go_at_call 70;refine (CF.out _ (below_trans B0.out R2.out)).mono ?_;rintro e w3 ⟨rfl,b3⟩;have z4:=below_cell b3 y4)
          go_ret
          exact ⟨ret_b hf.out.symm,below_trans hb (below_trans (below_trans B0.out R2.out) b3)⟩
         ·have hg:okN t i t[i]=true:=by rw[HN.out,decide_eq_true (by omega)]
          have hok2:Hid (∀j (g:j < i+1) (hj:j < t.length),okN t j t[j]=true):=by
           show ∀j _ _,_
           intro j g hj
           by_cases hjk:j < i
           ·exact hok.out j hjk hj
           ·have:j=i:=by omega
            subst this
            exact hg
          clear hbad HN hg
          go_wp2_with fail
          generalize wr.alloc (.cells #[.string nm, .slice ua t[i].2.1.length uq, .int .i64 P, .slice pa t[i].2.2.2.1.length pq, .slice ca m cq'] 51)=w1 at st hbx ⊢
          have Z:Hid (∀W,Below w1.heap.size w1 W→W.cell? ⟨wr.heap.size,0,none⟩=some (.string nm)∧W.cell? ⟨wr.heap.size,1,none⟩=some (.slice ua t[i].2.1.length uq)∧W.cell? ⟨wr.heap.size,2,none⟩=some (.int .i64 P)∧W.cell? ⟨wr.heap.size,3,none⟩=some (.slice pa t[i].2.2.2.1.length pq)∧W.cell? ⟨wr.heap.size,4,none⟩=some (.slice ca m cq')):=fun W g=>⟨(st.below g).cell 0 _ rfl,(st.below g).cell 1 _ rfl,(st.below g).cell 2 _ rfl,(st.below g).cell 3 _ rfl,(st.below g).cell 4 _ rfl⟩
          have B0:=hid hbx
          have hrd:Hid (Below w1.heap.size w1 w1.drew):=below_drewN (Below.refl _ _) 1
          clear st hbx
          go_region_held (fun W=>W.cell? ⟨wr.heap.size,0,none⟩=some (.string nm)∧W.cell? ⟨wr.heap.size,1,none⟩=some (.slice ua t[i].2.1.length uq)∧W.cell? ⟨wr.heap.size,2,none⟩=some (.int .i64 P)∧W.cell? ⟨wr.heap.size,3,none⟩=some (.slice pa t[i].2.2.2.1.length pq)∧W.cell? ⟨wr.heap.size,4,none⟩=some (.slice ca m cq')) (first|with_reducible exact Z.out _ hrd.out|with_reducible exact Z.out _ R2.out)
           (first|(go_at_call 69;refine (CQ.out _ (below_trans B0.out hrd.out)).mono ?_;rintro e w2 ⟨rfl,b2⟩;have R2:Hid (Below w1.heap.size w1 w2):=below_trans hrd.out b2;clear b2))
          obtain ⟨y0,y1,y2,y3,y4⟩:=Z.out _ R2.out
          go_wp2_with (go_at_call 70;refine (CF.out _ (below_trans B0.out R2.out)).mono ?_;rintro e w3 ⟨rfl,b3⟩;have z4:=below_cell b3 y4)
          go_roundw
          case rel=>exact ⟨i+1,by omega,by go_num,hok2,below_trans hb (below_trans (below_trans B0.out R2.out) b3)⟩
          case measure=>simp[intOf];omega
     ·have hf:Hid (frmT t=true):=by
       show _=_
       rw[frm_iff]
       exact ⟨hlen32.out.2,hlen32.out.1,hroot.out,fun j hj=>hok.out j (by omega) hj⟩
      go_wp2_with fail
      go_ret
      exact ⟨ret_b hf.out.symm,hb⟩
set_option maxHeartbeats 1000000 in
theorem w_r8wrong (v:Value) (t:List Nd) (n:Int) (w:World) (h:RdT w v t) (bt:∀x∈t,bytN x) (ls:∀x∈t,lenN x):
  Calls Tryz.prog 49 #[v, .int .i64 n] w fun e w'=>e= .returned (.int .i64 (wrgF t n))∧Below w.heap.size w w':=by
 have hla:=slr_len h uN (P:=Tryz.prog)
 have cf:=w_r8formed v t w h bt ls
 cases hf:frmT t
 ·have e:wrgF t n=1:=by unfold wrgF;rw[if_pos hf]
  rw[e]
  rw[hf] at cf
  clear e hf
  go_enter Tryz.func49,Tryz.ntmps49
  go_wp2_with (go_at_call 23;refine cf.mono ?_;rintro e q1 ⟨rfl,b1⟩)
  go_ret
  exact ⟨rfl,b1⟩
 ·rw[hf] at cf
  have e:wrgF t n=if n < 0∨(t.length:Int)≤n then 19 else 0:=by unfold wrgF;rw[if_neg (by rw[hf];decide)]
  rw[e]
  clear e hf
  by_cases h0:n < 0
  ·rw[if_pos (Or.inl h0)]
   go_enter Tryz.func49,Tryz.ntmps49
   go_wp2_with (go_at_call 23;refine cf.mono ?_;rintro e q1 ⟨rfl,b1⟩)
   go_ret
   exact ⟨rfl,b1⟩
  ·by_cases h1:(t.length:Int)≤n
   ·rw[if_pos (Or.inr h1)]
    go_enter Tryz.func49,Tryz.ntmps49
    go_wp2_with (go_at_call 23;refine cf.mono ?_;rintro e q1 ⟨rfl,b1⟩)
    go_ret
    exact ⟨rfl,b1⟩
   ·rw[if_neg (by omega)]
    go_enter Tryz.func49,Tryz.ntmps49
    go_wp2_with (go_at_call 23;refine cf.mono ?_;rintro e q1 ⟨rfl,b1⟩)
    go_ret
    exact ⟨rfl,b1⟩
theorem uP:Tryz.prog.underlying 38=some (.slice (Tryz.prog.elem 38)):=by kernel_rfl
theorem eP:Tryz.prog.elem 38=47:=by kernel_rfl
theorem zP (w:World):(sizeOf (Tryz.prog.elem 38)).run Tryz.prog w= .ok 3 w:=by rw[eP];exact Tryz.sizeOf47 w
theorem stp_at {w:World} {v:Value} {xs:List Sp} (h:SlR 3 stpR w v xs) (i:Nat) (h1:i < xs.length):
  ∃(b o:Nat) (nm ar:ByteArray) (ao:Option Addr) (n cap:Nat),(∀w',(Instr.indexAt 38 v (.int .i64 (i:Int))).run Tryz.prog w'= .ok (.pointer (some ⟨b,o,none⟩)) w')∧w.cell? ⟨b,o,none⟩=some (.string nm)∧w.cell? ⟨b,o+1,none⟩=some (.slice ao n cap)∧w.cell? ⟨b,o+2,none⟩=some (.string ar)∧strOfNums xs[i].1=nm∧strOfNums xs[i].2.2=ar∧Rd .u32 w (.slice ao n cap) xs[i].2.1:=by
 obtain ⟨b,o,c0,c1,c2,r,e0,e1,e2,u,hR,hU⟩:=slr_idx3 h uP zP i h1
 simp only[List.cons.injEq] at hR
 obtain ⟨rfl,rfl,rfl,_⟩:=hR
 obtain ⟨ao,cap,rfl,_⟩:=rd_form hU
 exact ⟨b,o,_,_,ao,_,cap,r,e0,e1,e2,rfl,rfl,hU⟩
theorem rd_n {k:IntKind} {w:World} {ao:Option Addr} {n cap:Nat} {xs:List Int} (h:Rd k w (.slice ao n cap) xs):n=xs.length:=by
 obtain ⟨ao',cap',e,_⟩:=rd_form h
 simp at e
 exact e.2.1
def ldG (t:List Nd) (p:Nd→Bool) (k:Nat):Option Nat:=((t.drop k).findIdx? p).map (· +k)
theorem ldG_end (t:List Nd) (p:Nd→Bool) (k:Nat) (h:t.length≤k):ldG t p k=none:=by
 unfold ldG
 rw[List.drop_of_length_le h]
 rfl
theorem ldG_at (t:List Nd) (p:Nd→Bool) (k:Nat) (h:k < t.length):ldG t p k=if p t[k]=true then some k else ldG t p (k+1):=by
 unfold ldG
 rw[List.drop_eq_getElem_cons h,List.findIdx?_cons]
 split
 ·simp
 ·cases (t.drop (k+1)).findIdx? p with
  |none=>rfl
  |some j=>simp;omega
theorem ldF_G {t:List Nd} (hf:frmT t=true) (a:Nat) (x:Sp):ldF t a x=ldG t (matN a x.1 x.2.1) 1:=by
 obtain ⟨g0,g1,g2,g3⟩:=(frm_iff t).1 hf
 have e:ldF t a x=ldG t (matN a x.1 x.2.1) 0:=by
  unfold ldF ldG
  simp
 have hr:matN a x.1 x.2.1 t[0]=false:=by
  unfold rootF at g2
  simp only[Bool.and_eq_true,decide_eq_true_eq] at g2
  unfold matN
  rw[g2.2.2,decide_eq_false (by omega)]
  rfl
 rw[e,ldG_at t _ 0 g0,if_neg (by rw[hr];decide)]
theorem ldG_lt (t:List Nd) (p:Nd→Bool) (k j:Nat) (h:ldG t p k=some j):j < t.length:=by
 unfold ldG at h
 rw[Option.map_eq_some_iff] at h
 obtain ⟨m,h1,rfl⟩:=h
 rw[List.findIdx?_eq_some_iff_getElem] at h1
 obtain ⟨g,_⟩:=h1
 rw[List.length_drop] at g
 omega
set_option maxHeartbeats 4000000 in
set_option maxRecDepth 100000 in
theorem w_r8findT (v vl:Value) (t:List Nd) (l:List Sp) (w:World) (h:RdT w v t) (hl:SlR 3 stpR w vl l) (bt:∀x∈t,bytN x) (ls:∀x∈t,lenN x) (bl:∀x∈l,bytesL x.1∧bytesL x.2.2):
  Calls Tryz.prog 8 #[v,vl] w fun e w'=>e= .returned (.tuple #[.int .i64 (finT t l).1, .int .i64 (finT t l).2])∧Below w.heap.size w w':=by
 have hla:=slr_len h uN (P:=Tryz.prog)
 have hlb:=slr_len hl uP (P:=Tryz.prog)
 have hml:=slr_max hl
 unfold maxLen at hml
 have cf:=w_r8formed v t w h bt ls
 cases hf:frmT t
 ·have e:finT t l=(0,1):=by unfold finT;rw[if_pos hf]
  rw[e]
  rw[hf] at cf
  clear e hf
  go_enter Tryz.func8,Tryz.ntmps8
  go_wp2_with (go_at_call 23;refine cf.mono ?_;rintro e q1 ⟨rfl,b1⟩)
  go_ret2
  exact ⟨rfl,b1⟩
 ·rw[hf] at cf
  obtain ⟨g0,g1,_,_⟩:=(frm_iff t).1 hf
  obtain ⟨A,E,hAE⟩:∃A E,finT t l=(A,E):=⟨_,_,rfl⟩
  have no:finF t l 0=none→A=0∧E=19:=by
   intro g
   have e:finT t l=(0,19):=by unfold finT;rw[if_neg (by rw[hf];decide),g]
   rw[hAE] at e
   exact Prod.mk.inj e
  have yes:∀k:Nat,finF t l 0=some k→A=k∧E=0:=by
   intro k g
   have e:finT t l=((k:Int),0):=by unfold finT;rw[if_neg (by rw[hf];decide),g]
   rw[hAE] at e
   exact Prod.mk.inj e
  rw[hAE]
  have No:=hid no
  have Yes:=hid yes
  have HF:=hid hf
  show Calls _ _ _ _ fun e w'=>e= .returned (.tuple #[.int .i64 A, .int .i64 E])∧_
  clear hAE no yes hf
  go_enter Tryz.func8,Tryz.ntmps8
  go_wp2_with (go_at_call 23;refine cf.mono ?_;rintro e q1 ⟨rfl,b1⟩)
  go_loopw [6,7] (fun T I wx=>∃(a i:Nat),T= .int .i64 a∧I= .int .i64 i∧(i:Int)≤l.length∧(a:Int) < t.length∧Hid (finF t l 0=finF t (l.drop i) a)∧Below w.heap.size w wx) (fun _ I _=>(l.length - intOf I).toNat)
  case atStart=>exact ⟨0,0,rfl,rfl,by omega,by omega,hid rfl,b1⟩
  case round=>
   obtain ⟨a,i,rfl,rfl,hi,ha,hin,hb⟩:=hrel
   by_cases hlt:(i:Int) < l.length
   ·have hil:i < l.length:=by omega
    obtain ⟨bs,os,sn,sa,so,nU,sc,rs,s0,s1,s2,es,ea,hsu⟩:=stp_at hl i hil
    have hnU:=rd_n hsu
    have hdrop:l.drop i=l[i]::l.drop (i+1):=List.drop_eq_getElem_cons hil
    have hstep:finF t (l.drop i) a=match ldF t a l[i] with
      |none=>none
      |some k=>finF t (l.drop (i+1)) k:=by rw[hdrop];rfl
    rw[ldF_G HF.out a l[i]] at hstep
    have hbl:bytesL l[i].1:=(bl _ (List.getElem_mem hil)).1
    have HS:=hid hstep
    have HU:=hid hnU
    clear hstep hdrop hnU
    go_wp2_with fail
    have hbO:=hb
    go_loopw [8,9] (fun T K wx=>∃(k:Nat),T= .int .i64 (fdI (ldG t (matN a l[i].1 l[i].2.1) (k+1)))∧K= .int .i64 k∧(k:Int) < t.length∧Below w.heap.size w wx) (fun _ K _=>(intOf K).toNat)
    case atStart=>
     refine ⟨t.length - 1, ?_, ?_,by omega,hbO⟩
     ·rw[ldG_end t _ (t.length - 1+1) (by omega)];rfl
     ·congr 1;omega
    case round=>
     obtain ⟨k,rfl,rfl,hkt,hbk⟩:=hrel
     rcases Nat.eq_zero_or_pos k with hk0|hk0
     ·subst hk0
      cases hg:ldG t (matN a l[i].1 l[i].2.1) (0+1) with
      |none=>
       have e:=No.out (by rw[hin.out,HS.out,hg])
       have He:=hid e
       clear e hg
       go_wp2_with fail
       go_ret2
       obtain ⟨rfl,rfl⟩:=He.out
       exact ⟨rfl,hbk⟩
      |some j=>
       have hjl:=ldG_lt _ _ _ _ hg
       have hin2:Hid (finF t l 0=finF t (l.drop (i+1)) j):=by show _=_;rw[hin.out,HS.out,hg]
       have hfj:fdI (some j)=(j:Int):=rfl
       have hj0:¬(j:Int) < 0:=by omega
       rw[hfj]
       clear hg hfj
       go_wp2_with fail
       go_roundw
       case rel=>exact ⟨j,i+1,rfl,by go_num,by omega,by omega,hin2,hbk⟩
       case measure=>simp[intOf];omega
     ·have hkp:(0:Int) < k:=by omega
      have hkl:k < t.length:=by omega
      obtain ⟨b2,o2,N2,u2,p2,c2,r2,f0,f1,f2,f3,f4,e2,hu2,hp2,hc2⟩:=nod_at (h.below hbk) k hkl
      obtain ⟨ua,uq,rfl⟩:=rd_slice hu2
      have m0:=below_cell hbk s0
      have m1:=below_cell hbk s1
      have hq:=str_eq8 N2 sn _ _ (bt _ (List.getElem_mem hkl)).1 hbl e2 es
      have cu:=fun W (g:Below wr.heap.size wr W)=>w_r3sameQ _ _ _ _ W (hu2.below g) ((hsu.below hbk).below g)
      have hat:=ldG_at t (matN a l[i].1 l[i].2.1) k hkl
      have hk1:k - 1+1=k:=by omega
      obtain ⟨F,hF⟩:∃F,fdI (ldG t (matN a l[i].1 l[i].2.1) (k+1))=F:=⟨_,rfl⟩
      have miss:matN a l[i].1 l[i].2.1 t[k]=false→Hid (Value.int .i64 F= .int .i64 (fdI (ldG t (matN a l[i].1 l[i].2.1) (k - 1+1)))):=by
       intro g
       show _=_
       rw[hk1,hat,if_neg (by rw[g];decide),hF]
      have hit:matN a l[i].1 l[i].2.1 t[k]=true→Hid (Value.int .i64 (k:Int)= .int .i64 (fdI (ldG t (matN a l[i].1 l[i].2.1) (k - 1+1)))):=by
       intro g
       show _=_
       rw[hk1,hat,if_pos g]
       rfl
      have hkc:((k - 1:Nat):Int)=(k:Int) - 1:=by omega
      rw[hF]
      obtain ⟨P,hP⟩:∃P,t[k].2.2.1=P:=⟨_,rfl⟩
      rw[hP] at f2
      have hmat:matN a l[i].1 l[i].2.1 t[k]=(decide (P=a)&&(decide (t[k].1=l[i].1)&&(decide (l[i].2.1=[])||decide (t[k].2.1=l[i].2.1)))):=by rw[←hP];rfl
      rw[hmat] at miss hit
      clear hF hat hmat hP e2
      by_cases h1:P=a
      ·have q1:(P==(a:Int))=true:=by simpa using h1
       rw[decide_eq_true h1] at miss hit
       by_cases h2:t[k].1=l[i].1
       ·rw[decide_eq_true h2] at miss hit hq
        by_cases h3:l[i].2.1=[]
        ·have hn0:((nU:Int)==0)=true:=by rw[HU.out,h3];rfl
         have hT:=hit (by simp[h3])
         clear miss hit h1 h2 h3 cu
         go_wp2_with fail
         go_quiet (fail)
         go_wp2_with fail
         go_roundw
         case rel=>exact ⟨k - 1,hT.out,by rw[hkc],by omega,below_drewN hbk _⟩
         case measure=>simp[intOf];omega
        ·have hn0:((nU:Int)==0)=false:=by rw[Bool.eq_false_iff];intro g;rw[beq_iff_eq] at g;have:=HU.out;exact h3 (List.eq_nil_of_length_eq_zero (by omega))
         by_cases h4:t[k].2.1=l[i].2.1
         ·simp only[decide_eq_true h4] at cu
          have hT:=hit (by simp[h4])
          clear miss hit h1 h2 h3 h4
          go_wp2_with fail
          go_quiet (first|(go_at_call 9;exact Calls.quiet_of (cu _ (below_drewN (Below.refl _ _) _))))
          go_wp2_with fail
          go_roundw
          case rel=>exact ⟨k - 1,hT.out,by rw[hkc],by omega,below_drewN hbk _⟩
          case measure=>simp[intOf];omega
         ·simp only[decide_eq_false h4] at cu
          have hT:=miss (by simp[h3,h4])
          clear miss hit h1 h2 h3 h4
          go_wp2_with fail
          go_quiet (first|(go_at_call 9;exact Calls.quiet_of (cu _ (below_drewN (Below.refl _ _) _))))
          go_wp2_with fail
          go_roundw
          case rel=>exact ⟨k - 1,hT.out,by rw[hkc],by omega,below_drewN hbk _⟩
          case measure=>simp[intOf];omega
       ·rw[decide_eq_false h2] at miss hit hq
        have hT:=miss (by simp)
        clear miss hit h1 h2 cu
        go_wp2_with fail
        go_quiet (fail)
        go_wp2_with fail
        go_roundw
        case rel=>exact ⟨k - 1,hT.out,by rw[hkc],by omega,below_drewN hbk _⟩
        case measure=>simp[intOf];omega
      ·have q1:(P==(a:Int))=false:=by simpa using h1
       rw[decide_eq_false h1] at miss hit
       have hT:=miss (by simp)
       clear miss hit h1 cu
       go_wp2_with fail
       go_quiet (fail)
       go_wp2_with fail
       go_roundw
       case rel=>exact ⟨k - 1,hT.out,by rw[hkc],by omega,below_drewN hbk _⟩
       case measure=>simp[intOf];omega
   ·have e:=Yes.out a (by rw[hin.out,List.drop_of_length_le (by omega)];rfl)
    have He:=hid e
    clear e
    go_wp2_with fail
    go_ret2
    obtain ⟨rfl,rfl⟩:=He.out
    exact ⟨rfl,hb⟩
set_option maxHeartbeats 2000000 in
set_option maxRecDepth 100000 in
theorem w_p8find' (v vl:Value) (t:List Nd) (l:List Sp) (w:World) (h:RdT w v t) (hl:SlR 3 stpR w vl l) (bt:∀x∈t,bytN x) (ls:∀x∈t,lenN x) (bl:∀x∈l,bytesL x.1∧bytesL x.2.2):
  Calls Tryz.prog 29 #[v,vl] w fun e w'=>e= .returned (.tuple #[.int .i64 (finT t l).1, .int .i64 (finT t l).2])∧Below w.heap.size w w':=by
 have hla:=slr_len h uN (P:=Tryz.prog)
 have hlb:=slr_len hl uP (P:=Tryz.prog)
 have hml:=slr_max hl
 unfold maxLen at hml
 have cf:=w_p8formed' v t w h bt ls
 cases hf:frmT t
 ·have e:finT t l=(0,1):=by unfold finT;rw[if_pos hf]
  rw[e]
  rw[hf] at cf
  clear e hf
  go_enter Tryz.func29,Tryz.ntmps29
  go_wp2_with (go_at_call 35;refine cf.mono ?_;rintro e q1 ⟨rfl,b1⟩)
  go_ret2
  exact ⟨rfl,b1⟩
 ·rw[hf] at cf
  obtain ⟨g0,g1,_,_⟩:=(frm_iff t).1 hf
  obtain ⟨A,E,hAE⟩:∃A E,finT t l=(A,E):=⟨_,_,rfl⟩
  have no:finF t l 0=none→A=0∧E=19:=by
   intro g
   have e:finT t l=(0,19):=by unfold finT;rw[if_neg (by rw[hf];decide),g]
   rw[hAE] at e
   exact Prod.mk.inj e
  have yes:∀k:Nat,finF t l 0=some k→A=k∧E=0:=by
   intro k g
   have e:finT t l=((k:Int),0):=by unfold finT;rw[if_neg (by rw[hf];decide),g]
   rw[hAE] at e
   exact Prod.mk.inj e
  rw[hAE]
  have No:=hid no
  have Yes:=hid yes
  show Calls _ _ _ _ fun e w'=>e= .returned (.tuple #[.int .i64 A, .int .i64 E])∧_
  clear hAE no yes hf
  go_enter Tryz.func29,Tryz.ntmps29
  go_wp2_with (go_at_call 35;refine cf.mono ?_;rintro e q1 ⟨rfl,b1⟩)
  go_loopw [6,14] (fun T I wx=>∃(a i:Nat),T= .int .i64 a∧I= .int .i64 i∧(i:Int)≤l.length∧(a:Int) < t.length∧Hid (finF t l 0=finF t (l.drop i) a)∧Below w.heap.size w wx) (fun _ I _=>(l.length - intOf I).toNat)
  case atStart=>exact ⟨0,0,rfl,rfl,by omega,by omega,hid rfl,b1⟩
  case round=>
   clear b1 cf
   obtain ⟨a,i,rfl,rfl,hi,ha,hin,hb⟩:=hrel
   by_cases hlt:(i:Int) < l.length
   ·have hil:i < l.length:=by omega
    obtain ⟨bs,os,sn,sa,so,nU,sc,rs,s0,s1,s2,es,ea,hsu⟩:=stp_at (hl.below hb (stpR_below hb)) i hil
    have hdrop:l.drop i=l[i]::l.drop (i+1):=List.drop_eq_getElem_cons hil
    have hstep:finF t (l.drop i) a=match ldF t a l[i] with
      |none=>none
      |some k=>finF t (l.drop (i+1)) k:=by rw[hdrop];rfl
    have hbl:bytesL l[i].1:=(bl _ (List.getElem_mem hil)).1
    have hbx:=box_below wr (.cells #[.string sn, .slice so nU sc, .string sa] 47)
    have st:=stands_new wr #[.string sn, .slice so nU sc, .string sa] 47
    have y0:=st.cell 0 _ rfl
    have y1:=st.cell 1 _ rfl
    have y2:=st.cell 2 _ rfl
    have cm:=w_pmeant sn sa _ l[i] t _ es hbl (hsu.below hbx) bt
    have ck:=fun W (g:Below w.heap.size w W) gg lb eg ha=>w_pchild v t (a:Int) gg lb (fun y=>decide (y.1=(l[i]'hil).1)&&(decide ((l[i]'hil).2.1=[])||decide (y.2.1=(l[i]'hil).2.1))) W eg (h.below g) ha
    have hb2:=below_trans hb hbx
    have hLd:t.findIdx? (fun x=>decide (x.2.2.1=(a:Int))&&(fun y:Nd=>decide (y.1=l[i].1)&&(decide (l[i].2.1=[])||decide (y.2.1=l[i].2.1))) x)=ldF t a l[i]:=rfl
    simp only[hLd] at ck
    cases hg:ldF t a l[i] with
    |none=>
     have He:=hid (No.out (by rw[hin.out,hstep,hg]))
     simp only[hg] at ck
     have ck':∀W,Below w.heap.size w W→∀gg lb,(∀args w,(callFunc gg args).run Tryz.prog w= .ok (.enter gg args) w)→AskN W gg lb (fun y=>decide (y.1=l[i].1)&&(decide (l[i].2.1=[])||decide (y.2.1=l[i].2.1))) t→Calls Tryz.prog 55 #[v, .int .i64 a, .func (.func gg) #[] lb] W fun e w'=>e= .returned (.int .i64 (-1))∧Below W.heap.size W w':=ck
     have CK:=hid ck'
     clear hg hstep hdrop hLd es ea ck ck'
     go_wp2_with (first
      |(go_at_call 56;refine cm.mono ?_;rintro e w2 ⟨gg,lb,rfl,eg,ha2,b2⟩)
      |(go_at_call 55;refine (CK.out _ (below_trans hb2 b2) gg lb eg ha2).mono ?_;rintro e w3 ⟨rfl,b3⟩))
     go_ret2
     obtain ⟨rfl,rfl⟩:=He.out
     exact ⟨rfl,below_trans (below_trans hb2 b2) b3⟩
    |some j=>
     have hjl:j < t.length:=by
      have:=hg
      unfold ldF at this
      rw[List.findIdx?_eq_some_iff_getElem] at this
      exact this.1
     have hin2:Hid (finF t l 0=finF t (l.drop (i+1)) j):=by show _=_;rw[hin.out,hstep,hg]
     simp only[hg] at ck
     have ck':∀W,Below w.heap.size w W→∀gg lb,(∀args w,(callFunc gg args).run Tryz.prog w= .ok (.enter gg args) w)→AskN W gg lb (fun y=>decide (y.1=l[i].1)&&(decide (l[i].2.1=[])||decide (y.2.1=l[i].2.1))) t→Calls Tryz.prog 55 #[v, .int .i64 a, .func (.func gg) #[] lb] W fun e w'=>e= .returned (.int .i64 (j:Int))∧Below W.heap.size W w':=ck
     have CK:=hid ck'
     have hj:((j:Int)== -1)=false:=by simp
     clear hg hstep hdrop hLd es ea ck ck'
     go_wp2_with (first
      |(go_at_call 56;refine cm.mono ?_;rintro e w2 ⟨gg,lb,rfl,eg,ha2,b2⟩)
      |(go_at_call 55;refine (CK.out _ (below_trans hb2 b2) gg lb eg ha2).mono ?_;rintro e w3 ⟨rfl,b3⟩))
     go_roundw
     case rel=>exact ⟨j,i+1,rfl,by go_num,by omega,by omega,hin2,below_trans (below_trans hb2 b2) b3⟩
     case measure=>simp[intOf];omega
   ·have e:=Yes.out a (by rw[hin.out,List.drop_of_length_le (by omega)];rfl)
    have He:=hid e
    clear e
    go_wp2_with fail
    go_ret2
    obtain ⟨rfl,rfl⟩:=He.out
    exact ⟨rfl,hb⟩
end Go.Proofs.YtlokhciaaepenaaGreatDoor
