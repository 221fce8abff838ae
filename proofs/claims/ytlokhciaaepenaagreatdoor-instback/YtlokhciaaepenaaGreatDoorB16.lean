import Derived.Deep.RegionHeld
import Derived.Test.YtlokhciaaepenaaGreatDoorB15
set_option linter.unusedVariables false
set_option linter.unusedSimpArgs false
set_option maxRecDepth 100000
namespace Go.Proofs.YtlokhciaaepenaaGreatDoor
open Go.ChangeShapes Go.WideShapes Go.ChangeAt Go.RowKit
theorem prm_byt9:∀p∈prmL,bytesL p.1:=by
 have h:prmL.all (fun p=>p.1.all (fun c=>decide (0≤c∧c < 256)))=true:=by decide+kernel
 intro p hp c hc
 have:=List.all_eq_true.1 (List.all_eq_true.1 h p hp) c hc
 simpa using this
structure okV (x:Wd):Prop where
 byt:bytesL x.1
 len:x.1.length≤maxLen
 ops:∀y∈x.2.2.2.2,0≤y.2∧y.2 < 4294967296
 num:0≤x.2.2.2.1∧x.2.2.2.1 < 4294967296
theorem wdp_len {ws:List Wd} {t:List Nd} (h:¬(111≤ws.length∧ws.length≤640)):wdsF ws t=false:=by
 unfold wdsF
 rw[decide_eq_false h,Bool.false_and]
theorem wdp_prm {ws:List Wd} {t:List Nd} {k:Nat} (hw:k < ws.length) (hk:k < prmL.length) (h:¬ws[k]=prmW prmL[k]):wdsF ws t=false:=by
 unfold wdsF
 have:¬ws.take 111=prmL.map prmW:=by
  intro e
  have e1:(ws.take 111)[k]? =(prmL.map prmW)[k]? :=by rw[e]
  rw[List.getElem?_take,if_pos (by rw[prm_len] at hk;exact hk),List.getElem?_map,List.getElem?_eq_getElem hk,List.getElem?_eq_getElem hw] at e1
  simp at e1
  exact h e1
 rw[decide_eq_false this,Bool.false_and,Bool.and_false]
theorem wdp_bad {ws:List Wd} {t:List Nd} {k:Nat} (hk:k < (ws.drop 111).length) (h:wofF (ws.drop 111)[k] ws.length t=false):wdsF ws t=false:=by
 unfold wdsF
 have:(ws.drop 111).all (fun w=>wofF w ws.length t)=false:=by
  rw[List.all_eq_false]
  exact ⟨_,List.getElem_mem hk,by rw[h];decide⟩
 rw[this,Bool.and_false,Bool.and_false]
theorem wdp_yes {ws:List Wd} {t:List Nd} (h0:111≤ws.length∧ws.length≤640) (h1:∀k (hw:k < ws.length) (hk:k < prmL.length),ws[k]=prmW prmL[k]) (h2:∀k (hk:k < (ws.drop 111).length),wofF (ws.drop 111)[k] ws.length t=true):wdsF ws t=true:=by
 unfold wdsF
 have e1:ws.take 111=prmL.map prmW:=by
  apply List.ext_getElem
  ·rw[List.length_take,List.length_map,prm_len]
   omega
  ·intro i a b
   rw[List.getElem_take,List.getElem_map]
   exact h1 i (by simp at a;omega) (by simpa using b)
 have e2:(ws.drop 111).all (fun w=>wofF w ws.length t)=true:=by
  rw[List.all_eq_true]
  intro x hx
  obtain ⟨k,hk,rfl⟩:=List.getElem_of_mem hx
  exact h2 k hk
 rw[decide_eq_true h0,decide_eq_true e1,e2]
 rfl
set_option maxHeartbeats 4000000 in
set_option maxRecDepth 100000 in
theorem w_pwords (vw vt:Value) (ws:List Wd) (t:List Nd) (w:World) (h:RdW w vw ws) (ht:RdT w vt t) (gx:∀x∈ws,okV x):
  Calls Tryz.prog 37 #[vw,vt] w fun e w'=>e= .returned (.bool (wdsF ws t))∧Below w.heap.size w w':=by
 have hla:=slr_len h uW (P:=Tryz.prog)
 have hm:=slr_max h
 unfold maxLen at hm
 by_cases h1:(ws.length:Int) < 111
 ·have hf:=hid (wdp_len (ws:=ws) (t:=t) (by omega))
  have q1:decide ((ws.length:Int) < 111)=true:=decide_eq_true h1
  go_enter Tryz.func37,Tryz.ntmps37
  go_wp2_with fail
  go_ret
  exact ⟨ret_b hf.out.symm,Below.refl _ _⟩
 ·have q1:decide ((ws.length:Int) < 111)=false:=decide_eq_false h1
  by_cases h2:(640:Int) < ws.length
  ·have hf:=hid (wdp_len (ws:=ws) (t:=t) (by omega))
   have q2:decide ((640:Int) < ws.length)=true:=decide_eq_true h2
   go_enter Tryz.func37,Tryz.ntmps37
   go_wp2_with fail
   go_ret
   exact ⟨ret_b hf.out.symm,Below.refl _ _⟩
  ·have q2:decide ((640:Int) < ws.length)=false:=decide_eq_false h2
   have hlen:Hid (111≤ws.length∧ws.length≤640):=⟨by omega,by omega⟩
   have pl:(prmL.length:Int)=111:=by rw[prm_len];rfl
   obtain ⟨vh,hh,hhR⟩:=slr_tail h uW zW 111 (by omega)
   have hh':∀w',(Instr.slice 24 vw (some (.int .i64 111)) none none).run Tryz.prog w'= .ok vh w':=hh
   obtain ⟨tl,htl⟩:∃tl,ws.drop 111=tl:=⟨_,rfl⟩
   have hBad:Hid (∀k (hk:k < tl.length),wofF tl[k] ws.length t=false→wdsF ws t=false):=by
    show ∀k _,_
    intro k hk
    subst htl
    exact wdp_bad hk
   have hYes:Hid ((∀k (hw:k < ws.length) (hk:k < prmL.length),ws[k]=prmW prmL[k])→(∀k (hk:k < tl.length),wofF tl[k] ws.length t=true)→wdsF ws t=true):=by
    show _→_
    subst htl
    exact wdp_yes hlen.out
   have hTm:Hid (∀x∈tl,okV x):=by
    show ∀x∈tl,_
    subst htl
    exact fun x hx=>gx x (List.mem_of_mem_drop hx)
   have hTn:(tl.length:Int)≤640:=by rw[←htl,List.length_drop];omega
   rw[htl] at hhR
   have hlh:=slr_len hhR uW (P:=Tryz.prog)
   clear hh htl
   go_enter Tryz.func37,Tryz.ntmps37
   go_wp2_with (go_at_call 71;refine (w_p9primsO _).mono ?_;rintro e q1 ⟨u1,rfl,p1,b1⟩;have p1R:=p1.read (R:=prmR) (by decide) (fun _ _ q=>q);have hlp:=slr_len p1R uM (P:=Tryz.prog);rw[pl] at hlp)
   go_loopw [19] (fun I wx=>∃k:Nat,(k:Int)≤111∧I= .int .i64 k∧Hid (∀j (g:j < k) (hw:j < ws.length) (hj:j < prmL.length),ws[j]=prmW prmL[j])∧Below q1.heap.size q1 wx) (fun I _=>(111 - intOf I).toNat)
   case atStart=>exact ⟨0,by omega,rfl,hid (fun j g=>by omega),Below.refl _ _⟩
   case round=>
    obtain ⟨k,hk,rfl,hok,hbq⟩:=hrel
    have hb:=below_trans b1 hbq
    by_cases hlt:(k:Int) < 111
    ·have hkl:k < prmL.length:=by omega
     have hkw:k < ws.length:=by omega
     have hkwi:(k:Int) < ws.length:=by omega
     obtain ⟨bp,op,pn,rp,p0,p1c,ep⟩:=prm_cell (p1R.below hbq (prmR_below hbq)) k hkl
     obtain ⟨b2,o2,nm,vc,r2,f0,f1,f2,f3,f4,e2,hc2⟩:=wrd_at (RdW.below h hb) k hkw
     have hcd:=List.all_eq_true.1 prm_codes _ (List.getElem_mem hkl)
     rw[decide_eq_true_eq] at hcd
     have gk:=gx _ (List.getElem_mem hkw)
     have ci:=fun W (g:Below wr.heap.size wr W)=>w_pisprim ws[k] prmL[k] nm pn vc W e2 ep (RdO.below hc2 g) gk.byt (prm_byt9 _ (List.getElem_mem hkl)) gk.num hcd
     obtain ⟨ca,cq,rfl⟩:=slr_slice hc2
     have bad:=fun g=>hid (wdp_prm (ws:=ws) (t:=t) hkw hkl g)
     obtain ⟨D,hD⟩:∃D,decide (ws[k]=prmW prmL[k])=D:=⟨_,rfl⟩
     simp only[hD] at ci
     obtain ⟨c,hc⟩:∃c,prmL[k].2=c:=⟨_,rfl⟩
     obtain ⟨X1,hX1⟩:∃X,ws[k].2.1=X:=⟨_,rfl⟩
     obtain ⟨X2,hX2⟩:∃X,ws[k].2.2.1=X:=⟨_,rfl⟩
     obtain ⟨X3,hX3⟩:∃X,ws[k].2.2.2.1=X:=⟨_,rfl⟩
     rw[hc] at p1c
     rw[hX1] at f1
     rw[hX2] at f2
     rw[hX3] at f3
     simp only[hc,hX1,hX2,hX3] at ci
     have st:=stands_new wr #[.string pn, .int .i64 c] 103
     have hbx:=box_below wr (.cells #[.string pn, .int .i64 c] 103)
     have CI:=hid ci
     have HB:=hid hb
     have HQ:=hid hbq
     have FW:Hid (∀W,Below wr.heap.size wr W→W.cell? ⟨b2,o2,none⟩=some (.string nm)∧W.cell? ⟨b2,o2+1,none⟩=some (.int .i64 X1)∧W.cell? ⟨b2,o2+2,none⟩=some (.int .i64 X2)∧W.cell? ⟨b2,o2+3,none⟩=some (.int .u32 X3)∧W.cell? ⟨b2,o2+4,none⟩=some (.slice ca ws[k].2.2.2.2.length cq)):=fun W g=>⟨below_cell g f0,below_cell g f1,below_cell g f2,below_cell g f3,below_cell g f4⟩
     clear hc hX1 hX2 hX3 ci hc2 e2 ep gk hcd f0 f1 f2 f3 f4 hb hbq
     cases D
     ·have hf:=bad (of_decide_eq_false hD)
      clear hD bad hok
      go_wp2_with fail
      generalize wr.alloc (.cells #[.string pn, .int .i64 c] 103)=w1 at st hbx ⊢
      have Z:Hid (∀W,Below w1.heap.size w1 W→(W.cell? ⟨wr.heap.size,0,none⟩=some (.string pn)∧W.cell? ⟨wr.heap.size,1,none⟩=some (.int .i64 c))∧(W.cell? ⟨b2,o2,none⟩=some (.string nm)∧W.cell? ⟨b2,o2+1,none⟩=some (.int .i64 X1)∧W.cell? ⟨b2,o2+2,none⟩=some (.int .i64 X2)∧W.cell? ⟨b2,o2+3,none⟩=some (.int .u32 X3)∧W.cell? ⟨b2,o2+4,none⟩=some (.slice ca ws[k].2.2.2.2.length cq))):=fun W g=>⟨⟨(st.below g).cell 0 _ rfl,(st.below g).cell 1 _ rfl⟩,FW.out W (below_trans hbx g)⟩
      have hrd:Hid (Below w1.heap.size w1 w1.drew):=below_drewN (Below.refl _ _) 1
      have B0:=hid hbx
      clear st hbx FW
      go_region_held (fun W=>(W.cell? ⟨wr.heap.size,0,none⟩=some (.string pn)∧W.cell? ⟨wr.heap.size,1,none⟩=some (.int .i64 c))∧(W.cell? ⟨b2,o2,none⟩=some (.string nm)∧W.cell? ⟨b2,o2+1,none⟩=some (.int .i64 X1)∧W.cell? ⟨b2,o2+2,none⟩=some (.int .i64 X2)∧W.cell? ⟨b2,o2+3,none⟩=some (.int .u32 X3)∧W.cell? ⟨b2,o2+4,none⟩=some (.slice ca ws[k].2.2.2.2.length cq))) (first|with_reducible exact Z.out _ hrd.out|with_reducible exact Z.out _ R2.out)
       (first
        |(go_at_call 72;refine (CI.out _ (below_trans B0.out hrd.out)).mono ?_;rintro e w2 ⟨rfl,d2⟩;have R2:Hid (Below w1.heap.size w1 w2):=below_trans hrd.out d2;clear d2))
      go_wp2_with fail
      go_ret
      exact ⟨ret_b hf.out.symm,below_trans HB.out (below_trans B0.out R2.out)⟩
     ·have hok2:Hid (∀j (g:j < k+1) (hw:j < ws.length) (hj:j < prmL.length),ws[j]=prmW prmL[j]):=by
       show ∀j _ _ _,_
       intro j g hw hj
       by_cases hjk:j < k
       ·exact hok.out j hjk hw hj
       ·have:j=k:=by omega
        subst this
        exact of_decide_eq_true hD
      clear hD bad hok
      go_wp2_with fail
      generalize wr.alloc (.cells #[.string pn, .int .i64 c] 103)=w1 at st hbx ⊢
      have Z:Hid (∀W,Below w1.heap.size w1 W→(W.cell? ⟨wr.heap.size,0,none⟩=some (.string pn)∧W.cell? ⟨wr.heap.size,1,none⟩=some (.int .i64 c))∧(W.cell? ⟨b2,o2,none⟩=some (.string nm)∧W.cell? ⟨b2,o2+1,none⟩=some (.int .i64 X1)∧W.cell? ⟨b2,o2+2,none⟩=some (.int .i64 X2)∧W.cell? ⟨b2,o2+3,none⟩=some (.int .u32 X3)∧W.cell? ⟨b2,o2+4,none⟩=some (.slice ca ws[k].2.2.2.2.length cq))):=fun W g=>⟨⟨(st.below g).cell 0 _ rfl,(st.below g).cell 1 _ rfl⟩,FW.out W (below_trans hbx g)⟩
      have hrd:Hid (Below w1.heap.size w1 w1.drew):=below_drewN (Below.refl _ _) 1
      have B0:=hid hbx
      clear st hbx FW
      go_region_held (fun W=>(W.cell? ⟨wr.heap.size,0,none⟩=some (.string pn)∧W.cell? ⟨wr.heap.size,1,none⟩=some (.int .i64 c))∧(W.cell? ⟨b2,o2,none⟩=some (.string nm)∧W.cell? ⟨b2,o2+1,none⟩=some (.int .i64 X1)∧W.cell? ⟨b2,o2+2,none⟩=some (.int .i64 X2)∧W.cell? ⟨b2,o2+3,none⟩=some (.int .u32 X3)∧W.cell? ⟨b2,o2+4,none⟩=some (.slice ca ws[k].2.2.2.2.length cq))) (first|with_reducible exact Z.out _ hrd.out|with_reducible exact Z.out _ R2.out)
       (first
        |(go_at_call 72;refine (CI.out _ (below_trans B0.out hrd.out)).mono ?_;rintro e w2 ⟨rfl,d2⟩;have R2:Hid (Below w1.heap.size w1 w2):=below_trans hrd.out d2;clear d2))
      go_wp2_with fail
      go_roundw
      case rel=>exact ⟨k+1,by omega,by go_num,hok2,below_trans HQ.out (below_trans B0.out R2.out)⟩
      case measure=>simp[intOf];omega
    ·have hok1:Hid (∀j (hw:j < ws.length) (hj:j < prmL.length),ws[j]=prmW prmL[j]):=fun j hw hj=>hok.out j (by omega) hw hj
     obtain ⟨w0,hw0⟩:∃w0,w0=wr:=⟨_,rfl⟩
     subst hw0
     have hb0:=hb
     clear hok hbq hb
     go_wp2_with fail
     go_loopw [35] (fun I wx=>∃k:Nat,(k:Int)≤tl.length∧I= .int .i64 k∧Hid (∀j (g:j < k) (hj:j < tl.length),wofF tl[j] ws.length t=true)∧Below w.heap.size w wx) (fun I _=>(tl.length - intOf I).toNat)
     case atStart=>exact ⟨0,by omega,rfl,hid (fun j g=>by omega),hb0⟩
     case round=>
      obtain ⟨i,hi,rfl,hoi,hb⟩:=hrel
      by_cases hlti:(i:Int) < tl.length
      ·have hil:i < tl.length:=by omega
       obtain ⟨b2,o2,nm,vc,r2,f0,f1,f2,f3,f4,e2,hc2⟩:=wrd_at (RdW.below hhR hb) i hil
       have gk:=hTm.out _ (List.getElem_mem hil)
       have ci:=fun W (g:Below wr.heap.size wr W)=>w_pwof tl[i] nm vc vt ws.length t W e2 (RdO.below hc2 g) (ht.below (below_trans hb g)) gk.byt gk.len gk.ops gk.num
       obtain ⟨ca,cq,rfl⟩:=slr_slice hc2
       have bad:=fun g=>hid (hBad.out i hil g)
       obtain ⟨D,hD⟩:∃D,wofF tl[i] ws.length t=D:=⟨_,rfl⟩
       simp only[hD] at ci
       obtain ⟨X1,hX1⟩:∃X,tl[i].2.1=X:=⟨_,rfl⟩
       obtain ⟨X2,hX2⟩:∃X,tl[i].2.2.1=X:=⟨_,rfl⟩
       obtain ⟨X3,hX3⟩:∃X,tl[i].2.2.2.1=X:=⟨_,rfl⟩
       obtain ⟨n5,hn5⟩:∃X,tl[i].2.2.2.2.length=X:=⟨_,rfl⟩
       rw[hX1] at f1
       rw[hX2] at f2
       rw[hX3] at f3
       rw[hn5] at f4
       simp only[hX1,hX2,hX3,hn5] at ci
       have hbx:=box_below wr (.cells #[.string nm, .int .i64 X1, .int .i64 X2, .int .u32 X3, .slice ca n5 cq] 34)
       have cw:=ci _ hbx
       clear hX1 hX2 hX3 hn5 ci hc2 e2 gk
       cases D
       ·have hf:=bad hD
        clear hD bad hoi
        go_wp2_with (go_at_call 73;refine cw.mono ?_;rintro e w2 ⟨rfl,d2⟩)
        go_ret
        exact ⟨ret_b hf.out.symm,below_trans hb (below_trans hbx d2)⟩
       ·have hoi2:Hid (∀j (g:j < i+1) (hj:j < tl.length),wofF tl[j] ws.length t=true):=by
         show ∀j _ _,_
         intro j g hj
         by_cases hjk:j < i
         ·exact hoi.out j hjk hj
         ·have:j=i:=by omega
          subst this
          exact hD
        clear hD bad hoi
        go_wp2_with (go_at_call 73;refine cw.mono ?_;rintro e w2 ⟨rfl,d2⟩)
        go_roundw
        case rel=>exact ⟨i+1,by omega,by go_num,hoi2,below_trans hb (below_trans hbx d2)⟩
        case measure=>simp[intOf];omega
      ·have hf:=hid (hYes.out hok1.out (fun j hj=>hoi.out j (by omega) hj))
       clear hoi
       go_wp2_with fail
       go_ret
       exact ⟨ret_b hf.out.symm,hb⟩
set_option maxHeartbeats 1000000 in
set_option maxRecDepth 100000 in
theorem w_pcodes1 (x c:Int) (B:Nat) (W:World) (hs:W.cell? ⟨B,0,none⟩=some (.int .i64 c)):
  Calls Tryz.prog 75 #[.int .i64 x, .pointer (some ⟨B,0,none⟩)] W fun e w'=>e= .returned (.bool (!decide (-1≤x∧x < c)))∧w'=W:=by
 have cb:=fun W=>w_pnob x c W
 obtain ⟨D,hD⟩:∃D,decide (-1≤x∧x < c)=D:=⟨_,rfl⟩
 simp only[hD] at cb ⊢
 clear hD
 go_enter Tryz.func75,Tryz.ntmps75
 go_wp2_with (go_at_call 36;refine (cb _).mono ?_;rintro e w1 ⟨rfl,hw1⟩;obtain rfl:=hw1.symm)
 go_ret
 exact ⟨rfl,rfl⟩
set_option maxHeartbeats 2000000 in
set_option maxRecDepth 100000 in
theorem w_pindexJ (v:Value) (l:List Int) (c:Int) (B:Nat) (w:World) (h:Rd .i64 w v l) (hs:w.cell? ⟨B,0,none⟩=some (.int .i64 c)) (hm:(l.length:Int)≤2048):
  Calls Tryz.prog 99 #[v, .func (.func 75) #[] #[.pointer (some ⟨B,0,none⟩)]] w fun e w'=>e= .returned (.int .i64 (fdI (l.findIdx? (fun x=> !decide (-1≤x∧x < c)))))∧w'=w:=by
 have eg:∀args w,(callFunc 75 args).run Tryz.prog w= .ok (.enter 75 args) w:=enters_of Tryz.func75 (by kernel_rfl) rfl
 have hl:=rd_len h uJ (P:=Tryz.prog)
 obtain ⟨R,hR⟩:∃R,fdI (l.findIdx? (fun x=> !decide (-1≤x∧x < c)))=R:=⟨_,rfl⟩
 rw[hR]
 have HR:=hid hR
 clear hR
 go_enter Tryz.func99,Tryz.ntmps99
 go_wp2_with fail
 go_loopw [8] (fun I wx=>∃k:Nat,(k:Int)≤l.length∧I= .int .i64 k∧Hid ((l.take k).findIdx? (fun x=> !decide (-1≤x∧x < c))=none)∧wx=w) (fun I _=>(l.length - intOf I).toNat)
 case atStart=>exact ⟨0,by omega,rfl,hid rfl,rfl⟩
 case round=>
  obtain ⟨k,hk,rfl,ht,hw⟩:=hrel
  obtain rfl:=hw.symm
  by_cases hlt:(k:Int) < l.length
  ·have hkl:k < l.length:=by omega
   obtain ⟨ad,r1,f1⟩:=rd_idx h uJ zJ (k:Int) (by omega) hlt
   rw[Int.toNat_natCast,List.getD_eq_getElem?_getD,List.getElem?_eq_getElem hkl,Option.getD_some] at f1
   have hit:=fix_hit (fun x=> !decide (-1≤x∧x < c)) l k hkl ht.out
   have miss:=fix_take (fun x=> !decide (-1≤x∧x < c)) l k hkl ht.out
   obtain ⟨X,hX⟩:∃X,l[k]=X:=⟨_,rfl⟩
   rw[hX] at f1 hit miss
   have hc:=fun W (g:W=w)=>w_pcodes1 X c B W (by rw[g];exact hs)
   cases hx:(!decide (-1≤X∧X < c))
   ·simp only[hx] at hc
    have ht2:=hid (miss hx)
    clear hx hit miss hX ht HR
    go_wp2_with (go_at_fn 75;refine (hc _ rfl).mono ?_;rintro e w1 ⟨rfl,hw1⟩;obtain rfl:=hw1.symm)
    go_roundw
    case rel=>exact ⟨k+1,by omega,by go_num,ht2,trivial⟩
    case measure=>simp[intOf];omega
   ·simp only[hx] at hc
    have hRk:Hid (R=(k:Int)):=by show _=_;rw[←HR.out,hit hx];rfl
    clear hx hit miss hX ht HR
    go_wp2_with (go_at_fn 75;refine (hc _ rfl).mono ?_;rintro e w1 ⟨rfl,hw1⟩;obtain rfl:=hw1.symm)
    go_ret
    rw[hRk.out]
    exact ⟨rfl,rfl⟩
  ·have hRn:Hid (R= -1):=by
    show _=_
    have:=ht.out
    rw[List.take_of_length_le (by omega)] at this
    rw[←HR.out,this]
    rfl
   clear ht HR
   go_wp2_with fail
   go_ret
   rw[hRn.out]
   exact ⟨rfl,rfl⟩
theorem fdI_all {l:List Int} {p:Int→Bool}:(!decide ((0:Int)≤fdI (l.findIdx? (fun x=> !p x))))=l.all p:=by
 cases h:l.findIdx? (fun x=> !p x) with
 |none=>
  rw[List.findIdx?_eq_none_iff] at h
  have:l.all p=true:=List.all_eq_true.2 fun x hx=>by have:=h x hx;simpa using this
  rw[this]
  rfl
 |some k=>
  obtain ⟨hk,h1,_⟩:=List.findIdx?_eq_some_iff_getElem.1 h
  have:l.all p=false:=List.all_eq_false.2 ⟨_,List.getElem_mem hk,by simpa using h1⟩
  rw[this,decide_eq_true (show (0:Int)≤fdI (some k) from Int.natCast_nonneg k)]
  rfl
set_option maxHeartbeats 1000000 in
set_option maxRecDepth 100000 in
theorem w_pcontJ (v:Value) (l:List Int) (c:Int) (B:Nat) (w:World) (h:Rd .i64 w v l) (hs:w.cell? ⟨B,0,none⟩=some (.int .i64 c)) (hm:(l.length:Int)≤2048):
  Calls Tryz.prog 74 #[v, .func (.func 75) #[] #[.pointer (some ⟨B,0,none⟩)]] w fun e w'=>e= .returned (.bool (decide ((0:Int)≤fdI (l.findIdx? (fun x=> !decide (-1≤x∧x < c))))))∧w'=w:=by
 have hc:=w_pindexJ v l c B w h hs hm
 obtain ⟨F,hF⟩:∃F,fdI (l.findIdx? (fun x=> !decide (-1≤x∧x < c)))=F:=⟨_,rfl⟩
 rw[hF] at hc ⊢
 clear hF
 go_enter Tryz.func74,Tryz.ntmps74
 go_wp2_with (go_at_call 99;refine hc.mono ?_;rintro e w1 ⟨rfl,hw1⟩;obtain rfl:=hw1.symm)
 go_ret
 exact ⟨rfl,rfl⟩
set_option maxHeartbeats 1000000 in
set_option maxRecDepth 100000 in
theorem w_pcodes (v:Value) (l:List Int) (n:Nat) (w:World) (h:Rd .i64 w v l):
  Calls Tryz.prog 38 #[v, .int .i64 n] w fun e w'=>e= .returned (.bool (cdsF l n))∧Below w.heap.size w w':=by
 have hmf:∀(fn:Fn) (first cap:Array Value) (w:World),(Instr.makeFunc fn first cap).run Tryz.prog w= .ok (.func fn first cap) w:=fun _ _ _ _=>rfl
 have hl:=rd_len h uJ (P:=Tryz.prog)
 have bw:=box_below w (.cells #[.int .i64 n] 3)
 have z0:=(stands_new w #[.int .i64 n] 3).cell 0 _ rfl
 by_cases h1:(2048:Int) < l.length
 ·have hf:Hid (cdsF l n=false):=by show _=_;unfold cdsF;rw[decide_eq_false (by omega),Bool.false_and]
  go_enter Tryz.func38,Tryz.ntmps38
  go_wp2_with fail
  go_ret
  exact ⟨ret_b hf.out.symm,bw⟩
 ·have hf:Hid (cdsF l n= !decide ((0:Int)≤fdI (l.findIdx? (fun x=> !decide (-1≤x∧x < (n:Int)))))):=by
   show _=_
   unfold cdsF
   rw[decide_eq_true (by omega),Bool.true_and,fdI_all]
  have hc:=w_pcontJ v l n w.heap.size _ (h.below bw) z0 (by omega)
  obtain ⟨F,hF⟩:∃F,decide ((0:Int)≤fdI (l.findIdx? (fun x=> !decide (-1≤x∧x < (n:Int)))))=F:=⟨_,rfl⟩
  rw[hF] at hf hc
  clear hF
  go_enter Tryz.func38,Tryz.ntmps38
  go_wp2_with (go_at_call 74;refine hc.mono ?_;rintro e w1 ⟨rfl,hw1⟩;obtain rfl:=hw1.symm)
  go_ret
  exact ⟨ret_b hf.out.symm,bw⟩
def parF9 (l:List Iz) (a:Int):Int:=(l.getD a.toNat (-1, -1,[],[])).2.1
def noaF (l:List Iz) (p:Int):Bool:=decide (-1≤p∧p < l.length)&&(decide (p= -1)||decide (¬(l.getD p.toNat (-1, -1,[],[])).1= -1))
def grF (l:List Iz):Nat→Int→Bool
 |0,a=>false
 |f+1,a=>noaF l (parF9 l a)&&(decide (parF9 l a= -1)||grF l f (parF9 l a))
def frI (x:Iz):Bool:=decide (x=(-1, -1,[],[]))
def alI (t:List Nd) (x:Iz):Bool:=decide (0≤x.1∧x.1 < t.length)&&(decide (x.2.2.2.length=(t.getD x.1.toNat ([],[],0,[],[])).2.2.2.2.length)&&(decide (x.2.2.1.length≤256)&&decide (¬(47:Int)∈x.2.2.1)))
def okZ9 (t:List Nd) (x:Iz):Bool:=frI x||alI t x
def paK (l:List Iz) (p:Int):Bool:=decide (p= -1)||alvF l p
theorem okI_parts (l:List Iz) (t:List Nd) (x:Iz):okI l t x=(okZ9 t x&&paK l x.2.1):=by
 unfold okI okZ9 paK frI alI
 by_cases h:x.1= -1
 ·rw[if_pos h]
  by_cases h2:x=(-1, -1,[],[])
  ·subst h2
   simp
  ·have:¬(0≤x.1∧x.1 < t.length):=by omega
   simp[h2,this]
 ·rw[if_neg h]
  have:¬x=(-1, -1,[],[]):=fun e=>h (by rw[e])
  simp[this,Bool.and_assoc]
theorem okZ9_node {t:List Nd} {x:Iz} (h:okZ9 t x=true):x.1= -1∧x.2.1= -1∨0≤x.1:=by
 unfold okZ9 frI alI at h
 simp only[Bool.or_eq_true,decide_eq_true_eq,Bool.and_eq_true] at h
 rcases h with h|h
 ·left
  rw[h]
  exact ⟨rfl,rfl⟩
 ·right
  exact h.1.1
theorem noa_paK {l:List Iz} {t:List Nd} (h:l.all (okZ9 t)=true) (p:Int):noaF l p=paK l p:=by
 unfold noaF paK alvF
 by_cases h1:p= -1
 ·subst h1
  simp
  omega
 ·by_cases h2:0≤p∧p < l.length
  ·have hl:p.toNat < l.length:=by omega
   have hk:=okZ9_node (List.all_eq_true.1 h _ (List.getElem_mem hl))
   rw[List.getD_eq_getElem?_getD,List.getElem?_eq_getElem hl]
   simp only[Option.getD_some]
   have e1:decide (-1≤p∧p < l.length)=true:=by simp;omega
   have e2:decide (0≤p∧p < (l.length:Int))=true:=by simp;omega
   rw[e1,e2]
   simp only[Bool.true_and]
   congr 1
   rw[decide_eq_decide]
   omega
  ·have e1:decide (-1≤p∧p < l.length)=false:=by simp;omega
   have e2:decide (0≤p∧p < (l.length:Int))=false:=by simp;omega
   rw[e1,e2]
   simp[h1]
theorem chn_neg (l:List Iz) (k:Nat) (a:Int) (h:a < 0):chnF l k a=true:=by
 cases k <;> simp[chnF,h]
theorem chn_more (l:List Iz):∀(k:Nat) (a:Int),chnF l k a=true→chnF l (k+1) a=true
 |0,a,h=>by
  have:a < 0:=by simpa [chnF] using h
  exact chn_neg l 1 a this
 |k+1,a,h=>by
  rw[chnF,Bool.or_eq_true] at h ⊢
  rcases h with h|h
  ·exact Or.inl h
  ·exact Or.inr (chn_more l k _ h)
theorem chn_le (l:List Iz) (k m:Nat) (a:Int) (hkm:k≤m) (h:chnF l k a=true):chnF l m a=true:=by
 obtain ⟨d,rfl⟩:=Nat.exists_eq_add_of_le hkm
 induction d with
 |zero=>exact h
 |succ d ih=>exact chn_more l (k+d) a (ih (by omega))
theorem gr_chn (l:List Iz):∀(f:Nat) (a:Int),grF l (f+1) a=true→chnF l f (parF9 l a)=true
 |0,a,h=>by
  simp only[grF,Bool.and_eq_true,Bool.or_eq_true,decide_eq_true_eq] at h
  rcases h.2 with h|h
  ·rw[h]
   rfl
  ·cases h
 |f+1,a,h=>by
  rw[grF,Bool.and_eq_true,Bool.or_eq_true,decide_eq_true_eq] at h
  rcases h.2 with h|h
  ·rw[h]
   exact chn_neg _ _ _ (by omega)
  ·rw[chnF,Bool.or_eq_true]
   exact Or.inr (gr_chn l f _ h)
theorem gr_noa {l:List Iz} {f:Nat} {a:Int} (h:grF l (f+1) a=true):noaF l (parF9 l a)=true:=by
 rw[grF,Bool.and_eq_true] at h
 exact h.1
theorem chn_gr {l:List Iz} (hp:∀a:Int,0≤a→a < l.length→noaF l (parF9 l a)=true):∀(f:Nat) (a:Int),0≤a→a < l.length→chnF l f (parF9 l a)=true→grF l (f+1) a=true
 |0,a,h0,h1,h=>by
  have hn:=hp a h0 h1
  have hn2:=hn
  simp only[noaF,Bool.and_eq_true,decide_eq_true_eq] at hn2
  have:parF9 l a < 0:=by simpa [chnF] using h
  rw[grF,hn,decide_eq_true (show parF9 l a= -1 by omega)]
  rfl
 |f+1,a,h0,h1,h=>by
  have hn:=hp a h0 h1
  have hn2:=hn
  simp only[noaF,Bool.and_eq_true,decide_eq_true_eq] at hn2
  rw[grF,hn,Bool.true_and,Bool.or_eq_true,decide_eq_true_eq]
  rw[chnF,Bool.or_eq_true,decide_eq_true_eq] at h
  by_cases hm:parF9 l a= -1
  ·exact Or.inl hm
  ·right
   rcases h with h|h
   ·omega
   ·exact chn_gr hp f _ (by omega) (by omega) h
theorem cnt_lt {α:Type} (p q:α→Bool):∀(l:List α),(∀x∈l,p x=true→q x=true)→(∃x∈l,q x=true∧p x=false)→l.countP p < l.countP q
 |[],_,h=>by
  obtain ⟨x,hx,_⟩:=h
  cases hx
 |y::l,hs,h=>by
  have hle:l.countP p≤l.countP q:=List.countP_mono_left (fun x hx hp=>hs x (by simp[hx]) hp)
  by_cases hy:q y=true∧p y=false
  ·rw[List.countP_cons,List.countP_cons,hy.1,hy.2]
   simp
   omega
  ·have hy2:=hs y (by simp)
   obtain ⟨x,hx,hx1,hx2⟩:=h
   rcases List.mem_cons.1 hx with rfl|hx
   ·exact absurd ⟨hx1,hx2⟩ hy
   ·have:=cnt_lt p q l (fun x hx hp=>hs x (by simp[hx]) hp) ⟨x,hx,hx1,hx2⟩
    rw[List.countP_cons,List.countP_cons]
    have he:p y=q y:=by
     cases h1:p y <;> cases h2:q y <;> simp_all
    rw[he]
    omega
theorem chn_stable {l:List Iz} (hp:∀a:Int,0≤a→a < l.length→ -1≤parF9 l a∧parF9 l a < l.length) (k:Nat) (hs:∀a:Int,0≤a→a < l.length→chnF l (k+1) a=chnF l k a):∀(d:Nat) (a:Int),0≤a→a < l.length→chnF l (k+d) a=chnF l k a
 |0,a,h0,h1=>rfl
 |d+1,a,h0,h1=>by
  rw[←hs a h0 h1,←Nat.add_assoc]
  rw[chnF,chnF]
  have hq:=hp a h0 h1
  congr 1
  show chnF l (k+d) (parF9 l a)=chnF l k (parF9 l a)
  by_cases hn:parF9 l a < 0
  ·rw[chn_neg _ _ _ hn,chn_neg _ _ _ hn]
  ·exact chn_stable hp k hs d _ (by omega) hq.2
theorem chn_count {l:List Iz} (hp:∀a:Int,0≤a→a < l.length→ -1≤parF9 l a∧parF9 l a < l.length):∀k:Nat,k≤(List.range l.length).countP (fun (j:Nat)=>chnF l k (j:Int))∨∀a:Int,0≤a→a < l.length→chnF l (k+1) a=chnF l k a
 |0=>Or.inl (Nat.zero_le _)
 |k+1=>by
  by_cases hs:∀a:Int,0≤a→a < l.length→chnF l (k+1) a=chnF l k a
  ·right
   intro a h0 h1
   have e1:=chn_stable hp k hs 2 a h0 h1
   have e2:=chn_stable hp k hs 1 a h0 h1
   rw[show k+1+1=k+2 by omega,e1,e2]
  ·rcases chn_count hp k with h|h
   ·left
    have hex:∃a:Int,(0≤a∧a < l.length)∧¬chnF l (k+1) a=chnF l k a:=by
     apply Classical.byContradiction
     intro hn
     apply hs
     intro a h0 h1
     apply Classical.byContradiction
     intro hne
     exact hn ⟨a,⟨h0,h1⟩,hne⟩
    obtain ⟨a,⟨h0,h1⟩,hne⟩:=hex
    have hf:chnF l k a=false:=by
     cases hc:chnF l k a
     ·rfl
     ·rw[hc,chn_more l k a hc] at hne
      exact absurd rfl hne
    have ht:chnF l (k+1) a=true:=by
     rw[hf] at hne
     simpa using hne
    have:=cnt_lt (fun (j:Nat)=>chnF l k (j:Int)) (fun (j:Nat)=>chnF l (k+1) (j:Int)) (List.range l.length) (fun x _ hx=>chn_more l k _ hx) ⟨a.toNat,by simp;omega,by
     have e:((a.toNat:Nat):Int)=a:=by omega
     simp only[e]
     exact ⟨ht,hf⟩⟩
    omega
   ·exact absurd h hs
theorem chn_enough {l:List Iz} (hp:∀a:Int,0≤a→a < l.length→ -1≤parF9 l a∧parF9 l a < l.length) (K:Nat) (a:Int) (h0:0≤a) (h1:a < l.length) (h:chnF l K a=true):chnF l l.length a=true:=by
 by_cases hK:K≤l.length
 ·exact chn_le l K l.length a hK h
 ·rcases chn_count hp l.length with hc|hs
  ·have hle:=List.countP_le_length (p:=fun (j:Nat)=>chnF l l.length (j:Int)) (l:=List.range l.length)
   rw[List.length_range] at hle
   have he:(List.range l.length).countP (fun (j:Nat)=>chnF l l.length (j:Int))=(List.range l.length).length:=by rw[List.length_range];omega
   have:=List.countP_eq_length.1 he a.toNat (by simp;omega)
   have e:((a.toNat:Nat):Int)=a:=by omega
   simpa only[e] using this
  ·obtain ⟨d,rfl⟩:=Nat.exists_eq_add_of_le (show l.length≤K by omega)
   rw[chn_stable hp l.length hs d a h0 h1] at h
   exact h
def inpF (l:List Iz) (t:List Nd):Bool:=decide (l.length≤16)&&(l.all (okZ9 t)&&(List.range l.length).all (fun (j:Nat)=>grF l l.length (j:Int)))
theorem insF_as (l:List Iz) (t:List Nd):insF l t=inpF l t:=by
 unfold insF inpF
 by_cases hl:l.length≤16
 ·rw[decide_eq_true hl,Bool.true_and,Bool.true_and]
  cases hA:l.all (okZ9 t)
  ·rw[Bool.false_and]
   rw[List.all_eq_false] at hA
   obtain ⟨x,hx,hx2⟩:=hA
   have:l.all (okI l t)=false:=by
    rw[List.all_eq_false]
    refine ⟨x,hx, ?_⟩
    rw[okI_parts]
    simp at hx2
    simp[hx2]
   rw[this,Bool.false_and]
  ·rw[Bool.true_and,Bool.eq_iff_iff]
   have par_at:∀(j:Nat) (hj:j < l.length),parF9 l (j:Int)=l[j].2.1:=by
    intro j hj
    unfold parF9
    rw[Int.toNat_natCast,List.getD_eq_getElem?_getD,List.getElem?_eq_getElem hj]
    rfl
   constructor
   ·intro h
    rw[Bool.and_eq_true,List.all_eq_true,List.all_eq_true] at h
    have hpn:∀a:Int,0≤a→a < l.length→noaF l (parF9 l a)=true:=by
     intro a h0 h1
     have hj:a.toNat < l.length:=by omega
     have e:a=((a.toNat:Nat):Int):=by omega
     rw[e,par_at _ hj,noa_paK hA]
     have:=h.1 _ (List.getElem_mem hj)
     rw[okI_parts,Bool.and_eq_true] at this
     exact this.2
    have hpr:∀a:Int,0≤a→a < l.length→ -1≤parF9 l a∧parF9 l a < l.length:=by
     intro a h0 h1
     have:=hpn a h0 h1
     simp only[noaF,Bool.and_eq_true,decide_eq_true_eq] at this
     exact this.1
    rw[List.all_eq_true]
    intro j hj
    rw[List.mem_range] at hj
    have hc:=h.2 _ (List.getElem_mem hj)
    rw[←par_at j hj] at hc
    have hc2:chnF l 18 (j:Int)=true:=by
     rw[chnF,Bool.or_eq_true]
     exact Or.inr hc
    have hc3:=chn_enough hpr 18 (j:Int) (by omega) (by omega) hc2
    obtain ⟨n,hn⟩:∃n,l.length=n+1:=⟨l.length - 1,by omega⟩
    have hg:=chn_gr hpn n (j:Int) (by omega) (by omega) (by
     rw[hn,chnF,Bool.or_eq_true,decide_eq_true_eq] at hc3
     rcases hc3 with hc3|hc3
     ·omega
     ·exact hc3)
    rw[hn]
    exact hg
   ·intro h
    rw[List.all_eq_true] at h
    rw[Bool.and_eq_true,List.all_eq_true,List.all_eq_true]
    constructor
    ·intro x hx
     obtain ⟨j,hj,rfl⟩:=List.getElem_of_mem hx
     have hg:=h j (List.mem_range.2 hj)
     obtain ⟨n,hn⟩:∃n,l.length=n+1:=⟨l.length - 1,by omega⟩
     rw[hn] at hg
     have:=gr_noa hg
     rw[par_at j hj,noa_paK hA] at this
     rw[okI_parts,this,List.all_eq_true.1 hA _ (List.getElem_mem hj)]
     rfl
    ·intro x hx
     obtain ⟨j,hj,rfl⟩:=List.getElem_of_mem hx
     have hg:=h j (List.mem_range.2 hj)
     obtain ⟨n,hn⟩:∃n,l.length=n+1:=⟨l.length - 1,by omega⟩
     rw[hn] at hg
     have:=gr_chn l n _ hg
     rw[par_at j hj] at this
     exact chn_le l n 17 _ (by omega) this
 ·rw[decide_eq_false hl,Bool.false_and,Bool.false_and]
end Go.Proofs.YtlokhciaaepenaaGreatDoor
