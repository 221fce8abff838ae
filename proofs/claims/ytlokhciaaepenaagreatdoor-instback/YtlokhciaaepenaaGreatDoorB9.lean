import Derived.Test.YtlokhciaaepenaaGreatDoorB8
set_option linter.unusedVariables false
set_option linter.unusedSimpArgs false
set_option maxRecDepth 100000
namespace Go.Proofs.YtlokhciaaepenaaGreatDoor
open Go.ChangeShapes Go.WideShapes Go.ChangeAt Go.RowKit
theorem spl_count (d:Int):∀(l cur:List Int),(spl d cur l).length≤l.length+1
 |[],cur=>by simp[spl]
 |a::l,cur=>by
  unfold spl
  split
  ·have:=spl_count d l []
   simp only[List.length_cons]
   omega
  ·have:=spl_count d l (cur++[a])
   simp only[List.length_cons]
   omega
theorem map_drop_L (ps:List ByteArray) (k:Nat) (h:k < ps.length):(ps.drop k).map L=L ps[k]::(ps.drop (k+1)).map L:=by
 rw[List.drop_eq_getElem_cons h]
 rfl
set_option maxHeartbeats 4000000 in
set_option maxRecDepth 100000 in
theorem w_ppath (s:ByteArray) (w:World) (hs:s.size≤maxLen) (hT:Tab w):
  Calls Tryz.prog 28 #[.string s] w fun e w'=>∃v,e= .returned (.tuple #[v, .int .i64 (parF (L s)).2])∧SlR 3 stpR w' v (parF (L s)).1∧Below w.heap.size w w':=by
 have hs2:=hs
 unfold maxLen at hs2
 by_cases hlong:(256:Int) < s.size
 ·have e:parF (L s)=([],3):=by unfold parF;rw[if_pos (by rw[L_len];omega)]
  rw[e]
  clear e
  go_enter Tryz.func28,Tryz.ntmps28
  go_wp2_with fail
  go_ret2
  exact ⟨_,rfl,SlR.nil,Below.refl _ _⟩
 ·have cp:=w_cp47 s w hs
  by_cases hd:(L s).head? =some 47
  ·rw[decide_eq_true hd] at cp
   obtain ⟨r,hr⟩:∃r,L s=47::r:=by
    cases h:L s with
    |nil=>rw[h] at hd;simp at hd
    |cons a r=>rw[h] at hd;simp at hd;exact ⟨r,by rw[hd]⟩
   have hrl:r.length+1=s.size:=by rw[←L_len s,hr];simp
   have hpar:parF (L s)=if r=[] then (([]:List Sp),(0:Int)) else match stepL (spl 47 [] r) with|some x=>(x,0)|none=>([],15):=by
    unfold parF
    rw[if_neg (by rw[L_len];omega),hr]
    by_cases h:r=[]
    ·rw[if_pos (by rw[h]),if_pos h]
    ·rw[if_neg (fun e=>h (List.cons.inj e).2),if_neg h]
     rfl
   obtain ⟨A,E,hAE⟩:∃A E,parF (L s)=(A,E):=⟨_,_,rfl⟩
   have Hp:=hid (hAE.symm.trans hpar)
   rw[hAE]
   show Calls _ _ _ _ fun e w'=>∃v,e= .returned (.tuple #[v, .int .i64 E])∧SlR 3 stpR w' v A∧_
   have hrd:(L s).drop 1=r:=by rw[hr];rfl
   rw[hrd] at cp
   have Hd:=hid hd
   clear hAE hpar hr hrd hd
   go_enter Tryz.func28,Tryz.ntmps28
   go_wp2_with (go_at_call 52;refine cp.mono ?_;rintro e w1 ⟨C,rfl,hC,b1⟩;refine Hid.out ?_)
   have hC:=hC Hd.out
   have hCs:C.size≤256:=by rw[←L_len,hC];omega
   by_cases hemp:C.size=0
   ·have hs:C=⟨#[]⟩:=by
     apply ByteArray.ext
     exact Array.eq_empty_of_size_eq_zero hemp
    subst hs
    have hre:r=[]:=by rw[←hC];rfl
    have e:Hid ((A,E)=([],0)):=by show _=_;rw[Hp.out,if_pos hre]
    clear hC hre Hp cp
    refine hid ?_
    go_wp2_with fail
    go_ret2
    obtain ⟨rfl,rfl⟩:=Prod.mk.inj e.out
    exact ⟨_,rfl,SlR.nil,b1⟩
   ·have hemp2:C.toList.isEmpty=false:=by
     rw[←decide_eq_emptyBytes]
     exact decide_eq_false (fun h=>hemp (by rw[h];rfl))
    have hre:¬r=[]:=fun h=>hemp (by rw[←L_len,hC,h];rfl)
    have Hp2:Hid ((A,E)=match stepL (spl 47 [] r) with|some x=>(x,0)|none=>([],15)):=by show _=_;rw[Hp.out,if_neg hre]
    obtain ⟨i0,hi0,hz0,hz1,hz2⟩:=info_parts infoStep
    have csp:=w_split C w1 hCs
    rw[hC] at csp
    clear hre hC Hp cp hemp
    refine hid ?_
    go_wp2_with (go_at_call 53;refine csp.mono ?_;rintro e W ⟨V,ps,rfl,hV,hps,hpz,bW⟩;have hlen:=slr_len hV uS7 (P:=Tryz.prog);have hbW:=below_trans b1 bW;have HPS:=hid hps;have HPZ:=hid hpz;clear hps hpz)
    have hpm:=slr_max hV
    unfold maxLen at hpm
    have hpl:(ps.length:Int)≤256:=by
     have e1:ps.length=(spl 47 [] r).length:=by rw[←HPS.out];simp
     have e2:=spl_count 47 r []
     omega
    go_loopw [6,26] (fun U I wx=>∃(k:Nat) (xs:List Sp),(k:Int)≤ps.length∧I= .int .i64 k∧Hid (stepL (ps.map L)=(stepL ((ps.drop k).map L)).map (xs++·))∧(xs.length:Int)≤k∧OwnP W.heap.size wx U xs∧Below W.heap.size W wx) (fun _ I _=>(ps.length - intOf I).toNat)
    case atStart=>exact ⟨0,[],by omega,rfl,hid (by rw[List.drop_zero];cases stepL (ps.map L) <;> rfl),by simp,ownP_nil _ _,Below.refl _ _⟩
    case round=>
     obtain ⟨k,xs,hk,rfl,hin,hxl,ho,hb⟩:=hrel
     by_cases hlt:(k:Int) < ps.length
     ·obtain ⟨ad,c,r1,c1,hc,hcs⟩:=slr_idx (hV.below hb strR_below) uS7 zS7 k (by omega) (by omega)
      have hc:=(List.cons.inj hc).1
      subst hc
      simp only[Int.toNat_natCast] at c1 hcs
      have hms:=map_drop_L ps k (by omega)
      have hpk:=HPZ.out ps[k] (List.getElem_mem _)
      obtain ⟨P,hP⟩:∃P,ps[k]=P:=⟨_,rfl⟩
      rw[hP] at c1 hms hpk
      have cs:=w_pstep P wr (hT.below (below_trans hbW hb)) hpk
      cases hst:stepF (L P) with
      |none=>
       rw[hst] at cs
       have e:Hid ((A,E)=([],15)):=by
        show _=_
        rw[Hp2.out,←HPS.out,hin.out,hms,stepL_cons_none _ _ hst]
        rfl
       clear hst hms hP hcs
       go_wp2_with (go_at_call 54;refine cs.mono ?_;rintro e w2 ⟨⟨nm,ao,n,cap,ar,rfl⟩,b2⟩)
       go_ret2
       obtain ⟨rfl,rfl⟩:=Prod.mk.inj e.out
       exact ⟨_,rfl,SlR.nil,below_trans hbW (below_trans hb (below_trans b2 (box_below _ _)))⟩
      |some x=>
       rw[hst] at cs
       have hin2:Hid (stepL (ps.map L)=(stepL ((ps.drop (k+1)).map L)).map ((xs++[x])++·)):=by
        show _=_
        rw[hin.out,hms,stepL_cons_some _ _ _ hst]
        cases stepL ((ps.drop (k+1)).map L) <;> simp
       clear hst hms hP hcs
       go_wp2_with (go_at_call 54;refine cs.mono ?_;rintro e w2 ⟨⟨v,nm,ar,rfl,e1,e2,ov⟩,b2⟩;refine Hid.out ?_)
       obtain ⟨ao,cap,rfl⟩:=own_form ov
       have hnm:strOfNums x.1=nm:=by rw[←e1];exact nums_LB nm
       have har:strOfNums x.2.2=ar:=by rw[←e2];exact nums_LB ar
       have hb2:=below_trans hb b2
       have ov2:OwnU W.heap.size w2 _ _:=own_le hb.size ov
       obtain ⟨rows,h1,h2,h3,h4⟩:=ownP_below ho b2
       have bx:=below_trans (box_below w2 (.cells #[.string nm, .slice ao x.2.1.length cap, .string ar] 47)) (box_below _ (.cells #[.string nm, .slice ao x.2.1.length cap, .string ar] 47))
       have h3':=World.ownsRow.alloc (World.ownsRow.alloc h3 (.cells #[.string nm, .slice ao x.2.1.length cap, .string ar] 47)) (.cells #[.string nm, .slice ao x.2.1.length cap, .string ar] 47)
       have hx:stpO W.heap.size ((w2.alloc (.cells #[.string nm, .slice ao x.2.1.length cap, .string ar] 47)).alloc (.cells #[.string nm, .slice ao x.2.1.length cap, .string ar] 47)) [.string nm, .slice ao x.2.1.length cap, .string ar] x:=⟨_,by rw[hnm,har],own_below ov2 bx⟩
       have h4':=fun i h=>stpO_below bx (h4 i h)
       have hb3:=below_trans hb2 bx
       have hone:∀u∈[Value.string nm, .slice ao x.2.1.length cap, .string ar],u.oneCell'=true:=by
        intro u hu
        simp at hu
        rcases hu with rfl|rfl|rfl <;> rfl
       have hcl:∀j u,[Value.string nm, .slice ao x.2.1.length cap, .string ar][j]? =some u→((w2.alloc (.cells #[.string nm, .slice ao x.2.1.length cap, .string ar] 47)).alloc (.cells #[.string nm, .slice ao x.2.1.length cap, .string ar] 47)).cell? ⟨w2.heap.size+1,j,none⟩=some u:=by
        intro j u hj
        have:=alloc_row (w2.alloc (.cells #[.string nm, .slice ao x.2.1.length cap, .string ar] 47)) [Value.string nm, .slice ao x.2.1.length cap, .string ar] 47 j u hj
        rwa [size_al] at this
       refine hid ?_
       go_wp2_with (at_builtin;refine wpList_append_row rfl _ _ 38 rfl W.heap.size 47 i0 _ 3 56 Tryz.underlying38 hi0 hz0 hz1 hz2 rfl (by decide) _ xs.length _ rfl h3' _ [.string nm, .slice ao x.2.1.length cap, .string ar] rfl rfl hcl hone (by unfold maxLen;omega) (by omega) hb3.size ?_;intro v4 w4 ho4 hg4)
       have hb4:=below_grown hb3 hg4 (fun k hk=>(h3'.lt k hk).1)
       go_roundw
       case rel=>exact ⟨k+1,xs++[x],by omega,by go_num,hin2,by simp;omega,ownP_snoc h1 h2 h3' h4' rfl hx ho4 hg4,hb4⟩
       case measure=>simp[intOf];omega
     ·have e:Hid ((A,E)=(xs,0)):=by
       show _=_
       rw[Hp2.out,←HPS.out,hin.out,List.drop_of_length_le (by omega)]
       simp[stepL]
      go_wp2_with fail
      go_ret2
      obtain ⟨rfl,rfl⟩:=Prod.mk.inj e.out
      exact ⟨_,rfl,ownP_read ho,below_trans hbW hb⟩
  ·rw[decide_eq_false hd] at cp
   have e:parF (L s)=([],15):=by
    unfold parF
    rw[if_neg (by rw[L_len];omega),if_neg (fun h=>hd (by rw[h];rfl))]
    split
    ·rename_i r' he
     rw[he] at hd
     simp at hd
    ·rfl
   rw[e]
   clear e hd
   go_enter Tryz.func28,Tryz.ntmps28
   go_wp2_with (go_at_call 52;refine cp.mono ?_;rintro e w1 ⟨C,rfl, -,b1⟩)
   go_ret2
   exact ⟨_,rfl,SlR.nil,b1⟩
set_option maxHeartbeats 1000000 in
set_option maxRecDepth 100000 in
theorem w_rnamedQ (s:ByteArray) (w:World) (hs:s.size≤maxLen):
  Calls Tryz.prog 34 #[.string s] w fun e w'=>e= .returned (.bool (nmF (L s)))∧Dr w w':=by
 have hs2:=hs
 unfold maxLen at hs2
 have z0:=run_bad 0 (by omega)
 have z1:=run_bad 1 (by omega)
 have z2:=run_bad 2 (by omega)
 have z3:=run_bad 3 (by omega)
 have z4:=run_bad 4 (by omega)
 have z5:=run_bad 5 (by omega)
 simp only[List.getD_eq_getElem?_getD,List.getElem?_cons_zero,List.getElem?_cons_succ,Option.getD_some,Int.cast_ofNat_Int] at z0 z1 z2 z3 z4 z5
 by_cases h1:1≤s.size∧s.size≤31
 ·obtain ⟨h1,h31⟩:=h1
  go_enter Tryz.func34,Tryz.ntmps34
  go_wp2_with fail
  go_loopw [3] (fun I wx=>∃(k:Nat),(k:Int)≤s.size∧I= .int .i64 k∧Hid (((L s).take k).all nmC=true)∧Dr w wx) (fun I _=>(s.size - intOf I).toNat)
  case atStart=>exact ⟨0,by omega,rfl,hid rfl,dr_refl _⟩
  case round=>
   obtain ⟨k,hk,rfl,ha,hb⟩:=hrel
   by_cases hlt:(k:Int) < s.size
   ·have hkk:k < s.size:=by omega
    obtain ⟨c,hc⟩:∃c,(s[k].toNat:Int)=c:=⟨_,rfl⟩
    have hcb:=L_bd s k hkk
    rw[hc] at hcb
    obtain ⟨c0,c1⟩:=hcb
    have hLd:Hid (L s=(L s).take k++c::(L s).drop (k+1)):=by
     show _=_
     rw[←hc,←L_drop s k hkk,List.take_append_drop]
    have hLt:Hid ((L s).take (k+1)=(L s).take k++[c]):=by show _=_;rw[←hc];exact L_take s k hkk
    cases hcc:nmC c
    ·have hf:Hid (nmF (L s)=false):=by show _=_;rw[hLd.out];exact nm_mid _ _ _ hcc
     have hcs:c < 33∨126 < c∨(65≤c∧c≤90)∨c=47∨c=92∨c=58∨c=91∨c=93∨c=64:=by simp[nmC] at hcc;omega
     have hrun:=run_at (w:=wr) s k hkk hs
     rw[hc] at hrun
     clear hcc hLd hLt hc
     rcases hcs with h|h|h|h|h|h|h|h|h
     ·go_wp2_with fail
      go_ret
      exact ⟨ret_b hf.out.symm,hb⟩
     ·go_wp2_with fail
      go_ret
      exact ⟨ret_b hf.out.symm,hb⟩
     ·obtain ⟨h,h'⟩:=h
      go_wp2_with fail
      go_ret
      exact ⟨ret_b hf.out.symm,hb⟩
     all_goals subst h
     all_goals go_wp2_with fail
     all_goals go_rounds 7
     all_goals go_ret
     all_goals exact ⟨ret_b hf.out.symm,hb⟩
    ·have ha2:Hid (((L s).take (k+1)).all nmC=true):=by
      show _=_
      rw[hLt.out,List.all_append,ha.out]
      simp[hcc]
     simp[nmC] at hcc
     have hrun:=run_at (w:=wr) s k hkk hs
     rw[hc] at hrun
     obtain ⟨q1,q2,q3,n1,n2,n3,n4,n5,n6⟩:=hcc
     clear hLd hLt hc
     rcases q3 with hq|hq
     all_goals go_wp2_with fail
     all_goals go_rounds 7
     all_goals go_roundw
     case rel=>exact ⟨k+1,by omega,by go_num,ha2,hb⟩
     case measure=>simp[intOf];omega
     case rel=>exact ⟨k+1,by omega,by go_num,ha2,hb⟩
     case measure=>simp[intOf];omega
   ·have hf:Hid (nmF (L s)=true):=by
     show _=_
     have:=ha.out
     rw[List.take_of_length_le (by rw[L_len];omega)] at this
     unfold nmF
     rw[this,L_len]
     simp
     omega
    go_wp2_with fail
    go_ret
    exact ⟨ret_b hf.out.symm,hb⟩
 ·have hf:Hid (nmF (L s)=false):=by
   show _=_
   unfold nmF
   rw[L_len]
   simp
   omega
  by_cases h0:s.size < 1
  ·go_enter Tryz.func34,Tryz.ntmps34
   go_wp2_with fail
   go_ret
   exact ⟨ret_b hf.out.symm,dr_refl _⟩
  ·have h32:(31:Int) < s.size:=by omega
   go_enter Tryz.func34,Tryz.ntmps34
   go_wp2_with fail
   go_ret
   exact ⟨ret_b hf.out.symm,dr_refl _⟩
theorem slr_head {α:Type} {P:Program} {R:World→List Value→α→Prop} {w:World} {v:Value} {xs:List α} {sz:Nat} (h:SlR sz R w v xs) {t:TypeId} (ht:P.underlying t=some (.slice (P.elem t))) (hs:∀w,(sizeOf (P.elem t)).run P w= .ok sz w) (n:Nat) (hn:n≤xs.length):
  ∃v',(∀w',(Instr.slice t v none (some (.int .i64 (n:Int))) none).run P w'= .ok v' w')∧SlR sz R w v' (xs.take n):=by
 obtain ⟨rows,h1,h2,h3⟩:=h
 obtain ⟨ao,cap,rfl,hc,hno,hx⟩:=h1.form
 refine ⟨sliced ao 0 n cap sz,fun w'=> ?_,rows.take n, ?_,by simp[h2],fun i hi=> ?_⟩
 ·rw[run_slice_h w' t ao rows.length cap ht .i64 (n:Int) (by omega) (by omega),hs]
  simp[Result.andThen]
 ·rcases Nat.eq_zero_or_pos n with h0|h0
  ·subst h0
   refine Or.inl ⟨if cap=0 then ao else ao.map (·.add (0*sz)),cap,by simp[sliced], ?_,by simp⟩
   intro he
   by_cases hc0:cap=0
   ·exact hc0
   ·rw[if_neg hc0] at he
    cases ao with
    |none=>exact hno rfl
    |some a=>cases he
  ·obtain ⟨hm,b,off,rfl,hcell⟩:=hx (by omega)
   have hl:(rows.take n).length=n:=by simp;omega
   refine Or.inr ⟨b,off,cap, ?_,by omega,by omega,hm,fun i hi=> ?_⟩
   ·rw[sliced,hl,if_neg (by omega)]
    simp[Addr.add]
   ·rw[hl] at hi
    have e:(rows.take n).getD i []=rows.getD i []:=by
     rw[List.getD_eq_getElem?_getD,List.getD_eq_getElem?_getD,List.getElem?_take,if_pos hi]
    rw[e]
    exact hcell i (by omega)
 ·have hi2:i < n:=by simp at hi;omega
  have e:(rows.take n).getD i []=rows.getD i []:=by
   rw[List.getD_eq_getElem?_getD,List.getD_eq_getElem?_getD,List.getElem?_take,if_pos hi2]
  rw[e,List.getElem_take]
  exact h3 i (by simp at hi;omega)
theorem frm_bad {t:List Nd} (i:Nat) (h:i < t.length) (hb:okN t i t[i]=false):frmT t=false:=by
 rw[Bool.eq_false_iff]
 intro hf
 obtain ⟨_,_,_,g⟩:=(frm_iff t).1 hf
 have:=g i h
 rw[hb] at this
 cases this
theorem frm_len {t:List Nd} (h:t.length=0∨32 < t.length):frmT t=false:=by
 rw[Bool.eq_false_iff]
 intro hf
 obtain ⟨g0,g1,_⟩:=(frm_iff t).1 hf
 omega
theorem frm_root {t:List Nd} (h:0 < t.length) (hb:rootF t[0]=false):frmT t=false:=by
 rw[Bool.eq_false_iff]
 intro hf
 obtain ⟨_,_,g,_⟩:=(frm_iff t).1 hf
 rw[hb] at g
 cases g
theorem okN_A {t:List Nd} {i:Nat} {x:Nd} (h0:¬i=0) (h:okA t i x=false):okN t i x=false:=by
 unfold okN
 rw[h,decide_eq_false h0]
 rfl
theorem okN_16 {t:List Nd} {i:Nat} {x:Nd} (h:16 < x.2.2.2.1.length∨16 < x.2.2.2.2.length):okN t i x=false:=by
 rw[Bool.eq_false_iff]
 intro g
 unfold okN at g
 simp only[Bool.and_eq_true,decide_eq_true_eq] at g
 omega
theorem okN_R {t:List Nd} {i:Nat} {x:Nd} (h:okR x.2.2.2.1=false):okN t i x=false:=by
 unfold okN
 rw[h]
 simp
theorem okR_bad {l:List Pp} (k:Nat) (h:k < l.length) (hb:okP l k l[k]=false):okR l=false:=by
 rw[Bool.eq_false_iff]
 intro g
 unfold okR at g
 rw[decide_eq_true_eq] at g
 have:=g k h
 rw[hb] at this
 cases this
theorem okA_bad {t:List Nd} {i:Nat} {x:Nd} (h:nmF x.1=false∨4 < x.2.1.length∨x.2.2.1 < 0∨(i:Int)≤x.2.2.1∨twF (t.take i) x.2.2.1 x.1 x.2.1=true):okA t i x=false:=by
 rw[Bool.eq_false_iff]
 intro g
 unfold okA at g
 simp only[Bool.and_eq_true,decide_eq_true_eq,Bool.not_eq_true'] at g
 obtain ⟨g1,g2,g3,g4,g5⟩:=g
 rcases h with h|h|h|h|h
 ·rw[g1] at h;cases h
 ·omega
 ·omega
 ·omega
 ·rw[g5] at h;cases h
theorem okP_bad {l:List Pp} {k:Nat} {x:Pp} (h:nmF x.1=false∨256 < x.2.length∨(0:Int)≤fdI (pfF (l.take k) x.1)):okP l k x=false:=by
 rw[Bool.eq_false_iff]
 intro g
 unfold okP at g
 simp only[Bool.and_eq_true,decide_eq_true_eq,Option.isNone_iff_eq_none] at g
 obtain ⟨g1,g2,g3⟩:=g
 rcases h with h|h|h
 ·rw[g1] at h;cases h
 ·omega
 ·rw[g3] at h
  unfold fdI at h
  simp at h
theorem okP_good {l:List Pp} {k:Nat} {x:Pp} (h1:nmF x.1=true) (h2:¬256 < x.2.length) (h3:¬(0:Int)≤fdI (pfF (l.take k) x.1)):okP l k x=true:=by
 unfold okP
 simp only[Bool.and_eq_true,decide_eq_true_eq,Option.isNone_iff_eq_none]
 refine ⟨h1,by omega, ?_⟩
 cases hp:pfF (l.take k) x.1 with
 |none=>rfl
 |some j=>
  rw[hp] at h3
  unfold fdI at h3
  simp at h3
set_option maxHeartbeats 8000000 in
set_option maxRecDepth 100000 in
theorem w_r8formed (v:Value) (t:List Nd) (w:World) (h:RdT w v t) (bt:∀x∈t,bytN x) (ls:∀x∈t,x.1.length≤maxLen∧∀p∈x.2.2.2.1,p.1.length≤maxLen):
  Calls Tryz.prog 23 #[v] w fun e w'=>e= .returned (.bool (frmT t))∧Below w.heap.size w w':=by
 have hla:=slr_len h uN (P:=Tryz.prog)
 have hm:=slr_max h
 unfold maxLen at hm
 by_cases h0:t.length=0
 ·have hf:=hid (frm_len (Or.inl h0))
  have hl1:(t.length:Int) < 1:=by omega
  clear h0
  go_enter Tryz.func23,Tryz.ntmps23
  go_wp2_with fail
  go_ret
  exact ⟨ret_b hf.out.symm,Below.refl _ _⟩
 ·by_cases h32:32 < t.length
  ·have hf:=hid (frm_len (Or.inr h32))
   have hl1:¬(t.length:Int) < 1:=by omega
   have hl2:(32:Int) < t.length:=by omega
   clear h0 h32
   go_enter Tryz.func23,Tryz.ntmps23
   go_wp2_with fail
   go_ret
   exact ⟨ret_b hf.out.symm,Below.refl _ _⟩
  ·have hl1:¬(t.length:Int) < 1:=by omega
   have hl2:¬(32:Int) < t.length:=by omega
   have ht0:0 < t.length:=by omega
   obtain ⟨b0,o0,N0,u0,p0,k0,r0,z0,z1,z2,z3,z4,e0,hu0,hp0,hc0⟩:=nod_at h 0 ht0
   have r0':∀w',(Instr.indexAt 27 v (.int .i64 0)).run Tryz.prog w'= .ok (.pointer (some ⟨b0,o0,none⟩)) w':=r0
   obtain ⟨ua0,uq0,rfl⟩:=rd_slice hu0
   have hN0:L N0=t[0].1:=by rw[←e0];exact LB_nums _ (bt _ (List.getElem_mem ht0)).1
   have hNe:(N0.toList==[])=decide (t[0].1=[]):=by
    rw[←hN0,Bool.eq_iff_iff,beq_iff_eq,decide_eq_true_eq]
    unfold L
    rw[ByteArray.toList_eq]
    simp
   obtain ⟨P0,hP0⟩:∃X,t[0].2.2.1=X:=⟨_,rfl⟩
   rw[hP0] at z2
   obtain ⟨n0,hn0⟩:∃n,t[0].2.1.length=n:=⟨_,rfl⟩
   rw[hn0] at z1
   by_cases g1:t[0].1=[]
   ·rw[decide_eq_true g1] at hNe
    have hNn:(N0.toList !=[])=false:=by simp[bne,hNe]
    have hNi:N0.toList.isEmpty=true:=by rw[←hNe];cases N0.toList <;> rfl
    by_cases g2:t[0].2.1=[]
    ·have hU0:¬(0:Int) < n0:=by rw[←hn0,g2];simp
     by_cases g3:t[0].2.2.1= -1
     ·have hP1:(P0 != -1)=false:=by rw[←hP0,g3];decide
      have hroot:Hid (rootF t[0]=true):=by show _=_;unfold rootF;simp[g1,g2,g3]
      have hlen32:Hid (t.length≤32∧1≤t.length):=⟨by omega,by omega⟩
      clear g1 g2 g3 hP0 hNe hN0 e0 r0 h0 h32 hn0 hu0
      go_enter Tryz.func23,Tryz.ntmps23
      go_wp2_with fail
      go_loopw [3] (fun I wx=>∃i:Nat,(i:Int)≤t.length∧I= .int .i64 i∧Hid (∀j (g:j < i) (hj:j < t.length),okN t j t[j]=true)∧Below w.heap.size w wx) (fun I _=>(t.length - intOf I).toNat)
      case atStart=>exact ⟨0,by omega,rfl,hid (fun j g=>by omega),Below.refl _ _⟩
      case round=>
       obtain ⟨i,hi,rfl,hok,hb⟩:=hrel
       by_cases hlt:(i:Int) < t.length
       ·have hil:i < t.length:=by omega
        obtain ⟨b1,o1,nm,u1,p1,c1,r1,f0,f1,f2,f3,f4,e1,hu1,hp1,hc1⟩:=nod_at h i hil
        obtain ⟨ua,uq,rfl⟩:=rd_slice hu1
        obtain ⟨pa,pq,rfl⟩:=slr_slice hp1
        obtain ⟨ca,cq,rfl⟩:=rd_slice hc1
        obtain ⟨P,hP⟩:∃X,t[i].2.2.1=X:=⟨_,rfl⟩
        rw[hP] at f2
        have l0:=below_cell hb f0
        have l1:=below_cell hb f1
        have l2:=below_cell hb f2
        have l3:=below_cell hb f3
        have l4:=below_cell hb f4
        clear f0 f1 f2 f3 f4
        have hNL:L nm=t[i].1:=by rw[←e1];exact LB_nums _ (bt _ (List.getElem_mem hil)).1
        have cn:=fun w=>w_rnamedQ nm w (by rw[←L_len,hNL];exact (ls _ (List.getElem_mem hil)).1)
        have ct:=fun W (g:Below w.heap.size w W)=>w_r8twin v t i P nm _ t[i].2.1 W (h.below g) (hu1.below g) bt (by omega)
        simp only[hNL] at cn ct
        have st0:=stands_new wr #[.string nm, .slice ua t[i].2.1.length uq, .int .i64 P, .slice pa t[i].2.2.2.1.length pq, .slice ca t[i].2.2.2.2.length cq] 51
        have hbx:=box_below wr (.cells #[.string nm, .slice ua t[i].2.1.length uq, .int .i64 P, .slice pa t[i].2.2.2.1.length pq, .slice ca t[i].2.2.2.2.length cq] 51)
        have hb0:=below_trans hb hbx
        have bad:=fun (h0:¬i=0) g=>hid (frm_bad i hil (okN_A h0 (okA_bad g)))
        by_cases hz:i=0
        ·have hi0:¬(0:Int) < i:=by omega
         have hA:Hid ((decide (i=0)||okA t i t[i])=true):=by show _=_;rw[decide_eq_true hz];rfl
         clear bad cn ct hNL e1 hP hz
         go_upto_region 9 with (fail)
         obtain ⟨W0,hW0⟩:∃W0,wr.alloc (.cells #[.string nm, .slice ua t[i].2.1.length uq, .int .i64 P, .slice pa t[i].2.2.2.1.length pq, .slice ca t[i].2.2.2.2.length cq] 51)=W0:=⟨_,rfl⟩
         rw[hW0] at st0 hb0 ⊢
         clear hW0 hbx l0 l1 l2 l3 l4
         have m3:=st0.cell 3 _ rfl
         have m4:=st0.cell 4 _ rfl
         by_cases hp16:16 < t[i].2.2.2.1.length
         ·have hf:=hid (frm_bad i hil (okN_16 (Or.inl hp16)))
          have y1:(16:Int) < t[i].2.2.2.1.length:=by omega
          go_wp2_with fail
          go_ret
          exact ⟨ret_b hf.out.symm,hb0⟩
         ·have y1:¬(16:Int) < t[i].2.2.2.1.length:=by omega
          by_cases hc16:16 < t[i].2.2.2.2.length
          ·have hf:=hid (frm_bad i hil (okN_16 (Or.inr hc16)))
           have y2:(16:Int) < t[i].2.2.2.2.length:=by omega
           go_wp2_with fail
           go_ret
           exact ⟨ret_b hf.out.symm,hb0⟩
          ·have y2:¬(16:Int) < t[i].2.2.2.2.length:=by omega
           have h16:Hid (t[i].2.2.2.1.length≤16∧t[i].2.2.2.2.length≤16):=⟨by omega,by omega⟩
           go_wp2_with fail
           go_loopw [5] (fun K wx=>∃k:Nat,(k:Int)≤t[i].2.2.2.1.length∧K= .int .i64 k∧Hid (∀m (g:m < k) (hm:m < t[i].2.2.2.1.length),okP t[i].2.2.2.1 m t[i].2.2.2.1[m]=true)∧Below W0.heap.size W0 wx) (fun K _=>(t[i].2.2.2.1.length - intOf K).toNat)
           case atStart=>exact ⟨0,by omega,rfl,hid (fun m g=>by omega),Below.refl _ _⟩
           case round=>
            obtain ⟨k,hk,rfl,hkp,hgk⟩:=hrel
            have bk:=below_trans hb0 hgk
            have sk:=st0.below hgk
            have j3:=sk.cell 3 _ rfl
            by_cases hkt:(k:Int) < t[i].2.2.2.1.length
            ·have hkl:k < t[i].2.2.2.1.length:=by omega
             have hpk:=hp1.below bk (propR_below bk)
             obtain ⟨bp,op,pn,vd,rp,s0,s1,en,hd⟩:=prp_at8 hpk k hkl
             obtain ⟨da,dq,rfl⟩:=rd_slice hd
             obtain ⟨vt,it,rt⟩:=slr_head hpk uR zR k (by omega)
             have hpL:L pn=t[i].2.2.2.1[k].1:=by rw[←en];exact LB_nums _ (((bt _ (List.getElem_mem hil)).2 _ (List.getElem_mem hkl)).1)
             have cn9:=fun w=>w_rnamedQ pn w (by rw[←L_len,hpL];exact (ls _ (List.getElem_mem hil)).2 _ (List.getElem_mem hkl))
             have cf9:=fun W (g:Below wr.heap.size wr W)=>w_r8find vt _ pn W (rt.below g (propR_below g)) (fun x hx=>((bt _ (List.getElem_mem hil)).2 x (List.mem_of_mem_take hx)).1)
             simp only[hpL] at cn9 cf9
             have bad:okP t[i].2.2.2.1 k t[i].2.2.2.1[k]=false→Hid (frmT t=false):=fun g=>frm_bad i hil (okN_R (okR_bad k hkl g))
             cases hnm:nmF t[i].2.2.2.1[k].1
             ·have hf:=bad (okP_bad (Or.inl hnm))
              rw[hnm] at cn9
              clear hnm bad cf9 en hpL
              go_wp2_with fail
              go_quiet (first|(go_at_call 34;exact Calls.quiet_of (cn9 _)))
              go_wp2_with fail
              go_ret
              exact ⟨ret_b hf.out.symm,below_drewN bk _⟩
             ·rw[hnm] at cn9
              by_cases hd256:256 < t[i].2.2.2.1[k].2.length
              ·have hf:=bad (okP_bad (Or.inr (Or.inl hd256)))
               have y5:(256:Int) < t[i].2.2.2.1[k].2.length:=by omega
               clear hnm bad cf9 en hpL hd256
               go_wp2_with fail
               go_quiet (first|(go_at_call 34;exact Calls.quiet_of (cn9 _)))
               go_wp2_with fail
               go_ret
               exact ⟨ret_b hf.out.symm,below_drewN bk _⟩
              ·have y5:¬(256:Int) < t[i].2.2.2.1[k].2.length:=by omega
               have good:¬(0:Int)≤fdI (pfF (t[i].2.2.2.1.take k) t[i].2.2.2.1[k].1)→okP t[i].2.2.2.1 k t[i].2.2.2.1[k]=true:=okP_good hnm hd256
               have bad2:=fun g=>bad (okP_bad (Or.inr (Or.inr g)))
               obtain ⟨F,hF⟩:∃F,fdI (pfF (t[i].2.2.2.1.take k) t[i].2.2.2.1[k].1)=F:=⟨_,rfl⟩
               rw[hF] at good bad2
               simp only[hF] at cf9
               by_cases hF0:0≤F
               ·have hf:=bad2 hF0
                clear hnm bad bad2 good en hpL hd256 hF
                go_wp2_with fail
                go_quiet (first|(go_at_call 34;exact Calls.quiet_of (cn9 _))|(go_at_call 42;exact Calls.quiet_of_same (cf9 _ (below_drewN (Below.refl _ _) _))))
                go_wp2_with fail
                go_ret
                exact ⟨ret_b hf.out.symm,below_drewN bk _⟩
               ·have hkp2:Hid (∀m (g:m < k+1) (hm:m < t[i].2.2.2.1.length),okP t[i].2.2.2.1 m t[i].2.2.2.1[m]=true):=by
                 show ∀m _ _,_
                 intro m g hm
                 by_cases hmk:m < k
                 ·exact hkp.out m hmk hm
                 ·have:m=k:=by omega
                  subst this
                  exact good hF0
                clear hnm bad bad2 good en hpL hd256 hF
                go_wp2_with fail
                go_quiet (first|(go_at_call 34;exact Calls.quiet_of (cn9 _))|(go_at_call 42;exact Calls.quiet_of_same (cf9 _ (below_drewN (Below.refl _ _) _))))
                go_wp2_with fail
                go_roundw
                case rel=>exact ⟨k+1,by omega,by go_num,hkp2,below_drewN hgk _⟩
                case measure=>simp[intOf];omega
            ·have hok2:Hid (∀j (g:j < i+1) (hj:j < t.length),okN t j t[j]=true):=by
              show ∀j _ _,_
              intro j g hj
              by_cases hji:j < i
              ·exact hok.out j hji hj
              ·have:j=i:=by omega
               subst this
               have hR:okR t[j].2.2.2.1=true:=by unfold okR;rw[decide_eq_true_eq];exact fun m hm=>hkp.out m (by omega) hm
               unfold okN
               rw[hR,decide_eq_true h16.out.1,decide_eq_true h16.out.2]
               have:=hA.out
               simpa using this
             go_wp2_with fail
             go_roundw
             case rel=>exact ⟨i+1,by omega,by go_num,hok2,bk⟩
             case measure=>simp[intOf];omega
        ·have hi0:(0:Int) < i:=by omega
         have a3:=st0.cell 0 _ rfl
         cases hnm:nmF t[i].1
         ·have hf:=bad hz (Or.inl hnm)
          rw[hnm] at cn
          clear bad ct hNL e1 hP hz hnm
          go_wp2_with (go_at_call 34;refine (cn _).mono ?_;rintro e q1 ⟨rfl,d1⟩;have st1:=st0.below (dr_below d1);have a1:=st1.cell 1 _ rfl;have a2:=st1.cell 2 _ rfl;have a0:=st1.cell 0 _ rfl;have bb1:=below_trans hb0 (dr_below d1))
          go_ret
          exact ⟨ret_b hf.out.symm,bb1⟩
         ·rw[hnm] at cn
          by_cases hu4:4 < t[i].2.1.length
          ·have hf:=bad hz (Or.inr (Or.inl hu4))
           have y0:(4:Int) < t[i].2.1.length:=by omega
           clear bad ct hNL e1 hP hz hnm hu4
           go_wp2_with (go_at_call 34;refine (cn _).mono ?_;rintro e q1 ⟨rfl,d1⟩;have st1:=st0.below (dr_below d1);have a1:=st1.cell 1 _ rfl;have a2:=st1.cell 2 _ rfl;have a0:=st1.cell 0 _ rfl;have bb1:=below_trans hb0 (dr_below d1))
           go_ret
           exact ⟨ret_b hf.out.symm,bb1⟩
          ·have y0:¬(4:Int) < t[i].2.1.length:=by omega
           by_cases hp0:P < 0
           ·have hf:=bad hz (Or.inr (Or.inr (Or.inl (by rw[hP];exact hp0))))
            clear bad ct hNL e1 hP hz hnm hu4
            go_wp2_with (go_at_call 34;refine (cn _).mono ?_;rintro e q1 ⟨rfl,d1⟩;have st1:=st0.below (dr_below d1);have a1:=st1.cell 1 _ rfl;have a2:=st1.cell 2 _ rfl;have a0:=st1.cell 0 _ rfl;have bb1:=below_trans hb0 (dr_below d1))
            go_ret
            exact ⟨ret_b hf.out.symm,bb1⟩
           ·by_cases hpi:(i:Int)≤P
            ·have hf:=bad hz (Or.inr (Or.inr (Or.inr (Or.inl (by rw[hP];exact hpi)))))
             clear bad ct hNL e1 hP hz hnm hu4
             go_wp2_with (go_at_call 34;refine (cn _).mono ?_;rintro e q1 ⟨rfl,d1⟩;have st1:=st0.below (dr_below d1);have a1:=st1.cell 1 _ rfl;have a2:=st1.cell 2 _ rfl;have a0:=st1.cell 0 _ rfl;have bb1:=below_trans hb0 (dr_below d1))
             go_ret
             exact ⟨ret_b hf.out.symm,bb1⟩
            ·cases htw:twF (t.take i) P t[i].1 t[i].2.1
             ·simp only[htw] at ct
              have hA:Hid ((decide (i=0)||okA t i t[i])=true):=by
               show _=_
               unfold okA
               rw[hnm,hP,htw]
               simp
               omega
              clear bad hNL e1 hP hz hnm hu4 htw
              go_upto_region 9 with (first|(go_at_call 34;refine (cn _).mono ?_;rintro e q1 ⟨rfl,d1⟩;have st1:=st0.below (dr_below d1);have a1:=st1.cell 1 _ rfl;have a2:=st1.cell 2 _ rfl;have a0:=st1.cell 0 _ rfl;have bb1:=below_trans hb0 (dr_below d1))|(go_at_call 41;refine (ct _ bb1).mono ?_;rintro e q2 ⟨rfl,d2⟩;have bb2:=below_trans bb1 (dr_below d2);have st2:=st1.below (dr_below d2)))
              clear hbx l0 l1 l2 l3 l4
              have m3:=st2.cell 3 _ rfl
              have m4:=st2.cell 4 _ rfl
              by_cases hp16:16 < t[i].2.2.2.1.length
              ·have hf:=hid (frm_bad i hil (okN_16 (Or.inl hp16)))
               have y1:(16:Int) < t[i].2.2.2.1.length:=by omega
               go_wp2_with fail
               go_ret
               exact ⟨ret_b hf.out.symm,bb2⟩
              ·have y1:¬(16:Int) < t[i].2.2.2.1.length:=by omega
               by_cases hc16:16 < t[i].2.2.2.2.length
               ·have hf:=hid (frm_bad i hil (okN_16 (Or.inr hc16)))
                have y2:(16:Int) < t[i].2.2.2.2.length:=by omega
                go_wp2_with fail
                go_ret
                exact ⟨ret_b hf.out.symm,bb2⟩
               ·have y2:¬(16:Int) < t[i].2.2.2.2.length:=by omega
                have h16:Hid (t[i].2.2.2.1.length≤16∧t[i].2.2.2.2.length≤16):=⟨by omega,by omega⟩
                go_wp2_with fail
                go_loopw [5] (fun K wx=>∃k:Nat,(k:Int)≤t[i].2.2.2.1.length∧K= .int .i64 k∧Hid (∀m (g:m < k) (hm:m < t[i].2.2.2.1.length),okP t[i].2.2.2.1 m t[i].2.2.2.1[m]=true)∧Below q2.heap.size q2 wx) (fun K _=>(t[i].2.2.2.1.length - intOf K).toNat)
                case atStart=>exact ⟨0,by omega,rfl,hid (fun m g=>by omega),Below.refl _ _⟩
                case round=>
                 obtain ⟨k,hk,rfl,hkp,hgk⟩:=hrel
                 have bk:=below_trans bb2 hgk
                 have sk:=st2.below hgk
                 have j3:=sk.cell 3 _ rfl
                 by_cases hkt:(k:Int) < t[i].2.2.2.1.length
                 ·have hkl:k < t[i].2.2.2.1.length:=by omega
                  have hpk:=hp1.below bk (propR_below bk)
                  obtain ⟨bp,op,pn,vd,rp,s0,s1,en,hd⟩:=prp_at8 hpk k hkl
                  obtain ⟨da,dq,rfl⟩:=rd_slice hd
                  obtain ⟨vt,it,rt⟩:=slr_head hpk uR zR k (by omega)
                  have hpL:L pn=t[i].2.2.2.1[k].1:=by rw[←en];exact LB_nums _ (((bt _ (List.getElem_mem hil)).2 _ (List.getElem_mem hkl)).1)
                  have cn9:=fun w=>w_rnamedQ pn w (by rw[←L_len,hpL];exact (ls _ (List.getElem_mem hil)).2 _ (List.getElem_mem hkl))
                  have cf9:=fun W (g:Below wr.heap.size wr W)=>w_r8find vt _ pn W (rt.below g (propR_below g)) (fun x hx=>((bt _ (List.getElem_mem hil)).2 x (List.mem_of_mem_take hx)).1)
                  simp only[hpL] at cn9 cf9
                  have bad:okP t[i].2.2.2.1 k t[i].2.2.2.1[k]=false→Hid (frmT t=false):=fun g=>frm_bad i hil (okN_R (okR_bad k hkl g))
                  cases hnm:nmF t[i].2.2.2.1[k].1
                  ·have hf:=bad (okP_bad (Or.inl hnm))
                   rw[hnm] at cn9
                   clear hnm bad cf9 en hpL
                   go_wp2_with fail
                   go_quiet (first|(go_at_call 34;exact Calls.quiet_of (cn9 _)))
                   go_wp2_with fail
                   go_ret
                   exact ⟨ret_b hf.out.symm,below_drewN bk _⟩
                  ·rw[hnm] at cn9
                   by_cases hd256:256 < t[i].2.2.2.1[k].2.length
                   ·have hf:=bad (okP_bad (Or.inr (Or.inl hd256)))
                    have y5:(256:Int) < t[i].2.2.2.1[k].2.length:=by omega
                    clear hnm bad cf9 en hpL hd256
                    go_wp2_with fail
                    go_quiet (first|(go_at_call 34;exact Calls.quiet_of (cn9 _)))
                    go_wp2_with fail
                    go_ret
                    exact ⟨ret_b hf.out.symm,below_drewN bk _⟩
                   ·have y5:¬(256:Int) < t[i].2.2.2.1[k].2.length:=by omega
                    have good:¬(0:Int)≤fdI (pfF (t[i].2.2.2.1.take k) t[i].2.2.2.1[k].1)→okP t[i].2.2.2.1 k t[i].2.2.2.1[k]=true:=okP_good hnm hd256
                    have bad2:=fun g=>bad (okP_bad (Or.inr (Or.inr g)))
                    obtain ⟨F,hF⟩:∃F,fdI (pfF (t[i].2.2.2.1.take k) t[i].2.2.2.1[k].1)=F:=⟨_,rfl⟩
                    rw[hF] at good bad2
                    simp only[hF] at cf9
                    by_cases hF0:0≤F
                    ·have hf:=bad2 hF0
                     clear hnm bad bad2 good en hpL hd256 hF
                     go_wp2_with fail
                     go_quiet (first|(go_at_call 34;exact Calls.quiet_of (cn9 _))|(go_at_call 42;exact Calls.quiet_of_same (cf9 _ (below_drewN (Below.refl _ _) _))))
                     go_wp2_with fail
                     go_ret
                     exact ⟨ret_b hf.out.symm,below_drewN bk _⟩
                    ·have hkp2:Hid (∀m (g:m < k+1) (hm:m < t[i].2.2.2.1.length),okP t[i].2.2.2.1 m t[i].2.2.2.1[m]=true):=by
                      show ∀m _ _,_
                      intro m g hm
                      by_cases hmk:m < k
                      ·exact hkp.out m hmk hm
                      ·have:m=k:=by omega
                       subst this
                       exact good hF0
                     clear hnm bad bad2 good en hpL hd256 hF
                     go_wp2_with fail
                     go_quiet (first|(go_at_call 34;exact Calls.quiet_of (cn9 _))|(go_at_call 42;exact Calls.quiet_of_same (cf9 _ (below_drewN (Below.refl _ _) _))))
                     go_wp2_with fail
                     go_roundw
                     case rel=>exact ⟨k+1,by omega,by go_num,hkp2,below_drewN hgk _⟩
                     case measure=>simp[intOf];omega
                 ·have hok2:Hid (∀j (g:j < i+1) (hj:j < t.length),okN t j t[j]=true):=by
                   show ∀j _ _,_
                   intro j g hj
                   by_cases hji:j < i
                   ·exact hok.out j hji hj
                   ·have:j=i:=by omega
                    subst this
                    have hR:okR t[j].2.2.2.1=true:=by unfold okR;rw[decide_eq_true_eq];exact fun m hm=>hkp.out m (by omega) hm
                    unfold okN
                    rw[hR,decide_eq_true h16.out.1,decide_eq_true h16.out.2]
                    have:=hA.out
                    simpa using this
                  go_wp2_with fail
                  go_roundw
                  case rel=>exact ⟨i+1,by omega,by go_num,hok2,bk⟩
                  case measure=>simp[intOf];omega
             ·have hf:=bad hz (Or.inr (Or.inr (Or.inr (Or.inr (by rw[hP];exact htw)))))
              simp only[htw] at ct
              clear bad hNL e1 hP hz hnm hu4 htw
              go_wp2_with (first|(go_at_call 34;refine (cn _).mono ?_;rintro e q1 ⟨rfl,d1⟩;have st1:=st0.below (dr_below d1);have a1:=st1.cell 1 _ rfl;have a2:=st1.cell 2 _ rfl;have a0:=st1.cell 0 _ rfl;have bb1:=below_trans hb0 (dr_below d1))|(go_at_call 41;refine (ct _ bb1).mono ?_;rintro e q2 ⟨rfl,d2⟩;have bb2:=below_trans bb1 (dr_below d2);have st2:=st1.below (dr_below d2)))
              go_ret
              exact ⟨ret_b hf.out.symm,bb2⟩
       ·have hf:Hid (frmT t=true):=by
         show _=_
         rw[frm_iff]
         exact ⟨hlen32.out.2,hlen32.out.1,hroot.out,fun j hj=>hok.out j (by omega) hj⟩
        go_wp2_with fail
        go_ret
        exact ⟨ret_b hf.out.symm,hb⟩
     ·have hP1:(P0 != -1)=true:=by rw[←hP0];simpa using g3
      have hf:=hid (frm_root ht0 (show rootF t[0]=false by unfold rootF;simp[g3]))
      clear g1 g2 g3 hP0 hNe hN0 e0 r0 h0 h32 hn0 hu0
      go_enter Tryz.func23,Tryz.ntmps23
      go_wp2_with fail
      go_ret
      exact ⟨ret_b hf.out.symm,Below.refl _ _⟩
    ·have hU0:(0:Int) < n0:=by have:=List.length_pos_iff.2 g2;omega
     have hf:=hid (frm_root ht0 (show rootF t[0]=false by unfold rootF;simp[g2]))
     clear g1 g2 hP0 hNe hN0 e0 r0 h0 h32 hn0 hu0
     go_enter Tryz.func23,Tryz.ntmps23
     go_wp2_with fail
     go_ret
     exact ⟨ret_b hf.out.symm,Below.refl _ _⟩
   ·rw[decide_eq_false g1] at hNe
    have hNn:(N0.toList !=[])=true:=by simp[bne,hNe]
    have hNi:N0.toList.isEmpty=false:=by rw[←hNe];cases N0.toList <;> rfl
    have hf:=hid (frm_root ht0 (show rootF t[0]=false by unfold rootF;simp[g1]))
    clear g1 hP0 hNe hN0 e0 r0 h0 h32 hn0 hu0
    go_enter Tryz.func23,Tryz.ntmps23
    go_wp2_with fail
    go_ret
    exact ⟨ret_b hf.out.symm,Below.refl _ _⟩
end Go.Proofs.YtlokhciaaepenaaGreatDoor
