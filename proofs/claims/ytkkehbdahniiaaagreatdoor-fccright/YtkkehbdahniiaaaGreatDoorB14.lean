import Derived.Lib.BytesEntry
import Derived.Test.YtkkehbdahniiaaaGreatDoorB13
set_option linter.unusedVariables false
set_option linter.unusedSimpArgs false
set_option maxRecDepth 100000
namespace Go.Proofs.YtkkehbdahniiaaaGreatDoor
open Go.ChangeShapes Go.WideShapes Go.ChangeAt Go.RowKit
set_option maxHeartbeats 4000000 in
set_option maxRecDepth 100000 in
theorem w_unquoteD (s:ByteArray) (i:Nat) (w:World) (hs:s.size≤140737488355328) (hi:i≤s.size) (hT:Tab w):
  Calls Tryz.prog 83 #[.string s, .int .i64 i] w fun e w'=>∃(v:Value) (j:Nat) (E:Int),e= .returned (.tuple #[v, .int .i64 j, .int .i64 E])∧(E=15∧QE (L s) i 15∧(unqE (L s) ((L s).length+1) i []).2.2=15∨E=0∧∃ys,(QQ (L s) i j ys∧(unqE (L s) ((L s).length+1) i [])=(ys,j,0))∧bytesL ys∧Rd .u8 w' v ys)∧Below w.heap.size w w':=by
 have hm:s.size≤maxLen:=by unfold maxLen;omega
 obtain ⟨i0,hi0,hz0,hz1,hz2⟩:=info_parts infoU8
 obtain ⟨R,hR⟩:∃R,unqE (L s) ((L s).length+1) i []=R:=⟨_,rfl⟩
 have hR0:Hid (UnR (L s) i [] R):=⟨_,by omega,hR⟩
 rw[hR]
 clear hR
 go_enter Tryz.func83,Tryz.ntmps83
 go_wp2_with fail
 go_loopw [1,7] (fun I U wx=>∃(j:Nat) (ys:List Int),(j:Int)≤s.size∧I= .int .i64 j∧Hid (QS (L s) i j ys∧UnR (L s) j ys R)∧Hid (bytesL ys)∧(ys.length:Int)≤j∧Own8 w.heap.size wx U ys∧Below w.heap.size w wx) (fun I _ _=>(s.size+1 - intOf I).toNat)
 case atStart=>exact ⟨i,[],by omega,rfl,hid ⟨QS_start (L s) i (by rw[L_len];exact hi),hR0.out⟩,hid (fun x hx=>by simp at hx),by simp,World.ownsRow_nil _ _ _ _,Below.refl _ _⟩
 case round=>
  obtain ⟨j,ys,hj,rfl,hQ,hyb,hyl,ho,hb⟩:=hrel
  have hTb:=hT.below hb
  have hU:=hid hQ.out.2
  replace hQ:=hid hQ.out.1
  have hjl:j≤(L s).length:=by rw[L_len];omega
  have HJ:=hid hjl
  clear hjl
  obtain ⟨T0,hT0,hT0L,hT0s⟩:=str_tail s j (by omega)
  have ci:=fun w=>w_sib T0 34 w (by decide) (by decide)
  rw[hT0L] at ci
  clear hT0L
  go_wp2_with (go_at_call 81;refine (ci _).mono ?_;rintro e w1 ⟨n,rfl,hn,rfl⟩;refine Hid.out ?_)
  have hnx:=at_nx hn (by rw[L_len];omega)
  rw[L_len] at hnx
  clear hn ci
  rcases hnx with ⟨rfl,h2⟩|⟨k,rfl,h2,h3⟩
  ·have e:=hid (And.intro (QS_open hQ.out (by rw[h2,L_len])) (hU.out.open HJ.out (by rw[h2,L_len])))
   clear h2
   refine hid ?_
   go_wp2_with fail
   go_ret3
   exact ⟨_,0,15,rfl,Or.inl ⟨rfl,e.out⟩,hb⟩
  ·have HK:=hid h2
   clear h2
   obtain ⟨T,hT1,hTL,hTs⟩:=str_part s j (j+k) (by omega) (by omega)
   have hTr:∀w,(Instr.slice 9 (.string s) (some (.int .i64 (j:Int))) (some (.int .i64 ((j:Int)+k))) none).run Tryz.prog w= .ok (.string T) w:=hT1
   have hys2:Hid (ys++LB T=ys++cutL (L s) j (j+k)):=by show _=_;rw[←hTL];rfl
   clear hTL hT1
   obtain ⟨Y,hY⟩:∃Y,ys++LB T=Y:=⟨_,rfl⟩
   have hYl:(Y.length:Int)=ys.length+T.size:=by rw[←hY,List.length_append,LB_len];omega
   have hYb:Hid (bytesL Y):=by show bytesL Y;rw[←hY];exact bytes_join hyb.out (LB_bytes T)
   rw[hY] at hys2
   have HY:=hid hY
   clear hY
   have hkI:(j:Int)+k < s.size:=by omega
   by_cases hlast:(j:Int)+(k+1) < s.size
   ·obtain ⟨c,hr,c0,c1,hc,_⟩:=str_byte s (j+k+1) (by omega) hm
    have hr':∀w,(Instr.index 9 (.string s) (.int .i64 ((j:Int)+((k:Int)+1)))).run Tryz.prog w= .ok (.int .u8 c) w:=hr
    have hnx:j+k+1 < (L s).length:=by rw[L_len];omega
    have hne:((j:Int)+((k:Int)+1)==s.size)=false:=by simp;omega
    by_cases h40:c=40
    ·subst h40
     have cc:∀w,Calls Tryz.prog 57 #[.string s, .int .i64 ((j:Int)+((k:Int)+1)+1)] w _:=fun w=>w_closed s (j+k+2) w hm (by omega)
     have hhx:=nx_hex HK.out hnx hc
     refine hid ?_
     go_wp2_with (first
      |(at_builtin;refine wpList_append_rds rfl _ _ 29 9 rfl w.heap.size 5 i0 Tryz.underlying29 Tryz.underlying9 hi0 hz0 hz1 hz2 _ ys rfl ho T rfl (by unfold maxLen;omega) (by omega) hb.size ?_;intro v2 w2 ho2 hg2;have hb2:=below_grown hb hg2 (fun k hk=>(ho.lt k hk).1);rw[HY.out] at ho2)
      |(go_at_call 57;refine (cc _).mono ?_;rintro e w3 ⟨D,bb,E,rfl,hcl,rfl⟩;refine Hid.out ?_))
     rcases hcl with ⟨rfl,h1⟩|⟨rfl,m,rfl,h1,h2,hml,hDL,hDs⟩
     ·have e:=hid (And.intro (QK_hopen hQ.out HK.out hnx hc (by rw[hhx,h1,L_len])) (hU.out.hopen HJ.out HK.out hnx hc (by rw[h1,L_len])))
      refine hid ?_
      clear h1 hc hr hhx
      go_wp2_with fail
      go_ret3
      exact ⟨_,0,15,rfl,Or.inl ⟨rfl,e.out⟩,hb2⟩
     ·rw[h1] at hhx
      have cd:=fun w hT=>w_decode D w (by omega) hT
      rw[hDL] at cd
      have EB:=fun h3=>hid (And.intro (QK_hbad hQ.out HK.out hnx hc hhx (by rw[L_len];omega) h3) (hU.out.hbad HJ.out HK.out hnx hc h1 (by rw[L_len];omega) h3))
      have EC:=fun b h3=>hid (And.intro (QK_hon (b:=b) hQ.out HK.out hnx hc hhx (by rw[L_len];omega) h3) (hU.out.hon (b:=b) HJ.out (by omega) HK.out hnx hc h1 (by rw[L_len];omega) h3))
      have hTb2:=hT.below hb2
      have hDb:=LB_bytes D
      refine hid ?_
      clear h1 hc hr hhx
      have HDL:=hid hDL
      clear hDL
      go_wp2_with (go_at_call 99;refine (cd _ hTb2).mono ?_;rintro e w4 ⟨v4,E4,rfl,h4,b4⟩;refine Hid.out ?_)
      rcases h4 with ⟨rfl,h4⟩|⟨rfl,b,h4,r4,hbl⟩
      ·have e:=EB h4
       refine hid ?_
       clear EB EC h4 cd
       go_wp2_with fail
       go_ret3
       exact ⟨_,0,15,rfl,Or.inl ⟨rfl,e.out⟩,below_trans hb2 b4⟩
      ·have e:=EC b h4
       have hys3:Hid (QS (L s) i (m+1) (Y++b)∧UnR (L s) (m+1) (Y++b) R):=by show QS _ _ _ _∧_;rw[hys2.out];exact e.out
       have hb5:Hid (bytesL (Y++b)):=bytes_join hYb.out (hexG_bytes _ none b (by rw[←HDL.out];exact hDb) (fun n hn=>by cases hn) h4)
       have ho4:=own_below ho2 b4
       have hb4:=below_trans hb2 b4
       refine hid ?_
       clear EB EC h4 cd e
       go_wp2_with (at_builtin;refine wpList_append_rd (k:= .u8) rfl _ _ 29 rfl w.heap.size 5 i0 1 Tryz.underlying29 hi0 hz0 hz1 hz2 _ Y rfl ho4 _ b rfl r4 (by unfold maxLen;omega) (by omega) hb4.size ?_;intro v5 w5 ho5 hg5)
       go_roundw
       case rel=>exact ⟨m+1,Y++b,by omega,by go_num,hys3,hb5,by rw[List.length_append];omega,ho5,below_grown hb4 hg5 (fun k hk=>(ho4.lt k hk).1)⟩
       case measure=>simp[intOf];omega
    ·have hcb:(c !=40)=true:=by simp[h40]
     have e:=hid (And.intro (QQ_of hQ.out HK.out (by rw[L_len];omega) (fun g=>by rw[hc];exact h40)) (hU.out.done HJ.out HK.out (by rw[L_len];omega) (fun g=>by rw[hc];exact h40)))
     refine hid ?_
     clear hc hr
     go_wp2_with (at_builtin;refine wpList_append_rds rfl _ _ 29 9 rfl w.heap.size 5 i0 Tryz.underlying29 Tryz.underlying9 hi0 hz0 hz1 hz2 _ ys rfl ho T rfl (by unfold maxLen;omega) (by omega) hb.size ?_;intro v2 w2 ho2 hg2;have hb2:=below_grown hb hg2 (fun k hk=>(ho.lt k hk).1);rw[HY.out] at ho2)
     go_ret3
     refine ⟨_,j+k+1,0,rfl,Or.inr ⟨rfl,Y, ?_,hYb.out,(Rd_own ho2).1⟩,hb2⟩
     rw[hys2.out]
     exact e.out
   ·have hne:((j:Int)+((k:Int)+1)==s.size)=true:=by simp;omega
    have e:=hid (And.intro (QQ_of hQ.out HK.out (by rw[L_len];omega) (fun g=>absurd g (by rw[L_len];omega))) (hU.out.done HJ.out HK.out (by rw[L_len];omega) (fun g=>absurd g (by rw[L_len];omega))))
    refine hid ?_
    go_wp2_with (at_builtin;refine wpList_append_rds rfl _ _ 29 9 rfl w.heap.size 5 i0 Tryz.underlying29 Tryz.underlying9 hi0 hz0 hz1 hz2 _ ys rfl ho T rfl (by unfold maxLen;omega) (by omega) hb.size ?_;intro v2 w2 ho2 hg2;have hb2:=below_grown hb hg2 (fun k hk=>(ho.lt k hk).1);rw[HY.out] at ho2)
    go_ret3
    refine ⟨_,j+k+1,0,rfl,Or.inr ⟨rfl,Y, ?_,hYb.out,(Rd_own ho2).1⟩,hb2⟩
    rw[hys2.out]
    exact e.out
def QtP (s:ByteArray) (i:Nat) (w:World) (e:Ending) (w':World):Prop:=∃(T:ByteArray) (b:Nat) (E:Int),e= .returned (.tuple #[.string T, .int .i64 b, .int .i64 E])∧(E=15∧i=s.size∨i < s.size∧((E=3∨E=15)∧(∃F,(E=F∨E=3∧F=15)∧QE (L s) (i+1) F)∨E=0∧QO (L s) (i+1) b (L T)))∧EqE (qtE (L s) i) b E∧Below w.heap.size w w'
set_option maxHeartbeats 2000000 in
set_option maxRecDepth 100000 in
theorem w_quotedD (s:ByteArray) (i:Nat) (w:World) (hs:s.size≤140737488355328) (hi:i≤s.size) (hT:Tab w):
  Calls Tryz.prog 59 #[.string s, .int .i64 i] w (QtP s i w):=by
 have hm:s.size≤maxLen:=by unfold maxLen;omega
 by_cases he:i=s.size
 ·have heb:((i:Int)==s.size)=true:=by simp;omega
  have HE:=hid he
  clear he
  go_enter Tryz.func59,Tryz.ntmps59
  go_wp2_with fail
  go_ret3
  unfold QtP
  refine ⟨_,0,_,rfl,Or.inl ⟨rfl,HE.out⟩, ?_,Below.refl _ _⟩
  unfold qtE;rw[if_pos (by rw[L_len];exact HE.out)];exact ⟨rfl,fun h=>absurd h (by decide)⟩
 ·have hne:¬i=(L s).length:=by rw[L_len];exact he
  have HNE:=hid hne
  clear hne
  have heb:((i:Int)==s.size)=false:=by simp;omega
  have hil:i < s.size:=by omega
  have cc:∀w,Tab w→Calls Tryz.prog 83 #[.string s, .int .i64 ((i:Int)+1)] w _:=fun w hT=>w_unquoteD s (i+1) w hs (by omega) hT
  go_enter Tryz.func59,Tryz.ntmps59
  go_wp2_with (go_at_call 83;refine (cc _ hT).mono ?_;rintro e w1 ⟨v,j,E,rfl,hq,b1⟩;refine Hid.out ?_)
  rcases hq with ⟨rfl,h1,hu⟩|⟨rfl,ys,⟨h1,hu⟩,hyb,r1⟩
  ·refine hid ?_
   have H1:=hid h1
   have HU:=hid hu
   clear h1 hu
   go_wp2_with fail
   go_ret3
   unfold QtP
   refine ⟨_,0,_,rfl,Or.inr ⟨hil,Or.inl ⟨Or.inr rfl,15,Or.inl rfl,H1.out⟩⟩, ?_,b1⟩
   unfold qtE;rw[if_neg HNE.out,HU.out,if_pos (by decide)];exact ⟨rfl,fun h=>absurd h (by decide)⟩
  ·have hjl:j≤s.size:=by have:=h1.2.1;rw[L_len] at this;exact this
   have hlo:=rd_len r1 uB (P:=Tryz.prog)
   have cs:=rd_strT r1
   have hns:L (strOfNums ys)=ys:=LB_nums ys hyb
   obtain ⟨Y,hY⟩:∃Y,strOfNums ys=Y:=⟨_,rfl⟩
   rw[hY] at cs hns
   have H1:=hid h1
   have HN:=hid hns
   have HU:Hid (qtE (L s) i=if 255 < ys.length then (0,3) else if j < (L s).length∧¬(L s).getD j 0≤32 then (0,15) else (j,0)):=by
    show _=_
    unfold qtE;rw[if_neg HNE.out,hu,if_neg (fun h=>h rfl)]
   clear h1 hY hns hu
   refine hid ?_
   by_cases h255:(255:Int) < ys.length
   ·have e:=hid (QQ_err H1.out (by omega))
    go_wp2_with fail
    go_ret3
    unfold QtP
    obtain ⟨F,hF,hE⟩:=e.out
    refine ⟨_,0,_,rfl,Or.inr ⟨hil,Or.inl ⟨Or.inl rfl,F,by omega,hE⟩⟩, ?_,b1⟩
    rw[HU.out,if_pos (by omega)];exact ⟨rfl,fun h=>absurd h (by decide)⟩
   ·by_cases hjs:(j:Int) < s.size
    ·obtain ⟨c,hr,c0,c1,hc,_⟩:=str_byte s j (by omega) hm
     have cb:=fun w=>w_blank c w c0 c1
     have hg:j < (L s).length:=by rw[L_len];omega
     by_cases h32:c≤32
     ·have hbl:blC c=true:=by simp[blC,h32]
      rw[hbl] at cb
      have e:=hid (QQ_done H1.out (by omega) (fun g=>by rw[hc];exact h32))
      have e2:Hid (EqE (qtE (L s) i) j 0):=by
       show EqE _ _ _
       rw[HU.out,if_neg (by omega),if_neg (fun h=>h.2 (by rw[List.getD_eq_getElem?_getD,List.getElem?_eq_getElem hg,Option.getD_some,hc];exact h32))];exact ⟨rfl,fun _=>rfl⟩
      clear hc hbl
      go_wp2_with (go_at_call 55;refine (cb _).mono ?_;rintro e w2 ⟨rfl,rfl⟩)
      go_ret3
      unfold QtP
      exact ⟨Y,j,_,rfl,Or.inr ⟨hil,Or.inr ⟨rfl,by rw[HN.out];exact e.out⟩⟩,e2.out,b1⟩
     ·have hbl:blC c=false:=by simp[blC];omega
      rw[hbl] at cb
      have e:=hid (QQ_wrong H1.out hg (by rw[hc];exact h32))
      have e2:Hid (EqE (qtE (L s) i) 0 15):=by
       show EqE _ _ _
       rw[HU.out,if_neg (by omega),if_pos ⟨hg,by rw[List.getD_eq_getElem?_getD,List.getElem?_eq_getElem hg,Option.getD_some,hc];exact h32⟩];exact ⟨rfl,fun h=>absurd h (by decide)⟩
      clear hc hbl
      go_wp2_with (go_at_call 55;refine (cb _).mono ?_;rintro e w2 ⟨rfl,rfl⟩)
      go_ret3
      unfold QtP
      exact ⟨_,0,_,rfl,Or.inr ⟨hil,Or.inl ⟨Or.inr rfl,15,Or.inl rfl,e.out⟩⟩,e2.out,b1⟩
    ·have e:=hid (QQ_done H1.out (by omega) (fun g=>absurd g (by rw[L_len];omega)))
     go_wp2_with fail
     go_ret3
     unfold QtP
     have q:QO (L s) (i+1) j (L Y):=by rw[HN.out];exact e.out
     have e2:EqE (qtE (L s) i) j 0:=by
      rw[HU.out,if_neg (by omega),if_neg (fun h=>absurd h.1 (by rw[L_len];omega))];exact ⟨rfl,fun _=>rfl⟩
     exact ⟨Y,j,0,rfl,Or.inr ⟨hil,Or.inr ⟨rfl,q⟩⟩,e2,b1⟩
def NxQ (s:ByteArray) (i:Nat) (w:World) (e:Ending) (w':World):Prop:=∃(k:Int) (T:ByteArray) (p:Int) (b:Nat) (E:Int),e= .returned (.tuple #[.agg #[.int .i64 k, .string T, .int .i64 p], .int .i64 b, .int .i64 E])∧(E=0∧NxOk (L s) i k (L T) p b∨NxNo (L s) i E)∧EqE (nxE (L s) i) b E∧Below w.heap.size w w'
set_option maxHeartbeats 4000000 in
set_option maxRecDepth 100000 in
theorem w_nextD (s:ByteArray) (i:Nat) (w:World) (hs:s.size≤140737488355328) (hi:i < s.size) (hT:Tab w) (hbi:¬(L s)[i]'(by rw[L_len];exact hi)≤32):
  Calls Tryz.prog 33 #[.string s, .int .i64 i] w (NxQ s i w):=by
 have hm:s.size≤maxLen:=by unfold maxLen;omega
 have hCR:=fun ts=>CR_all (L s) ts i (by rw[L_len];exact hi) hbi
 have hle:=fd_le blC (L s) i (by rw[L_len];omega)
 rw[L_len] at hle
 have cf:=fun w=>w_find_blank s i w hm (by omega)
 obtain ⟨n,hn⟩:∃n,fdF blC (L s) i=n:=⟨_,rfl⟩
 simp only[hn] at hCR hle cf
 obtain ⟨hin,hWE, -⟩:=hCR []
 have hCW:=fun ts=>(hCR ts).2.2
 obtain ⟨T,hTr,hTL,hTs⟩:=str_part s i n (by omega) hle
 simp only[←hTL] at hCW
 have hNX:Hid (nxE (L s) i=nxW (L s) n (L T)):=by show _=_;unfold nxE;rw[hn,hTL]
 clear hn hCR hbi hTL
 have hTB:Tab (w.alloc (.cells #[.int .i64 0, .string ⟨#[]⟩, .int .i64 0] 77)):=hT.below (box_below w _)
 cases hsp:spec (L T)
 ·have hst:=spec_toList T
  rw[hsp] at hst
  simp only[Bool.false_eq,Bool.or_eq_false_iff] at hst
  obtain ⟨⟨⟨⟨n1,n2⟩,n3⟩,n4⟩,n5⟩:=hst
  have hR:Hid (NxOk (L s) i 1 ((L T).map sm) i n):=⟨hin,by rw[L_len];exact hle,fun ts=>by rw[hCW ts,CW_plain (L s) n (L T) i ts hWE hsp];rfl⟩
  have hD:Hid (EqE (nxE (L s) i) n 0):=by show EqE _ _ _;rw[hNX.out,nxW_plain _ _ _ hsp];exact ⟨rfl,fun _=>rfl⟩
  have csm:=fun w=>w_small T w (by omega)
  obtain ⟨M,hM⟩:∃M,strOfNums ((L T).map sm)=M:=⟨_,rfl⟩
  have hML:L M=(L T).map sm:=by
   rw[←hM]
   refine LB_nums _ fun x hx=> ?_
   simp only[List.mem_map] at hx
   obtain ⟨c,hc,rfl⟩:=hx
   have:=LB_bytes T c hc
   exact sm_bd c this.1 this.2
  simp only[hM] at csm
  rw[←hML] at hR
  clear hM hML hsp hCW
  go_enter Tryz.func33,Tryz.ntmps33
  go_wp2_with (first|(go_at_call 31;refine (cf _).mono ?_;rintro e q1 ⟨rfl,rfl⟩)|(go_at_call 60;refine (csm _).mono ?_;rintro e w1 ⟨rfl,b1⟩;refine Hid.out ?_))
  have t0:Stands w1 w.heap.size #[.int .i64 0, .string ⟨#[]⟩, .int .i64 0] 77:=(stands_new w _ _).below b1
  have m0:=t0.cell 0 _ rfl
  have m1:=t0.cell 1 _ rfl
  have m2:=t0.cell 2 _ rfl
  have f1:=t0.free
  have bw:=below_trans (box_below w (.cells #[.int .i64 0, .string ⟨#[]⟩, .int .i64 0] 77)) b1
  refine hid ?_
  go_wp2_with fail
  obtain ⟨W5,hW5,s5,b5⟩:∃W5,(((w1.setCell ⟨w.heap.size,0,none⟩ (.int .i64 1)).setCell ⟨w.heap.size,1,none⟩ (.string M)).setCell ⟨w.heap.size,2,none⟩ (.int .i64 (i:Int)))=W5∧Stands W5 w.heap.size #[.int .i64 1, .string M, .int .i64 (i:Int)] 77∧Below w.heap.size w W5:=
   ⟨_,rfl,((t0.set 0 _).set 1 _).set 2 _,below_set (below_set (below_set bw _ 0 _ (Nat.le_refl _)) _ 1 _ (Nat.le_refl _)) _ 2 _ (Nat.le_refl _)⟩
  rw[hW5]
  have x0:=s5.cell 0 _ rfl
  have x1:=s5.cell 1 _ rfl
  have x2:=s5.cell 2 _ rfl
  refine bodyPost_ret (v:= .tuple #[.agg #[.int .i64 1, .string M, .int .i64 (i:Int)], .int .i64 (n:Int), .int .i64 0]) (by simp[results,Tryz.results33,go_sem,x0,x1,x2]) rfl ?_
  unfold NxQ
  refine ⟨_,_,_,n,_,rfl, ?_,hD.out,b5⟩
  exact Or.inl ⟨rfl,hR.out⟩
 ·have hcs:L T=[92]∨L T=[40]∨L T=[46,40]∨L T=[34]∨L T=[46,34]:=by simpa [spec] using hsp
  have hTe:=toB_L T
  rcases hcs with h|h|h|h|h
  ·have hN2:Hid (nxE (L s) i=nxW (L s) n [92]):=by show _=_;rw[hNX.out,h]
   clear hNX
   rw[h] at hTe hCW
   have eT:T=⟨#[92]⟩:=by rw[←hTe];rfl
   subst eT
   have cl:=fun w=>w_lineEnd s n w hm (by omega)
   clear hTe h hsp
   go_enter Tryz.func33,Tryz.ntmps33
   go_wp2_with (first|(go_at_call 31;refine (cf _).mono ?_;rintro e q1 ⟨rfl,rfl⟩)|(go_at_call 56;refine (cl _).mono ?_;rintro e q2 ⟨b,rfl,hb,rfl⟩;refine Hid.out ?_))
   have hR:Hid (NxOk (L s) i 0 (L ⟨#[]⟩) 0 b):=by
    have hge:=nx_ge (L s) n 10
    refine ⟨by omega,by rw[L_len];omega,fun ts=> ?_⟩
    rw[hCW ts,CW_line (L s) n i ts hWE,if_pos rfl]
    rcases hb with ⟨h1,h2⟩|⟨h1,h2⟩
    ·rw[h1]
    ·rw[CR_end (L s) _ ts (by rw[h1,L_len];omega),CR_end (L s) _ ts (by rw[h2,L_len];omega)]
   have t0:Stands _ w.heap.size #[.int .i64 0, .string ⟨#[]⟩, .int .i64 0] 77:=(stands_new w _ _).below (Below.refl _ (w.alloc (.cells #[.int .i64 0, .string ⟨#[]⟩, .int .i64 0] 77)))
   have m0:=t0.cell 0 _ rfl
   have m1:=t0.cell 1 _ rfl
   have m2:=t0.cell 2 _ rfl
   have f1:=t0.free
   have bw:=below_trans (box_below w (.cells #[.int .i64 0, .string ⟨#[]⟩, .int .i64 0] 77)) (Below.refl _ (w.alloc (.cells #[.int .i64 0, .string ⟨#[]⟩, .int .i64 0] 77)))
   have hD:Hid (EqE (nxE (L s) i) b 0):=by
    show EqE _ _ _
    rw[hN2.out]
    unfold nxW
    rw[if_pos rfl]
    refine ⟨rfl,fun _=> ?_⟩
    show (if _ then _ else _)=b
    rcases hb with ⟨h1,h2⟩|⟨h1,h2⟩
    ·rw[if_pos (by rw[L_len];omega),h1]
    ·rw[if_neg (by rw[L_len];omega),L_len,h2]
   refine hid ?_
   clear hCW hb
   go_wp2_with fail
   obtain ⟨W5,hW5,s5,b5⟩:∃W5,(w.alloc (.cells #[.int .i64 0, .string ⟨#[]⟩, .int .i64 0] 77))=W5∧Stands W5 w.heap.size #[.int .i64 0, .string ⟨#[]⟩, .int .i64 0] 77∧Below w.heap.size w W5:=⟨_,rfl,stands_new w _ _,box_below w _⟩
   rw[hW5]
   have x0:=s5.cell 0 _ rfl
   have x1:=s5.cell 1 _ rfl
   have x2:=s5.cell 2 _ rfl
   refine bodyPost_ret (v:= .tuple #[.agg #[.int .i64 0, .string ⟨#[]⟩, .int .i64 0], .int .i64 (b:Int), .int .i64 0]) (by simp[results,Tryz.results33,go_sem,x0,x1,x2]) rfl ?_
   unfold NxQ
   refine ⟨_,_,_,b,_,rfl, ?_,hD.out,b5⟩
   exact Or.inl ⟨rfl,hR.out⟩
  ·have hN2:Hid (nxE (L s) i=nxW (L s) n [40]):=by show _=_;rw[hNX.out,h]
   clear hNX
   rw[h] at hTe hCW
   have eT:T=⟨#[40]⟩:=by rw[←hTe];rfl
   subst eT
   have cl:=fun w=>w_closed s n w hm (by omega)
   clear hTe h hsp
   go_enter Tryz.func33,Tryz.ntmps33
   go_wp2_with (first|(go_at_call 31;refine (cf _).mono ?_;rintro e q1 ⟨rfl,rfl⟩)|(go_at_call 57;refine (cl _).mono ?_;rintro e q2 ⟨C,b,E,rfl,hb,rfl⟩;refine Hid.out ?_))
   have hR:Hid (E=0∧NxOk (L s) i 0 (L ⟨#[]⟩) 0 b∨NxNo (L s) i E):=by
    rcases hb with ⟨rfl,h1⟩|⟨rfl,m,rfl,h1,h2,h3,h4,h5⟩
    ·exact Or.inr ⟨15,Or.inl rfl,Or.inr rfl,fun ts=>by rw[hCW ts,CW_par (L s) n i ts hWE,h1,L_len,if_neg (by omega)]⟩
    ·exact Or.inl ⟨rfl,by omega,by rw[L_len];omega,fun ts=>by rw[hCW ts,CW_par (L s) n i ts hWE,h1,L_len,if_pos h3,if_pos rfl]⟩
   have t0:Stands _ w.heap.size #[.int .i64 0, .string ⟨#[]⟩, .int .i64 0] 77:=(stands_new w _ _).below (Below.refl _ (w.alloc (.cells #[.int .i64 0, .string ⟨#[]⟩, .int .i64 0] 77)))
   have m0:=t0.cell 0 _ rfl
   have m1:=t0.cell 1 _ rfl
   have m2:=t0.cell 2 _ rfl
   have f1:=t0.free
   have bw:=below_trans (box_below w (.cells #[.int .i64 0, .string ⟨#[]⟩, .int .i64 0] 77)) (Below.refl _ (w.alloc (.cells #[.int .i64 0, .string ⟨#[]⟩, .int .i64 0] 77)))
   have hD:Hid (EqE (nxE (L s) i) b E):=by
    show EqE _ _ _
    rw[hN2.out]
    unfold nxW
    rw[if_neg (by decide),if_pos rfl]
    rcases hb with ⟨rfl,h1⟩|⟨rfl,m,rfl,h1,h2,h3,h4,h5⟩
    ·rw[if_neg (by rw[h1,L_len];omega)];exact ⟨rfl,fun h=>absurd h (by decide)⟩
    ·rw[if_pos (by rw[h1,L_len];omega),h1];exact ⟨rfl,fun _=>rfl⟩
   refine hid ?_
   clear hCW hb
   go_wp2_with fail
   obtain ⟨W5,hW5,s5,b5⟩:∃W5,(w.alloc (.cells #[.int .i64 0, .string ⟨#[]⟩, .int .i64 0] 77))=W5∧Stands W5 w.heap.size #[.int .i64 0, .string ⟨#[]⟩, .int .i64 0] 77∧Below w.heap.size w W5:=⟨_,rfl,stands_new w _ _,box_below w _⟩
   rw[hW5]
   have x0:=s5.cell 0 _ rfl
   have x1:=s5.cell 1 _ rfl
   have x2:=s5.cell 2 _ rfl
   refine bodyPost_ret (v:= .tuple #[.agg #[.int .i64 0, .string ⟨#[]⟩, .int .i64 0], .int .i64 (b:Int), .int .i64 E]) (by simp[results,Tryz.results33,go_sem,x0,x1,x2]) rfl ?_
   unfold NxQ
   refine ⟨_,_,_,b,_,rfl, ?_,hD.out,b5⟩
   exact hR.out
  ·have hN2:Hid (nxE (L s) i=nxW (L s) n [46,40]):=by show _=_;rw[hNX.out,h]
   clear hNX
   rw[h] at hTe hCW
   have eT:T=⟨#[46,40]⟩:=by rw[←hTe];rfl
   subst eT
   have cl:=fun w=>w_printed s n w hs (by omega)
   clear hTe h hsp
   go_enter Tryz.func33,Tryz.ntmps33
   go_wp2_with (first|(go_at_call 31;refine (cf _).mono ?_;rintro e q1 ⟨rfl,rfl⟩)|(go_at_call 58;refine (cl _).mono ?_;rintro e w1 ⟨C,b,E,rfl,hb,b1⟩;refine Hid.out ?_))
   have hR:Hid (E=0∧NxOk (L s) i 3 (L C) i b∨NxNo (L s) i E):=by
    rcases hb with ⟨rfl,h1⟩|⟨hns,m,h1,h2,h3,h4⟩
    ·refine Or.inr ⟨15,Or.inl rfl,Or.inr rfl,fun ts=> ?_⟩
     rw[hCW ts]
     by_cases hne:n=s.size
     ·exact CW_none (L s) n _ i ts (by rw[L_len];exact hne) (Or.inl rfl)
     ·have hbk:blkF (L s) n=true:=by
       rcases hWE with h|h
       ·rw[L_len] at h;omega
       ·exact h
      rw[CW_show (L s) n i ts hbk,L_len,if_neg (by omega)]
    ·have hbk:blkF (L s) n=true:=by
      rcases hWE with h|h
      ·rw[L_len] at h;omega
      ·exact h
     rcases h4 with ⟨rfl,h5⟩|⟨rfl,h5,rfl,h6⟩
     ·exact Or.inr ⟨3,Or.inl rfl,Or.inl rfl,fun ts=>by rw[hCW ts,CW_show (L s) n i ts hbk,h1,L_len,if_pos h3,if_pos h5]⟩
     ·exact Or.inl ⟨rfl,by omega,by rw[L_len];omega,fun ts=>by rw[hCW ts,CW_show (L s) n i ts hbk,h1,L_len,if_pos h3,if_neg (by omega),if_neg (by decide),h6]⟩
   have t0:Stands w1 w.heap.size #[.int .i64 0, .string ⟨#[]⟩, .int .i64 0] 77:=(stands_new w _ _).below b1
   have m0:=t0.cell 0 _ rfl
   have m1:=t0.cell 1 _ rfl
   have m2:=t0.cell 2 _ rfl
   have f1:=t0.free
   have bw:=below_trans (box_below w (.cells #[.int .i64 0, .string ⟨#[]⟩, .int .i64 0] 77)) b1
   have hD:Hid (EqE (nxE (L s) i) b E):=by
    show EqE _ _ _
    rw[hN2.out]
    unfold nxW
    rw[if_neg (by decide),if_neg (by decide),if_pos rfl]
    rcases hb with ⟨rfl,h1⟩|⟨hns,m,h1,h2,h3,h4⟩
    ·rw[if_pos (by rw[L_len];exact h1)];exact ⟨rfl,fun h=>absurd h (by decide)⟩
    ·rw[h1,if_neg (by rw[L_len];omega)]
     rcases h4 with ⟨rfl,h5⟩|⟨rfl,h5,rfl,h6⟩
     ·rw[if_pos h5];exact ⟨rfl,fun h=>absurd h (by decide)⟩
     ·rw[if_neg (by omega)];exact ⟨rfl,fun _=>rfl⟩
   refine hid ?_
   clear hCW hb
   go_wp2_with fail
   obtain ⟨W5,hW5,s5,b5⟩:∃W5,(((w1.setCell ⟨w.heap.size,0,none⟩ (.int .i64 3)).setCell ⟨w.heap.size,1,none⟩ (.string C)).setCell ⟨w.heap.size,2,none⟩ (.int .i64 (i:Int)))=W5∧Stands W5 w.heap.size #[.int .i64 3, .string C, .int .i64 (i:Int)] 77∧Below w.heap.size w W5:=
    ⟨_,rfl,((t0.set 0 _).set 1 _).set 2 _,below_set (below_set (below_set bw _ 0 _ (Nat.le_refl _)) _ 1 _ (Nat.le_refl _)) _ 2 _ (Nat.le_refl _)⟩
   rw[hW5]
   have x0:=s5.cell 0 _ rfl
   have x1:=s5.cell 1 _ rfl
   have x2:=s5.cell 2 _ rfl
   refine bodyPost_ret (v:= .tuple #[.agg #[.int .i64 3, .string C, .int .i64 (i:Int)], .int .i64 (b:Int), .int .i64 E]) (by simp[results,Tryz.results33,go_sem,x0,x1,x2]) rfl ?_
   unfold NxQ
   refine ⟨_,_,_,b,_,rfl, ?_,hD.out,b5⟩
   exact hR.out
  ·have hN2:Hid (nxE (L s) i=nxW (L s) n [34]):=by show _=_;rw[hNX.out,h]
   clear hNX
   rw[h] at hTe hCW
   have eT:T=⟨#[34]⟩:=by rw[←hTe];rfl
   subst eT
   have cl:=fun w hT=>w_quotedD s n w hs (by omega) hT
   clear hTe h hsp
   go_enter Tryz.func33,Tryz.ntmps33
   go_wp2_with (first|(go_at_call 31;refine (cf _).mono ?_;rintro e q1 ⟨rfl,rfl⟩)|(go_at_call 59;refine (cl _ hTB).mono ?_;unfold QtP;rintro e w1 ⟨C,b,E,rfl,hb,hd,b1⟩;refine Hid.out ?_))
   have hR:Hid (E=0∧NxOk (L s) i 2 (L C) i b∨NxNo (L s) i E):=by
    rcases hb with ⟨rfl,h1⟩|⟨hns,h4⟩
    ·exact Or.inr ⟨15,Or.inl rfl,Or.inr rfl,fun ts=>by rw[hCW ts];exact CW_none (L s) n _ i ts (by rw[L_len];exact h1) (Or.inr (Or.inl rfl))⟩
    ·have hbk:blkF (L s) n=true:=by
      rcases hWE with h|h
      ·rw[L_len] at h;omega
      ·exact h
     have hq:=fun ts=>CW_quote (L s) n [34] 2 i ts hbk (Or.inl ⟨rfl,rfl⟩)
     rcases h4 with ⟨h5,F,hF,hQE⟩|⟨rfl,hQO⟩
     ·exact Or.inr ⟨F,hF,h5,fun ts=>by rw[hCW ts];exact (hq ts).1 F hQE⟩
     ·exact Or.inl ⟨rfl,by have:=hQO.1;omega,hQO.2.1,fun ts=>by rw[hCW ts,if_neg (by decide)];exact (hq ts).2 b _ hQO⟩
   have t0:Stands w1 w.heap.size #[.int .i64 0, .string ⟨#[]⟩, .int .i64 0] 77:=(stands_new w _ _).below b1
   have m0:=t0.cell 0 _ rfl
   have m1:=t0.cell 1 _ rfl
   have m2:=t0.cell 2 _ rfl
   have f1:=t0.free
   have bw:=below_trans (box_below w (.cells #[.int .i64 0, .string ⟨#[]⟩, .int .i64 0] 77)) b1
   have hD:Hid (EqE (nxE (L s) i) b E):=by
    show EqE _ _ _
    rw[hN2.out]
    rw[nxW_q _ _ _ (Or.inl rfl)]
    exact hd
   refine hid ?_
   clear hCW hb hd
   go_wp2_with fail
   obtain ⟨W5,hW5,s5,b5⟩:∃W5,(((w1.setCell ⟨w.heap.size,0,none⟩ (.int .i64 2)).setCell ⟨w.heap.size,1,none⟩ (.string C)).setCell ⟨w.heap.size,2,none⟩ (.int .i64 (i:Int)))=W5∧Stands W5 w.heap.size #[.int .i64 2, .string C, .int .i64 (i:Int)] 77∧Below w.heap.size w W5:=
    ⟨_,rfl,((t0.set 0 _).set 1 _).set 2 _,below_set (below_set (below_set bw _ 0 _ (Nat.le_refl _)) _ 1 _ (Nat.le_refl _)) _ 2 _ (Nat.le_refl _)⟩
   rw[hW5]
   have x0:=s5.cell 0 _ rfl
   have x1:=s5.cell 1 _ rfl
   have x2:=s5.cell 2 _ rfl
   refine bodyPost_ret (v:= .tuple #[.agg #[.int .i64 2, .string C, .int .i64 (i:Int)], .int .i64 (b:Int), .int .i64 E]) (by simp[results,Tryz.results33,go_sem,x0,x1,x2]) rfl ?_
   unfold NxQ
   refine ⟨_,_,_,b,_,rfl, ?_,hD.out,b5⟩
   exact hR.out
  ·have hN2:Hid (nxE (L s) i=nxW (L s) n [46,34]):=by show _=_;rw[hNX.out,h]
   clear hNX
   rw[h] at hTe hCW
   have eT:T=⟨#[46,34]⟩:=by rw[←hTe];rfl
   subst eT
   have cl:=fun w hT=>w_quotedD s n w hs (by omega) hT
   clear hTe h hsp
   go_enter Tryz.func33,Tryz.ntmps33
   go_wp2_with (first|(go_at_call 31;refine (cf _).mono ?_;rintro e q1 ⟨rfl,rfl⟩)|(go_at_call 59;refine (cl _ hTB).mono ?_;unfold QtP;rintro e w1 ⟨C,b,E,rfl,hb,hd,b1⟩;refine Hid.out ?_))
   have hR:Hid (E=0∧NxOk (L s) i 3 (L C) i b∨NxNo (L s) i E):=by
    rcases hb with ⟨rfl,h1⟩|⟨hns,h4⟩
    ·exact Or.inr ⟨15,Or.inl rfl,Or.inr rfl,fun ts=>by rw[hCW ts];exact CW_none (L s) n _ i ts (by rw[L_len];exact h1) (Or.inr (Or.inr rfl))⟩
    ·have hbk:blkF (L s) n=true:=by
      rcases hWE with h|h
      ·rw[L_len] at h;omega
      ·exact h
     have hq:=fun ts=>CW_quote (L s) n [46,34] 3 i ts hbk (Or.inr ⟨rfl,rfl⟩)
     rcases h4 with ⟨h5,F,hF,hQE⟩|⟨rfl,hQO⟩
     ·exact Or.inr ⟨F,hF,h5,fun ts=>by rw[hCW ts];exact (hq ts).1 F hQE⟩
     ·exact Or.inl ⟨rfl,by have:=hQO.1;omega,hQO.2.1,fun ts=>by rw[hCW ts,if_neg (by decide)];exact (hq ts).2 b _ hQO⟩
   have t0:Stands w1 w.heap.size #[.int .i64 0, .string ⟨#[]⟩, .int .i64 0] 77:=(stands_new w _ _).below b1
   have m0:=t0.cell 0 _ rfl
   have m1:=t0.cell 1 _ rfl
   have m2:=t0.cell 2 _ rfl
   have f1:=t0.free
   have bw:=below_trans (box_below w (.cells #[.int .i64 0, .string ⟨#[]⟩, .int .i64 0] 77)) b1
   have hD:Hid (EqE (nxE (L s) i) b E):=by
    show EqE _ _ _
    rw[hN2.out]
    rw[nxW_q _ _ _ (Or.inr rfl)]
    exact hd
   refine hid ?_
   clear hCW hb hd
   go_wp2_with fail
   obtain ⟨W5,hW5,s5,b5⟩:∃W5,(((w1.setCell ⟨w.heap.size,0,none⟩ (.int .i64 3)).setCell ⟨w.heap.size,1,none⟩ (.string C)).setCell ⟨w.heap.size,2,none⟩ (.int .i64 (i:Int)))=W5∧Stands W5 w.heap.size #[.int .i64 3, .string C, .int .i64 (i:Int)] 77∧Below w.heap.size w W5:=
    ⟨_,rfl,((t0.set 0 _).set 1 _).set 2 _,below_set (below_set (below_set bw _ 0 _ (Nat.le_refl _)) _ 1 _ (Nat.le_refl _)) _ 2 _ (Nat.le_refl _)⟩
   rw[hW5]
   have x0:=s5.cell 0 _ rfl
   have x1:=s5.cell 1 _ rfl
   have x2:=s5.cell 2 _ rfl
   refine bodyPost_ret (v:= .tuple #[.agg #[.int .i64 3, .string C, .int .i64 (i:Int)], .int .i64 (b:Int), .int .i64 E]) (by simp[results,Tryz.results33,go_sem,x0,x1,x2]) rfl ?_
   unfold NxQ
   refine ⟨_,_,_,b,_,rfl, ?_,hD.out,b5⟩
   exact hR.out
set_option maxHeartbeats 4000000 in
set_option maxRecDepth 100000 in
theorem w_pcutD (s:ByteArray) (w:World) (hs:s.size≤maxLen) (hT:Tab w):
  Calls Tryz.prog 19 #[.string s] w fun e w'=>∃(v:Value) (E:Int),e= .returned (.tuple #[v, .int .i64 E])∧(ErrLike E (cutF (L s)).2∧E=cutE (L s))∧SlR 3 tokR w' v (cutF (L s)).1∧Below w.heap.size w w':=by
 unfold maxLen at hs
 by_cases hlong:(4096:Int) < s.size
 ·have e:Hid (cutF (L s)=([],3)):=by show _=_;unfold cutF;rw[if_pos (by rw[L_len];omega)]
  go_enter Tryz.func19,Tryz.ntmps19
  go_wp2_with fail
  go_ret2
  rw[e.out]
  have e2:cutE (L s)=3:=by unfold cutE;rw[if_pos (by rw[L_len];omega)]
  exact ⟨_,_,rfl,⟨Or.inl rfl,e2.symm⟩,SlR.nil,Below.refl _ _⟩
 ·have hst:=CR_start (L s) (by rw[L_len];omega)
  have hm:s.size≤maxLen:=by unfold maxLen;omega
  obtain ⟨i0,hi0,hz0,hz1,hz2⟩:=info_parts infoTok
  obtain ⟨A,F,hAF⟩:∃A F,cutF (L s)=(A,F):=⟨_,_,rfl⟩
  rw[hAF] at hst ⊢
  have hR0:LcR (L s) (fdF soC (L s) 0) (cutE (L s)):=⟨(L s).length+1,by omega,by unfold cutE;rw[if_neg (by rw[L_len];omega)]⟩
  obtain ⟨R,hRR⟩:∃R,cutE (L s)=R:=⟨_,rfl⟩
  rw[hRR] at hR0 ⊢
  clear hRR
  have HR:Hid (CR (L s) (fdF soC (L s) 0) []=(A,F)):=by show _=_;rw[←CR_skip (L s) [] _ 0 rfl,←hst]
  have cf:∀w,Calls Tryz.prog 31 #[.string s, .int .i64 0, .func (.func 32) #[] #[]] w _:=fun w=>w_find_solid s 0 w hm (by omega)
  have HL0:=hid hR0
  clear hR0
  have hle:=fd_le soC (L s) 0 (by omega)
  have hat:=fd_at soC (L s) _ 0 rfl
  rw[L_len] at hle
  obtain ⟨a0,ha0⟩:∃a0,fdF soC (L s) 0=a0:=⟨_,rfl⟩
  simp only[ha0] at HR HL0 cf hle hat
  have HA:Hid (∀h:a0 < (L s).length,soC (L s)[a0]=true):=hat
  show Calls _ _ _ _ fun e w'=>∃(v:Value) (E:Int),e= .returned (.tuple #[v, .int .i64 E])∧(ErrLike E F∧E=R)∧SlR 3 tokR w' v A∧_
  clear hst hAF ha0 hat
  go_enter Tryz.func19,Tryz.ntmps19
  go_wp2_with (go_at_call 31;refine (cf _).mono ?_;rintro e q1 ⟨rfl,hq1⟩;have hq2:=hq1.symm;subst hq2)
  go_loopw [4,5] (fun U I wx=>∃(i:Nat) (ts:List Tk),(i:Int)≤s.size∧I= .int .i64 i∧Hid (∀h:i < (L s).length,soC (L s)[i]=true)∧Hid (CR (L s) i ts=(A,F)∧LcR (L s) i R)∧(ts.length:Int)≤i∧OwnT w.heap.size wx U ts∧Below w.heap.size w wx) (fun _ I _=>(s.size+1 - intOf I).toNat)
  case atStart=>exact ⟨a0,[],by omega,rfl,HA,⟨HR.out,HL0.out⟩,by simp,World.ownsRow_nil _ _ _ _,Below.refl _ _⟩
  case round=>
   obtain ⟨i,ts,hi,rfl,hso,hRL,htl,ho,hb⟩:=hrel
   have hR:Hid (CR (L s) i ts=(A,F)):=hRL.out.1
   have hLc:Hid (LcR (L s) i R):=hRL.out.2
   clear hRL
   by_cases hlt:(i:Int) < s.size
   ·have hil:i < (L s).length:=by rw[L_len];omega
    have hnb:¬(L s)[i]≤32:=by have:=hso.out hil;simp[soC] at this;omega
    have cn:=w_nextD s i wr (by omega) (by omega) (hT.below hb) hnb
    clear hnb
    go_wp2_with (go_at_call 33;refine cn.mono ?_;unfold NxQ;rintro e w1 ⟨k,T,p,b,E,rfl,hN,hEE,b1⟩;refine Hid.out ?_)
    have ho1:=ownT_below ho b1
    have hb1:=below_trans hb b1
    have HE:=hid hEE
    clear hEE
    rcases hN with ⟨rfl,hN⟩|hN
    ·obtain ⟨g1,g2,g3⟩:=hN
     have hge0:=fd_ge soC (L s) b
     have hL2:Hid (LcR (L s) (fdF soC (L s) b) R):=hLc.out.on hil HE.out (by omega)
     clear hge0
     rw[L_len] at g2
     have cf:∀w,Calls Tryz.prog 31 #[.string s, .int .i64 (b:Int), .func (.func 32) #[] #[]] w _:=fun w=>w_find_solid s b w hm (by omega)
     have hge2:=fd_ge soC (L s) b
     have hle2:=fd_le soC (L s) b (by rw[L_len];omega)
     have hat:=fd_at soC (L s) _ b rfl
     rw[L_len] at hle2
     have hR2:CR (L s) (fdF soC (L s) b) (if k=0 then ts else ts++[(k,L T,p)])=(A,F):=by rw[←CR_skip (L s) _ _ b rfl,←g3 ts];exact hR.out
     obtain ⟨a1,ha1⟩:∃a1,fdF soC (L s) b=a1:=⟨_,rfl⟩
     simp only[ha1] at cf hge2 hle2 hat hR2 hL2
     have HA1:Hid (∀h:a1 < (L s).length,soC (L s)[a1]=true):=hat
     clear hat ha1 g3
     have sx:=stands_new w1 #[.int .i64 k, .string T, .int .i64 p] 77
     have x0:=sx.cell 0 _ rfl
     have x1:=sx.cell 1 _ rfl
     have x2:=sx.cell 2 _ rfl
     have ho2:=World.ownsRow.alloc ho1 (.cells #[.int .i64 k, .string T, .int .i64 p] 77)
     have hb2:=hb1.alloc hb1.size (.cells #[.int .i64 k, .string T, .int .i64 p] 77)
     by_cases hk:k=0
     ·have hkb:(k !=0)=false:=by simp[hk]
      have HR2:Hid (CR (L s) a1 ts=(A,F)):=by show _=_;rw[if_pos hk] at hR2;exact hR2
      clear hk hR2
      refine hid ?_
      go_wp2_with (go_at_call 31;refine (cf _).mono ?_;rintro e q2 ⟨rfl,rfl⟩)
      go_roundw
      case rel=>exact ⟨a1,ts,by omega,rfl,HA1,⟨HR2.out,hL2.out⟩,by omega,ho2,hb2⟩
      case measure=>simp[intOf];omega
     ·have hkb:(k !=0)=true:=by simp[hk]
      have HR2:Hid (CR (L s) a1 (ts++[(k,L T,p)])=(A,F)):=by show _=_;rw[if_neg hk] at hR2;exact hR2
      clear hk hR2
      refine hid ?_
      go_wp2_with (first
       |(at_builtin;refine wpList_append_row rfl _ _ 49 rfl w.heap.size 77 i0 _ 3 32 Tryz.underlying49 hi0 hz0 hz1 hz2 rfl (by decide) _ ts.length _ rfl (World.ownsRow.alloc ho2 (.cells #[.int .i64 k, .string T, .int .i64 p] 77)) _ [.int .i64 k, .string T, .int .i64 p] rfl rfl (alloc_row2 w1 _ [.int .i64 k, .string T, .int .i64 p] 77) (tk_one _ _ _) (by unfold maxLen;omega) (by omega) (hb2.alloc hb2.size (.cells #[.int .i64 k, .string T, .int .i64 p] 77)).size ?_;intro v6 w6 ho6 hg6)
       |(go_at_call 31;refine (cf _).mono ?_;rintro e q2 ⟨rfl,rfl⟩))
      have hb6:=below_grown (hb2.alloc hb2.size (.cells #[.int .i64 k, .string T, .int .i64 p] 77)) hg6 (fun k hk=>(World.ownsRow.lt ho1 k hk).1)
      have ho7:OwnT w.heap.size _ v6 (ts++[(k,L T,p)]):=ownT_snoc ho6 (by unfold tkC;rw[show strOfNums (L T)=T from nums_LB T])
      go_roundw
      case rel=>exact ⟨a1,ts++[(k,L T,p)],by omega,rfl,HA1,⟨HR2.out,hL2.out⟩,by simp;omega,ho7,hb6⟩
      case measure=>simp[intOf];omega
    ·obtain ⟨F',hF,hE,hN⟩:=hN
     have e:Hid (A=[]∧F=F'):=by
      show _∧_
      have:=(hN ts).symm.trans hR.out
      exact ⟨(Prod.mk.inj this).1.symm,(Prod.mk.inj this).2.symm⟩
     have hEb:(E !=0)=true:=by rcases hE with rfl|rfl <;> rfl
     have HF:=hid hF
     have HR9:Hid (E=R):=(hLc.out.stop hil HE.out (by rcases hE with rfl|rfl <;> decide)).symm
     have sx:=stands_new w1 #[.int .i64 k, .string T, .int .i64 p] 77
     clear hE hN hF
     refine hid ?_
     go_wp2_with fail
     go_ret2
     obtain ⟨rfl,rfl⟩:=e.out
     exact ⟨_,_,rfl,⟨HF.out,HR9.out⟩,SlR.nil,hb1.alloc hb1.size _⟩
   ·have e9:Hid (R=0):=hLc.out.fin (by rw[L_len];omega)
    have e:Hid (ts=A∧F=0):=by
     show _∧_
     have:=hR.out
     rw[CR_end (L s) i ts (by rw[L_len];omega)] at this
     exact ⟨(Prod.mk.inj this).1,(Prod.mk.inj this).2.symm⟩
    go_wp2_with fail
    go_ret2
    obtain ⟨rfl,rfl⟩:=e.out
    exact ⟨_,_,rfl,⟨Or.inl rfl,e9.out.symm⟩,own_tok ho,hb⟩
open Go.ChangeShapes Go.WideShapes Go.ChangeAt Go.RowKit Go.Maps
def errE (X:List Int):Int:=if cutE X=0 then 15 else cutE X
def tksF (s:ByteArray):List Tq×Int:=if ¬(cutF (L s)).2=0 then ([],errE (L s)) else toksG lit (cutF (L s)).1
def TokD (w:World) (s:ByteArray) (e:Ending) (w':World):Prop:=∃v,e= .returned (.tuple #[v, .int .i64 (tksF s).2])∧OwQs w.heap.size w' v (tksF s).1∧Below w.heap.size w w'
set_option maxHeartbeats 4000000 in
set_option maxRecDepth 100000 in
theorem fw_tokensD (s:ByteArray) (w:World) (hs:s.size≤maxLen) (hT:Tab w):Calls Tryz.prog 8 #[.string s] w (TokD w s):=by
 by_cases he:(cutF (L s)).2=0
 ·refine (fw_tokens s w hs hT).mono ?_
  unfold TokQ TokD tksF
  rw[if_neg (fun h=>h he)]
  rintro e w' ⟨b,v,E,rfl, -,h⟩
  obtain ⟨rfl,h2⟩:=h he
  exact ⟨v,rfl,h2,b⟩
 ·have cc:=w_pcutD s w hs hT
  have hX:tksF s=([],errE (L s)):=by unfold tksF;rw[if_pos he]
  unfold TokD
  rw[hX]
  obtain ⟨R,hR⟩:∃R,errE (L s)=R:=⟨_,rfl⟩
  have HS:Hid (∀E,E=cutE (L s)→¬E=0→E=R):=by
   show ∀E,_
   intro E h1 h2
   rw[←hR]
   unfold errE
   rw[←h1,if_neg h2]
  obtain ⟨⟨X,E0⟩,hC⟩:∃x,cutF (L s)=x:=⟨_,rfl⟩
  rw[hC] at cc he
  rw[hR]
  simp only at cc he ⊢
  clear hX hR hC
  go_enter Tryz.func8,Tryz.ntmps8
  go_wp2_with (first|(go_at_call 19;refine cc.mono ?_;rintro e1 w1 ⟨v,E,rfl,⟨h1,h2⟩,r1,b1⟩;have hE:=(errlike h1).2 he;have hER:=HS.out E h2 hE;clear h2;subst hER;have hE1:(E !=0)=true:=(by simpa using hE);have hE2:(E==0)=false:=(by simpa using hE))|fail)
  go_ret2
  exact ⟨_,rfl,World.ownsRow_nil _ _ _ _,b1⟩
open Go.ChangeShapes Go.WideShapes Go.ChangeAt Go.RowKit
set_option maxHeartbeats 1000000 in
theorem w_r13same (va vb:Value) (xs ys:List Tq) (w:World) (ha:SlR 4 tqR w va xs) (hb:SlR 4 tqR w vb ys) (bx:∀x∈xs,bytesL x.t) (by':∀x∈ys,bytesL x.t):
  Calls Tryz.prog 10 #[va,vb] w fun e w'=>e= .returned (.bool (decide (xs=ys)))∧Below w.heap.size w w':=by
 have hla:=slr_len ha uQ (P:=Tryz.prog)
 have hlb:=slr_len hb uQ (P:=Tryz.prog)
 have hma:=slr_max ha
 have hmb:=slr_max hb
 unfold maxLen at hma hmb
 by_cases hl:xs.length=ys.length
 ·have hn:((xs.length:Int) !=(ys.length:Int))=false:=by simp[hl]
  have Hl:=hid hl
  clear hl
  go_enter Tryz.func10,Tryz.ntmps10
  go_wp2_with fail
  go_loopw [5] (fun i wx=>∃k:Nat,(k:Int)≤xs.length∧i= .int .i64 k∧Hid (xs.take k=ys.take k)∧Below w.heap.size w wx) (fun i _=>(xs.length - intOf i).toNat)
  case atStart=>exact ⟨0,by omega,rfl,hid (by simp),Below.refl _ _⟩
  case round=>
   obtain ⟨j,hj,rfl,ht,hg⟩:=hrel
   by_cases hlt:(j:Int) < xs.length
   ·have hka:j < xs.length:=by omega
    have hkb:j < ys.length:=by have:=Hl.out;omega
    obtain ⟨b1,o1,k1,n1,p1,T1,r1,a0,a1,a2,a3,e0,e1,e2,e3⟩:=tq_at (ha.below hg tqR_below) j hka
    obtain ⟨b2,o2,k2,n2,p2,T2,r2,d0,d1,d2,d3,f0,f1,f2,f3⟩:=tq_at (hb.below hg tqR_below) j hkb
    have hne:=fun w=>tq_neq w k1 n1 p1 k2 n2 p2 T1 T2
    have hgd:=fun w x y=>run_eqGuard_agg (P:=Tryz.prog) w .neq 40 x y #[.int .i64 k1, .int .u32 n1, .string T1, .int .i64 p1] #[.int .i64 k2, .int .u32 n2, .string T2, .int .i64 p2] tq_guard
    have hq:(k1==k2&&(n1==n2&&(T1.toList==T2.toList&&p1==p2)))=decide (xs[j]=ys[j]):=by
     have t1:xs[j].t=LB T1:=by rw[←e2];exact (LB_nums _ (bx _ (List.getElem_mem hka))).symm
     have t2:ys[j].t=LB T2:=by rw[←f2];exact (LB_nums _ (by' _ (List.getElem_mem hkb))).symm
     have x1:xs[j]=⟨k1,n1,LB T1,p1⟩:=by rw[←t1,←e0,←e1,←e3]
     have x2:ys[j]=⟨k2,n2,LB T2,p2⟩:=by rw[←t2,←f0,←f1,←f3]
     rw[x1,x2,str_beq,Bool.eq_iff_iff]
     simp only[LB_eq]
     simp
    by_cases hxy:xs[j]=ys[j]
    ·have ht2:Hid (xs.take (j+1)=ys.take (j+1)):=by
      show _=_
      rw[List.take_succ_eq_append_getElem hka,List.take_succ_eq_append_getElem hkb,ht.out,hxy]
     rw[show decide (xs[j]=ys[j])=true by simp[hxy]] at hq
     simp only[hq,Bool.not_true] at hne
     clear e0 e1 e2 e3 f0 f1 f2 f3 hq hxy
     go_wp2_with fail
     go_quiet (fail)
     go_wp2_with fail
     go_roundw
     case rel=>exact ⟨j+1,by omega,by go_num,ht2,below_drewN hg _⟩
     case measure=>simp[intOf];omega
    ·have hf:Hid (decide (xs=ys)=false):=by
      show _=_
      simp
      intro h
      subst h
      exact hxy rfl
     rw[show decide (xs[j]=ys[j])=false by simp[hxy]] at hq
     simp only[hq,Bool.not_false] at hne
     clear e0 e1 e2 e3 f0 f1 f2 f3 hq hxy
     go_wp2_with fail
     go_quiet (fail)
     go_wp2_with fail
     go_ret
     exact ⟨ret_b hf.out.symm,below_drewN hg _⟩
   ·have hf:Hid (decide (xs=ys)=true):=by
     show _=_
     have h1:xs.take j=xs:=List.take_of_length_le (by omega)
     have h2:ys.take j=ys:=List.take_of_length_le (by have:=Hl.out;omega)
     have:=ht.out
     rw[h1,h2] at this
     simp[this]
    go_wp2_with fail
    go_ret
    exact ⟨ret_b hf.out.symm,hg⟩
 ·have hf:Hid (decide (xs=ys)=false):=by show _=_;simp;intro h;exact hl (by rw[h])
  have hn:((xs.length:Int) !=(ys.length:Int))=true:=by simp;omega
  clear hl
  go_enter Tryz.func10,Tryz.ntmps10
  go_wp2_with fail
  go_ret
  exact ⟨ret_b hf.out.symm,Below.refl _ _⟩
def smF:List Int→Int
 |[]=>0
 |a::l=>a+smF l
def sumF (l:List Int):Int:=smF l%65536
theorem sm_app:∀(a b:List Int),smF (a++b)=smF a+smF b
 |[],b=>by simp[smF]
 |x::a,b=>by simp only[List.cons_append,smF,sm_app a b];omega
theorem sum_snoc (l:List Int) (x:Int):sumF (l++[x])=(sumF l+x)%65536:=by
 simp only[sumF,sm_app,smF];omega
theorem sum_bd (l:List Int):0≤sumF l∧sumF l < 65536:=by unfold sumF;omega
def mkFh (wide:Bool):Int:=if wide then 241 else 253
def hdF (body:List Int) (wide:Bool):List Int:=[mkFh wide,8,sumF body / 256,sumF body%256]++beB 4 (8+body.length)
def makF (body:List Int) (wide:Bool):List Int×Int:=if 8184 < body.length then ([],3) else (hdF body wide++body,0)
def szF (b:List Int):Int:=beV ((b.drop 4).take 4)
def bdF (b:List Int):List Int:=(b.drop 8).take (szF b - 8).toNat
def chkB (b:List Int):Bool:=
 decide (8≤b.length∧b.length≤8192)&&decide ((b.getD 0 0=241∨b.getD 0 0=253)∧b.getD 1 0=8)&&decide (8≤szF b∧szF b≤b.length)&&decide (beV ((b.drop 2).take 2)=sumF (bdF b))
def chkF (b:List Int):List Int×Bool×Int:=if chkB b then (bdF b,decide (b.getD 0 0=241),0) else ([],false,17)
theorem beB4 (n:Int):beB 4 n=[n / 256 / 256 / 256%256,n / 256 / 256%256,n / 256%256,n%256]:=by simp[beB]
theorem hd_len (body:List Int) (wide:Bool):(hdF body wide).length=8:=by simp[hdF,beB4]
theorem hd_bytes (body:List Int) (wide:Bool):bytesL (hdF body wide):=by
 have h:=sum_bd body
 intro x hx
 simp only[hdF,beB4,List.cons_append,List.nil_append,List.mem_cons,List.not_mem_nil,or_false] at hx
 have hm:mkFh wide=241∨mkFh wide=253:=by cases wide <;> simp[mkFh]
 omega
theorem eight (b:List Int) (h:8≤b.length):∃b0 b1 b2 b3 b4 b5 b6 b7 r,b=b0::b1::b2::b3::b4::b5::b6::b7::r:=by
 match b,h with
 |b0::b1::b2::b3::b4::b5::b6::b7::r,_=>exact ⟨b0,b1,b2,b3,b4,b5,b6,b7,r,rfl⟩
theorem sz8 (b0 b1 b2 b3 b4 b5 b6 b7:Int) (r:List Int):szF (b0::b1::b2::b3::b4::b5::b6::b7::r)=((b4*256+b5)*256+b6)*256+b7:=by
 simp[szF,beV]
theorem sz_bd (b:List Int) (hb:bytesL b):0≤szF b∧szF b < 4294967296:=by
 unfold szF
 match h:(b.drop 4).take 4 with
 |[]=>simp[beV]
 |[a]=>have:=hb a (List.mem_of_mem_drop (List.mem_of_mem_take (by rw[h];simp)));simp[beV];omega
 |[a,c]=>
  have h1:=hb a (List.mem_of_mem_drop (List.mem_of_mem_take (by rw[h];simp)))
  have h2:=hb c (List.mem_of_mem_drop (List.mem_of_mem_take (by rw[h];simp)))
  simp[beV];omega
 |[a,c,d]=>
  have h1:=hb a (List.mem_of_mem_drop (List.mem_of_mem_take (by rw[h];simp)))
  have h2:=hb c (List.mem_of_mem_drop (List.mem_of_mem_take (by rw[h];simp)))
  have h3:=hb d (List.mem_of_mem_drop (List.mem_of_mem_take (by rw[h];simp)))
  simp[beV];omega
 |[a,c,d,e]=>
  have h1:=hb a (List.mem_of_mem_drop (List.mem_of_mem_take (by rw[h];simp)))
  have h2:=hb c (List.mem_of_mem_drop (List.mem_of_mem_take (by rw[h];simp)))
  have h3:=hb d (List.mem_of_mem_drop (List.mem_of_mem_take (by rw[h];simp)))
  have h4:=hb e (List.mem_of_mem_drop (List.mem_of_mem_take (by rw[h];simp)))
  simp[beV];omega
 |a::c::d::e::f::l=>have:=congrArg List.length h;simp at this;omega
theorem bd_bytes (b:List Int) (hb:bytesL b):bytesL (bdF b):=bytes_take (bytes_drop hb _) _
theorem mak_bytes (body:List Int) (wide:Bool) (hb:bytesL body):bytesL (makF body wide).1:=by
 unfold makF
 split
 ·intro x hx;simp at hx
 ·exact bytes_app (hd_bytes body wide) hb
theorem chk_made (b:List Int) (hb:bytesL b) (h8:8≤b.length) (hl:b.length≤8192) (s8:8≤szF b) (sl:szF b≤b.length):
  (hdF (bdF b) (decide (b.getD 0 0=241))++bdF b=b.take (szF b).toNat)↔chkB b=true:=by
 obtain ⟨b0,b1,b2,b3,b4,b5,b6,b7,r,rfl⟩:=eight b h8
 have e:=sz8 b0 b1 b2 b3 b4 b5 b6 b7 r
 have q4:=hb b4 (by simp)
 have q5:=hb b5 (by simp)
 have q6:=hb b6 (by simp)
 have q7:=hb b7 (by simp)
 have q3:=hb b3 (by simp)
 have q2:=hb b2 (by simp)
 have ht:(b0::b1::b2::b3::b4::b5::b6::b7::r).take (szF (b0::b1::b2::b3::b4::b5::b6::b7::r)).toNat=b0::b1::b2::b3::b4::b5::b6::b7::bdF (b0::b1::b2::b3::b4::b5::b6::b7::r):=by
  obtain ⟨n,hn⟩:∃n,(szF (b0::b1::b2::b3::b4::b5::b6::b7::r)).toNat=n+8:=⟨(szF (b0::b1::b2::b3::b4::b5::b6::b7::r)).toNat - 8,by omega⟩
  have hn2:(szF (b0::b1::b2::b3::b4::b5::b6::b7::r) - 8).toNat=n:=by omega
  unfold bdF
  rw[hn,hn2]
  simp
 have hbl:((bdF (b0::b1::b2::b3::b4::b5::b6::b7::r)).length:Int)=szF (b0::b1::b2::b3::b4::b5::b6::b7::r) - 8:=by
  simp only[bdF,List.length_take,List.length_drop,List.length_cons] at*
  omega
 rw[ht]
 have hs:=sum_bd (bdF (b0::b1::b2::b3::b4::b5::b6::b7::r))
 have hck:chkB (b0::b1::b2::b3::b4::b5::b6::b7::r)=decide (((b0=241∨b0=253)∧b1=8)∧b2*256+b3=sumF (bdF (b0::b1::b2::b3::b4::b5::b6::b7::r))):=by
  unfold chkB
  rw[decide_eq_true (show 8≤_∧_ from ⟨h8,hl⟩),decide_eq_true (show 8≤szF _∧_ from ⟨s8,sl⟩)]
  have e2:beV (((b0::b1::b2::b3::b4::b5::b6::b7::r).drop 2).take 2)=b2*256+b3:=by simp[beV]
  rw[e2]
  simp
 rw[hck]
 generalize bdF (b0::b1::b2::b3::b4::b5::b6::b7::r)=B at*
 rw[e] at hbl
 have e4:beB 4 (8+(B.length:Int))=[b4,b5,b6,b7]:=by
  rw[beB4,hbl]
  simp only[List.cons.injEq,and_true]
  omega
 simp only[hdF,e4,List.cons_append,List.nil_append,List.cons.injEq,and_true,decide_eq_true_eq,List.getD_cons_zero]
 have hm:mkFh (decide (b0=241))=b0↔(b0=241∨b0=253):=by
  by_cases h:b0=241
  ·simp[mkFh,h]
  ·simp[mkFh,h];omega
 constructor
 ·rintro ⟨h1,h2,h3,h4⟩
  exact ⟨⟨hm.1 h1,h2.symm⟩,by omega⟩
 ·rintro ⟨⟨h1,h2⟩,h3⟩
  exact ⟨hm.2 h1,h2.symm,by omega,by omega⟩
theorem sz_made (body more:List Int) (wide:Bool) (hl:body.length≤8184):szF (hdF body wide++body++more)=8+body.length:=by
 simp only[hdF,beB4,List.cons_append,List.nil_append,sz8]
 omega
theorem bd_made (body more:List Int) (wide:Bool) (hl:body.length≤8184):bdF (hdF body wide++body++more)=body:=by
 have h:=sz_made body more wide hl
 unfold bdF
 rw[h,show ((8:Int)+body.length - 8).toNat=body.length by omega,List.append_assoc,List.drop_left' (hd_len body wide),List.take_left' rfl]
theorem hback_law (body more:List Int) (wide:Bool) (hb:bytesL body) (hl:body.length≤8184) (hm:more.length+body.length≤8184):chkF (hdF body wide++body++more)=(body,wide,0):=by
 have hs:=sz_made body more wide hl
 have hd:=bd_made body more wide hl
 have hL:(hdF body wide++body++more).length=8+body.length+more.length:=by simp only[List.length_append,hd_len]
 have h0:(hdF body wide++body++more).getD 0 0=mkFh wide:=by simp[hdF]
 have h1:(hdF body wide++body++more).getD 1 0=8:=by simp[hdF]
 have h2:beV (((hdF body wide++body++more).drop 2).take 2)=sumF body:=by
  have:=sum_bd body
  simp[hdF,beV];omega
 have hmk:mkFh wide=241∨mkFh wide=253:=by cases wide <;> simp[mkFh]
 have hc:chkB (hdF body wide++body++more)=true:=by
  unfold chkB
  rw[hs,hd,hL,h0,h1,h2]
  simp[hmk]
  omega
 unfold chkF
 rw[hc,hd,h0]
 cases wide <;> simp[mkFh]
def cells (l:List Int):Prop:=∀x∈l,0≤x∧x < 4294967296
def deIF (l:List Int):Int×List Int×Int:=if l.length < 4 then (0,[],2) else (beV (l.take 4),l.drop 4,0)
def Own8p (base:Nat) (w:World) (v:Value) (xs:List Int):Prop:=w.ownsRow base 5 1 v xs.length (xs.map (Value.int .u8))
theorem enc_at (n:Int) (h0:0≤n) (k:Nat) (hk:k≤3):(beB 4 n).take (3 - k+1)=(beB 4 n).take (3 - k)++[n / 2^(8*k)%256]:=by
 have e:beB 4 n=[n / 256 / 256 / 256%256,n / 256 / 256%256,n / 256%256,n%256]:=by simp[beB]
 rw[e]
 have:k=0∨k=1∨k=2∨k=3:=by omega
 rcases this with rfl|rfl|rfl|rfl
 all_goals simp
 all_goals omega
set_option maxHeartbeats 1000000 in
set_option maxRecDepth 100000 in
theorem w_rencint (n:Int) (w:World) (h0:0≤n) (h1:n < 4294967296):
  Calls Tryz.prog 54 #[.int .u32 n] w fun e w'=>∃v,e= .returned v∧Own8p w.heap.size w' v (beB 4 n)∧Below w.heap.size w w':=by
 obtain ⟨i0,hi,hz0,hz1,hz2⟩:=info_parts infoU8
 obtain ⟨F,hF⟩:∃F,beB 4 n=F:=⟨_,rfl⟩
 have hFl:F.length=4:=by rw[←hF];exact beB_len 4 n
 have hst:=enc_at n h0
 rw[hF] at hst ⊢
 have Hst:=hid hst
 clear hst hF
 go_enter Tryz.func54,Tryz.ntmps54
 go_wp2_with fail
 go_loopw [3,4] (fun U I wx=>∃(k:Nat),(k:Int)≤4∧I= .int .i64 ((k:Int) - 1)∧Own8p w.heap.size wx U (F.take (4 - k))∧Below w.heap.size w wx) (fun _ I _=>(intOf I+1).toNat)
 case atStart=>exact ⟨4,by omega,rfl,World.ownsRow_nil _ _ _ _,Below.refl _ _⟩
 case round=>
  obtain ⟨k,hk,rfl,ho,hb⟩:=hrel
  rcases Nat.eq_zero_or_pos k with hk0|hk0
  ·subst hk0
   go_wp2_with fail
   go_ret
   refine ⟨_,rfl, ?_,hb⟩
   rw[show 4 - 0=4 from rfl,List.take_of_length_le (by omega)] at ho
   exact ho
  ·obtain ⟨j,rfl⟩:∃j,k=j+1:=⟨k - 1,by omega⟩
   have hq0:0≤n / 2^(8*j):=Int.ediv_nonneg h0 (Int.le_of_lt (Int.pow_pos (by decide)))
   have hq1:n / 2^(8*j)≤n:=Int.ediv_le_self _ h0
   obtain ⟨q,hq⟩:∃q,n / 2^(8*j)=q:=⟨_,rfl⟩
   obtain ⟨x,hx⟩:∃x,n / 2^(8*j)%256=x:=⟨_,rfl⟩
   have hx0:0≤x∧x < 256:=by omega
   obtain ⟨x0,x1⟩:=hx0
   rw[hq] at hq0 hq1
   have hm:q.tmod 256=x:=by rw[Int.tmod_eq_emod_of_nonneg hq0,←hx,hq]
   have hs2:Hid (F.take (4 - j)=F.take (4 - (j+1))++[x]):=by
    show _=_
    have:=Hst.out j (by omega)
    rw[hx,show 3 - j+1=4 - j by omega,show 3 - j=4 - (j+1) by omega] at this
    exact this
   have ho3:=World.ownsRow.alloc ho (.cells #[.int .u8 x] 5)
   have hb3:=hb.alloc hb.size (.cells #[.int .u8 x] 5)
   have hll:(F.take (4 - (j+1))).length≤4:=by rw[List.length_take];omega
   obtain ⟨ys,hys⟩:∃ys,F.take (4 - (j+1))=ys:=⟨_,rfl⟩
   have Hys:=hid hys
   rw[hys] at ho3 hll
   clear hys ho hx
   go_wp2_with (at_builtin;refine wpList_append_rd (k:= .u8) rfl _ _ 29 rfl w.heap.size 5 i0 1 Tryz.underlying29 hi hz0 hz1 hz2 _ ys rfl ho3 _ [x] rfl (rd_one _ x 5) (by unfold maxLen;simp;omega) (by simp;omega) hb3.size ?_;intro v4 w4 ho4 hg4)
   go_roundw
   case rel=>
    refine ⟨j,by omega,by go_num, ?_,below_grown hb3 hg4 (fun k hk=>(ho3.lt k hk).1)⟩
    rw[hs2.out,Hys.out]
    exact ho4
   case measure=>simp[intOf]
set_option maxHeartbeats 1000000 in
set_option maxRecDepth 100000 in
theorem w_rdecint (v:Value) (xs:List Int) (wo w:World) (hwo:Rd .u8 wo v xs) (hbo:Below wo.heap.size wo w) (hB:bytesL xs) (hz:xs.length≤140737488355328):
  Calls Tryz.prog 29 #[v] w fun e w'=>∃v1,e= .returned (.tuple #[.int .u32 (deIF xs).1,v1, .int .i64 (deIF xs).2.2])∧Rd .u8 wo v1 (deIF xs).2.1∧Below w.heap.size w w':=by
 have h:=hwo.below hbo
 have hlen:=rd_len h uB (P:=Tryz.prog)
 by_cases h4:(xs.length:Int) < 4
 ·have e:deIF xs=(0,[],2):=by unfold deIF;rw[if_pos (by omega)]
  rw[e]
  clear e
  go_enter Tryz.func29,Tryz.ntmps29
  go_wp2_with fail
  go_ret3
  exact ⟨_,rfl,Rd_nil,Below.refl _ _⟩
 ·have e:deIF xs=(beV (xs.take 4),xs.drop 4,0):=by unfold deIF;rw[if_neg (by omega)]
  rw[e]
  obtain ⟨ad0,b0,r0,c0,l0,u0,g0⟩:=mem_at h hB 0 (by omega) (by omega)
  obtain ⟨ad1,b1,r1,c1,l1,u1,g1⟩:=mem_at h hB 1 (by omega) (by omega)
  obtain ⟨ad2,b2,r2,c2,l2,u2,g2⟩:=mem_at h hB 2 (by omega) (by omega)
  obtain ⟨ad3,b3,r3,c3,l3,u3,g3⟩:=mem_at h hB 3 (by omega) (by omega)
  have ev:beV (xs.take 4)=((b0*256+b1)*256+b2)*256+b3:=by
   have e4:=take_more xs 0 3 (by omega)
   rw[take_more xs 1 2 (by omega),take_more xs 2 1 (by omega),take_one xs 3 (by omega)] at e4
   simp only[Int.toNat_zero,show (1:Int).toNat=1 from rfl,show (2:Int).toNat=2 from rfl,show (3:Int).toNat=3 from rfl] at g0 g1 g2 g3
   rw[g0,g1,g2,g3] at e4
   rw[show xs.take 4=(xs.drop 0).take (3+1) by simp,e4]
   simp[beV]
  obtain ⟨R,hR⟩:∃R,beV (xs.take 4)=R:=⟨_,rfl⟩
  have HR:=hid (hR.symm.trans ev)
  obtain ⟨va,ra,_,_,c5⟩:=rd_cutI hwo uB zB 4 xs.length (by omega) (by omega) (by omega)
  rw[show (4:Int).toNat=4 from rfl,List.take_of_length_le (by simp;omega)] at ra
  have c5':=c5 rfl
  obtain ⟨D,hD⟩:∃D,xs.drop 4=D:=⟨_,rfl⟩
  rw[hD] at ra
  show Calls _ _ _ _ fun e w'=>∃v1,e= .returned (.tuple #[.int .u32 (beV (xs.take 4)),v1, .int .i64 0])∧Rd .u8 wo v1 (xs.drop 4)∧_
  rw[hR,hD]
  clear e hD ev hR c5 g0 g1 g2 g3
  go_enter Tryz.func29,Tryz.ntmps29
  go_wp2_with fail
  go_rounds 5
  go_quiet (fail)
  go_wp2_with fail
  go_ret3
  rw[HR.out]
  exact ⟨va,rfl,ra,below_drewN (Below.refl _ _) _⟩
set_option maxHeartbeats 1000000 in
theorem w_psum (v:Value) (xs:List Int) (w:World) (h:Rd .u8 w v xs) (hb:bytesL xs) (hz:xs.length≤140737488355328):
  Calls Tryz.prog 48 #[v] w fun e w'=>e= .returned (.int .i64 (sumF xs))∧w'=w:=by
 have hlen:=rd_len h uB (P:=Tryz.prog)
 go_enter Tryz.func48,Tryz.ntmps48
 go_wp2_with fail
 go_loopw [3,8] (fun U I wx=>∃k:Nat,(k:Int)≤xs.length∧I= .int .i64 k∧U= .int .u16 (sumF (xs.take k))∧wx=w) (fun _ I _=>(xs.length - intOf I).toNat)
 case atStart=>exact ⟨0,by omega,rfl,rfl,rfl⟩
 case round=>
  obtain ⟨k,hk,rfl,rfl,rfl⟩:=hrel
  by_cases hlt:(k:Int) < xs.length
  ·obtain ⟨ad,b,q1,q2,q3,q4,q5⟩:=mem_at h hb k (by omega) (by omega)
   have hkk:k < xs.length:=by omega
   have hsm:=sum_bd (xs.take k)
   have hnx:Hid (sumF (xs.take (k+1))=(sumF (xs.take k)+b)%65536):=by
    show _=_
    rw[List.take_succ_eq_append_getElem hkk,sum_snoc]
    congr 2
    rw[←q5,List.getD_eq_getElem?_getD]
    simp[hkk]
   obtain ⟨a,ha⟩:∃a,sumF (xs.take k)=a:=⟨_,rfl⟩
   rw[ha] at hsm hnx ⊢
   obtain ⟨m0,m1⟩:=hsm
   have hw:IntKind.u16.wrap (a+b)=(a+b)%65536:=by rw[IntKind.wrap_u16]
   clear ha q5
   go_wp2_with fail
   go_roundw
   case rel=>exact ⟨k+1,by omega,by go_num,by rw[hnx.out],trivial⟩
   case measure=>simp[intOf];omega
  ·have e:Hid (xs.take k=xs):=List.take_of_length_le (by omega)
   have hsm:=sum_bd (xs.take k)
   obtain ⟨m0,m1⟩:=hsm
   go_wp2_with fail
   go_ret
   rw[e.out]
   exact ⟨rfl,rfl⟩
set_option maxHeartbeats 1000000 in
theorem w_pmark (wide:Bool) (w:World):Calls Tryz.prog 49 #[.bool wide] w fun e w'=>e= .returned (.int .u8 (mkFh wide))∧w'=w:=by
 cases wide
 all_goals go_enter Tryz.func49,Tryz.ntmps49
 all_goals go_wp2_with fail
 all_goals go_ret
 all_goals exact ⟨rfl,rfl⟩
end Go.Proofs.YtkkehbdahniiaaaGreatDoor
