import Derived.Test.YtkkehbdahniiaaaGreatDoorB10
set_option linter.unusedVariables false
set_option linter.unusedSimpArgs false
set_option maxRecDepth 100000
namespace Go.Proofs.YtkkehbdahniiaaaGreatDoor
open Go.ChangeShapes Go.WideShapes Go.ChangeAt Go.RowKit
theorem cutL_two (X:List Int) (i:Nat) (h:i+1 < X.length):cutL X i (i+2)=[X[i]'(by omega),X[i+1]]:=by
 rw[cutL_app X i (i+1) (i+2) (by omega) (by omega),cutL_one X i (by omega),cutL_one X (i+1) h]
 rfl
theorem num_ab (a b:Int):num 16 [a,b]=vl a 16*16+vl b 16:=by simp[num]
theorem allD_ab (a b:Int):allD 16 [a,b]=(isD a 16&&isD b 16):=by simp[allD]
set_option maxHeartbeats 2000000 in
set_option maxRecDepth 100000 in
theorem w_decode (s:ByteArray) (w:World) (hs:s.size≤140737488355328) (hT:Tab w):
  Calls Tryz.prog 99 #[.string s] w fun e w'=>∃v E,e= .returned (.tuple #[v, .int .i64 E])∧(E=15∧hexG none (L s)=none∨E=0∧∃b,hexG none (L s)=some b∧Rd .u8 w' v b∧b.length≤s.size)∧Below w.heap.size w w':=by
 obtain ⟨i0,hi,hz0,hz1,hz2⟩:=info_parts infoU8
 have cw:=w_noblanks s w hs
 have hfb:=filB_bytes (LB_bytes s)
 have hfl:=filB_len (L s)
 rw[L_len] at hfl
 have hhx:=(hex_pair (L s)).1
 rw[hhx]
 obtain ⟨D,hD⟩:∃D,strOfNums (filB (L s))=D:=⟨_,rfl⟩
 have hDL:L D=filB (L s):=by rw[←hD];exact LB_nums _ hfb
 rw[hD] at cw
 rw[←hDL] at hfl ⊢
 rw[L_len] at hfl
 clear hD hDL hfb hhx
 have hmD:D.size≤maxLen:=by unfold maxLen;omega
 obtain ⟨n,hn⟩:∃n,D.size / 2=n:=⟨_,rfl⟩
 have hq:(D.size:Int).tdiv 2=n:=by rw[Int.tdiv_eq_ediv_of_nonneg (by omega)];omega
 by_cases hodd:D.size%2=1
 ·have e:=hid (pair_odd (L D) (by rw[L_len];exact hodd))
  have hr:(D.size:Int).tmod 2=1:=by rw[Int.tmod_eq_emod_of_nonneg (by omega)];omega
  clear hodd hq
  go_enter Tryz.func99,Tryz.ntmps99
  go_wp2_with (go_at_call 109;refine cw.mono ?_;rintro e w1 ⟨rfl,b1⟩)
  go_ret2
  exact ⟨_,_,rfl,Or.inl ⟨rfl,e.out⟩,b1⟩
 ·have hr:(D.size:Int).tmod 2=0:=by rw[Int.tmod_eq_emod_of_nonneg (by omega)];omega
  have hDn:D.size=2*n:=by omega
  obtain ⟨O,hO⟩:∃O,pairF (L D)=O:=⟨_,rfl⟩
  rw[hO]
  have HO:=hid hO
  clear hodd hO
  go_enter Tryz.func99,Tryz.ntmps99
  go_wp2_with (go_at_call 109;refine cw.mono ?_;rintro e w1 ⟨rfl,b1⟩)
  go_loopw [4,17] (fun U I wx=>∃(k:Nat) (ys:List Int),(k:Int)≤n∧I= .int .i64 k∧Hid (O=(pairF ((L D).drop (2*k))).map (ys++·))∧(ys.length:Int)=k∧Own8 w.heap.size wx U ys∧Below w.heap.size w wx) (fun _ I _=>(n - intOf I).toNat)
  case atStart=>exact ⟨0,[],by omega,rfl,hid (by rw[←HO.out];simp),rfl,World.ownsRow_nil _ _ _ _,b1⟩
  case round=>
   obtain ⟨k,ys,hk,rfl,hin,hyl,ho,hb⟩:=hrel
   by_cases hlt:(k:Int) < n
   ·have hTb:=hT.below hb
    have hkl:2*k+1 < (L D).length:=by rw[L_len];omega
    obtain ⟨C,hC0,hCL,hCs⟩:=str_part D (2*k) (2*k+2) (by omega) (by omega)
    have hC:∀w,(Instr.slice 9 (.string D) (some (.int .i64 (2*(k:Int)))) (some (.int .i64 (2*(k:Int)+2))) none).run Tryz.prog w= .ok (.string C) w:=hC0
    have hp:=pair_at (L D) k hkl
    have hC2:C.size=2:=by omega
    have hbd:=num_two (L C) (LB_bytes C) (by rw[L_len];omega)
    have hall:allD 16 (L C)=(isD ((L D)[2*k]'(by omega)) 16&&isD (L D)[2*k+1] 16):=by rw[hCL,cutL_two (L D) (2*k) hkl,allD_ab]
    have hnum:num 16 (L C)=vl ((L D)[2*k]'(by omega)) 16*16+vl (L D)[2*k+1] 16:=by rw[hCL,cutL_two (L D) (2*k) hkl,num_ab]
    rw[←hall,←hnum] at hp
    clear hC0 hCL hall hnum
    cases hok:allD 16 (L C)
    ·have c:=fun w hT=>w_spu_no C w hC2 hok hT
     have e:Hid (O=none):=by show _=_;rw[hin.out,hp,hok];simp
     clear hok hp hbd
     go_wp2_with (go_at_call 110;refine (c _ hTb).mono ?_;rintro e w2 ⟨Tt,pp,rfl,b2⟩)
     go_ret2
     exact ⟨_,_,rfl,Or.inl ⟨rfl,e.out⟩,below_trans hb b2⟩
    ·have c:=fun w=>w_spu_ok C w hC2 hok
     obtain ⟨x,hx⟩:∃x,num 16 (L C)=x:=⟨_,rfl⟩
     simp only[hx] at c hbd hp
     obtain ⟨x0,x1⟩:=hbd
     have hin2:Hid (O=(pairF ((L D).drop (2*(k+1)))).map ((ys++[x])++·)):=by
      show _=_
      rw[hin.out,hp,hok]
      simp[Function.comp_def]
     clear hok hp hx
     go_wp2_with (first
      |(go_at_call 110;refine (c _).mono ?_;rintro e w2 ⟨rfl,b2⟩;have ho2:=own_below ho b2;have hb2:=below_trans hb b2;have ho3:=World.ownsRow.alloc ho2 (.cells #[.int .u8 x] 5);have hb3:=hb2.alloc hb2.size (.cells #[.int .u8 x] 5))
      |(at_builtin;refine wpList_append_rd (k:= .u8) rfl _ _ 29 rfl w.heap.size 5 i0 1 Tryz.underlying29 hi hz0 hz1 hz2 _ ys rfl ho3 _ [x] rfl (rd_one _ x 5) (by unfold maxLen;simp only[List.length_cons,List.length_nil];omega) (by simp only[List.length_cons,List.length_nil];omega) hb3.size ?_;intro v4 w4 ho4 hg4))
     go_roundw
     case rel=>exact ⟨k+1,ys++[x],by omega,by go_num,hin2,by simp;omega,ho4,below_grown hb3 hg4 (fun k hk=>(World.ownsRow.lt ho2 k hk).1)⟩
     case measure=>simp[intOf];omega
   ·have e:Hid (O=some ys):=by
     show _=_
     rw[hin.out,List.drop_of_length_le (by rw[L_len];omega)]
     simp[pairF]
    go_wp2_with fail
    go_ret2
    exact ⟨_,_,rfl,Or.inr ⟨rfl,ys,e.out,(Rd_own ho).1,by omega⟩,hb⟩
set_option maxHeartbeats 4000000 in
set_option maxRecDepth 100000 in
theorem w_unquote (s:ByteArray) (i:Nat) (w:World) (hs:s.size≤140737488355328) (hi:i≤s.size) (hT:Tab w):
  Calls Tryz.prog 83 #[.string s, .int .i64 i] w fun e w'=>∃(v:Value) (j:Nat) (E:Int),e= .returned (.tuple #[v, .int .i64 j, .int .i64 E])∧(E=15∧QE (L s) i 15∨E=0∧∃ys,QQ (L s) i j ys∧bytesL ys∧Rd .u8 w' v ys)∧Below w.heap.size w w':=by
 have hm:s.size≤maxLen:=by unfold maxLen;omega
 obtain ⟨i0,hi0,hz0,hz1,hz2⟩:=info_parts infoU8
 go_enter Tryz.func83,Tryz.ntmps83
 go_wp2_with fail
 go_loopw [1,7] (fun I U wx=>∃(j:Nat) (ys:List Int),(j:Int)≤s.size∧I= .int .i64 j∧Hid (QS (L s) i j ys)∧Hid (bytesL ys)∧(ys.length:Int)≤j∧Own8 w.heap.size wx U ys∧Below w.heap.size w wx) (fun I _ _=>(s.size+1 - intOf I).toNat)
 case atStart=>exact ⟨i,[],by omega,rfl,hid (QS_start (L s) i (by rw[L_len];exact hi)),hid (fun x hx=>by simp at hx),by simp,World.ownsRow_nil _ _ _ _,Below.refl _ _⟩
 case round=>
  obtain ⟨j,ys,hj,rfl,hQ,hyb,hyl,ho,hb⟩:=hrel
  have hTb:=hT.below hb
  obtain ⟨T0,hT0,hT0L,hT0s⟩:=str_tail s j (by omega)
  have ci:=fun w=>w_sib T0 34 w (by decide) (by decide)
  rw[hT0L] at ci
  clear hT0L
  go_wp2_with (go_at_call 81;refine (ci _).mono ?_;rintro e w1 ⟨n,rfl,hn,rfl⟩;refine Hid.out ?_)
  have hnx:=at_nx hn (by rw[L_len];omega)
  rw[L_len] at hnx
  clear hn ci
  rcases hnx with ⟨rfl,h2⟩|⟨k,rfl,h2,h3⟩
  ·have e:=hid (QS_open hQ.out (by rw[h2,L_len]))
   clear h2
   refine hid ?_
   go_wp2_with fail
   go_ret3
   exact ⟨_,0,15,rfl,Or.inl ⟨rfl,e.out⟩,hb⟩
  ·have HK:=hid h2
   clear h2
   obtain ⟨T,hT1,hTL,hTs⟩:=str_part s j (j+k) (by omega) (by omega)
   have hTr:∀w,(Instr.slice 9 (.string s) (some (.int .i64 (j:Int))) (some (.int .i64 ((j:Int)+k))) none).run Tryz.prog w= .ok (.string T) w:=hT1
   have hys2:Hid (ys++LB T=ys++cutL (L s) j (j+k)):=by show _=_;rw[←hTL];rfl
   clear hTL hT1
   obtain ⟨Y,hY⟩:∃Y,ys++LB T=Y:=⟨_,rfl⟩
   have hYl:(Y.length:Int)=ys.length+T.size:=by rw[←hY,List.length_append,LB_len];omega
   have hYb:Hid (bytesL Y):=by show bytesL Y;rw[←hY];exact bytes_join hyb.out (LB_bytes T)
   rw[hY] at hys2
   have HY:=hid hY
   clear hY
   have hkI:(j:Int)+k < s.size:=by omega
   by_cases hlast:(j:Int)+(k+1) < s.size
   ·obtain ⟨c,hr,c0,c1,hc,_⟩:=str_byte s (j+k+1) (by omega) hm
    have hr':∀w,(Instr.index 9 (.string s) (.int .i64 ((j:Int)+((k:Int)+1)))).run Tryz.prog w= .ok (.int .u8 c) w:=hr
    have hnx:j+k+1 < (L s).length:=by rw[L_len];omega
    have hne:((j:Int)+((k:Int)+1)==s.size)=false:=by simp;omega
    by_cases h40:c=40
    ·subst h40
     have cc:∀w,Calls Tryz.prog 57 #[.string s, .int .i64 ((j:Int)+((k:Int)+1)+1)] w _:=fun w=>w_closed s (j+k+2) w hm (by omega)
     have hhx:=nx_hex HK.out hnx hc
     refine hid ?_
     go_wp2_with (first
      |(at_builtin;refine wpList_append_rds rfl _ _ 29 9 rfl w.heap.size 5 i0 Tryz.underlying29 Tryz.underlying9 hi0 hz0 hz1 hz2 _ ys rfl ho T rfl (by unfold maxLen;omega) (by omega) hb.size ?_;intro v2 w2 ho2 hg2;have hb2:=below_grown hb hg2 (fun k hk=>(ho.lt k hk).1);rw[HY.out] at ho2)
      |(go_at_call 57;refine (cc _).mono ?_;rintro e w3 ⟨D,bb,E,rfl,hcl,rfl⟩;refine Hid.out ?_))
     rcases hcl with ⟨rfl,h1⟩|⟨rfl,m,rfl,h1,h2,hml,hDL,hDs⟩
     ·have e:=hid (QK_hopen hQ.out HK.out hnx hc (by rw[hhx,h1,L_len]))
      refine hid ?_
      clear h1 hc hr hhx
      go_wp2_with fail
      go_ret3
      exact ⟨_,0,15,rfl,Or.inl ⟨rfl,e.out⟩,hb2⟩
     ·rw[h1] at hhx
      have cd:=fun w hT=>w_decode D w (by omega) hT
      rw[hDL] at cd
      have EB:=fun h3=>hid (QK_hbad hQ.out HK.out hnx hc hhx (by rw[L_len];omega) h3)
      have EC:=fun b h3=>hid (QK_hon (b:=b) hQ.out HK.out hnx hc hhx (by rw[L_len];omega) h3)
      have hTb2:=hT.below hb2
      have hDb:=LB_bytes D
      refine hid ?_
      clear h1 hc hr hhx
      have HDL:=hid hDL
      clear hDL
      go_wp2_with (go_at_call 99;refine (cd _ hTb2).mono ?_;rintro e w4 ⟨v4,E4,rfl,h4,b4⟩;refine Hid.out ?_)
      rcases h4 with ⟨rfl,h4⟩|⟨rfl,b,h4,r4,hbl⟩
      ·have e:=EB h4
       refine hid ?_
       clear EB EC h4 cd
       go_wp2_with fail
       go_ret3
       exact ⟨_,0,15,rfl,Or.inl ⟨rfl,e.out⟩,below_trans hb2 b4⟩
      ·have e:=EC b h4
       have hys3:Hid (QS (L s) i (m+1) (Y++b)):=by show QS _ _ _ _;rw[hys2.out];exact e.out
       have hb5:Hid (bytesL (Y++b)):=bytes_join hYb.out (hexG_bytes _ none b (by rw[←HDL.out];exact hDb) (fun n hn=>by cases hn) h4)
       have ho4:=own_below ho2 b4
       have hb4:=below_trans hb2 b4
       refine hid ?_
       clear EB EC h4 cd e
       go_wp2_with (at_builtin;refine wpList_append_rd (k:= .u8) rfl _ _ 29 rfl w.heap.size 5 i0 1 Tryz.underlying29 hi0 hz0 hz1 hz2 _ Y rfl ho4 _ b rfl r4 (by unfold maxLen;omega) (by omega) hb4.size ?_;intro v5 w5 ho5 hg5)
       go_roundw
       case rel=>exact ⟨m+1,Y++b,by omega,by go_num,hys3,hb5,by rw[List.length_append];omega,ho5,below_grown hb4 hg5 (fun k hk=>(ho4.lt k hk).1)⟩
       case measure=>simp[intOf];omega
    ·have hcb:(c !=40)=true:=by simp[h40]
     have e:=hid (QQ_of hQ.out HK.out (by rw[L_len];omega) (fun g=>by rw[hc];exact h40))
     refine hid ?_
     clear hc hr
     go_wp2_with (at_builtin;refine wpList_append_rds rfl _ _ 29 9 rfl w.heap.size 5 i0 Tryz.underlying29 Tryz.underlying9 hi0 hz0 hz1 hz2 _ ys rfl ho T rfl (by unfold maxLen;omega) (by omega) hb.size ?_;intro v2 w2 ho2 hg2;have hb2:=below_grown hb hg2 (fun k hk=>(ho.lt k hk).1);rw[HY.out] at ho2)
     go_ret3
     refine ⟨_,j+k+1,0,rfl,Or.inr ⟨rfl,Y, ?_,hYb.out,(Rd_own ho2).1⟩,hb2⟩
     rw[hys2.out]
     exact e.out
   ·have hne:((j:Int)+((k:Int)+1)==s.size)=true:=by simp;omega
    have e:=hid (QQ_of hQ.out HK.out (by rw[L_len];omega) (fun g=>absurd g (by rw[L_len];omega)))
    refine hid ?_
    go_wp2_with (at_builtin;refine wpList_append_rds rfl _ _ 29 9 rfl w.heap.size 5 i0 Tryz.underlying29 Tryz.underlying9 hi0 hz0 hz1 hz2 _ ys rfl ho T rfl (by unfold maxLen;omega) (by omega) hb.size ?_;intro v2 w2 ho2 hg2;have hb2:=below_grown hb hg2 (fun k hk=>(ho.lt k hk).1);rw[HY.out] at ho2)
    go_ret3
    refine ⟨_,j+k+1,0,rfl,Or.inr ⟨rfl,Y, ?_,hYb.out,(Rd_own ho2).1⟩,hb2⟩
    rw[hys2.out]
    exact e.out
set_option maxHeartbeats 2000000 in
set_option maxRecDepth 100000 in
theorem w_quoted (s:ByteArray) (i:Nat) (w:World) (hs:s.size≤140737488355328) (hi:i≤s.size) (hT:Tab w):
  Calls Tryz.prog 59 #[.string s, .int .i64 i] w fun e w'=>∃(T:ByteArray) (b:Nat) (E:Int),e= .returned (.tuple #[.string T, .int .i64 b, .int .i64 E])∧(E=15∧i=s.size∨i < s.size∧((E=3∨E=15)∧(∃F,(E=F∨E=3∧F=15)∧QE (L s) (i+1) F)∨E=0∧QO (L s) (i+1) b (L T)))∧Below w.heap.size w w':=by
 have hm:s.size≤maxLen:=by unfold maxLen;omega
 by_cases he:i=s.size
 ·have heb:((i:Int)==s.size)=true:=by simp;omega
  have HE:=hid he
  clear he
  go_enter Tryz.func59,Tryz.ntmps59
  go_wp2_with fail
  go_ret3
  exact ⟨_,0,_,rfl,Or.inl ⟨rfl,HE.out⟩,Below.refl _ _⟩
 ·have heb:((i:Int)==s.size)=false:=by simp;omega
  have hil:i < s.size:=by omega
  have cc:∀w,Tab w→Calls Tryz.prog 83 #[.string s, .int .i64 ((i:Int)+1)] w _:=fun w hT=>w_unquote s (i+1) w hs (by omega) hT
  go_enter Tryz.func59,Tryz.ntmps59
  go_wp2_with (go_at_call 83;refine (cc _ hT).mono ?_;rintro e w1 ⟨v,j,E,rfl,hq,b1⟩;refine Hid.out ?_)
  rcases hq with ⟨rfl,h1⟩|⟨rfl,ys,h1,hyb,r1⟩
  ·refine hid ?_
   have H1:=hid h1
   clear h1
   go_wp2_with fail
   go_ret3
   exact ⟨_,0,_,rfl,Or.inr ⟨hil,Or.inl ⟨Or.inr rfl,15,Or.inl rfl,H1.out⟩⟩,b1⟩
  ·have hjl:j≤s.size:=by have:=h1.2.1;rw[L_len] at this;exact this
   have hlo:=rd_len r1 uB (P:=Tryz.prog)
   have cs:=rd_strT r1
   have hns:L (strOfNums ys)=ys:=LB_nums ys hyb
   obtain ⟨Y,hY⟩:∃Y,strOfNums ys=Y:=⟨_,rfl⟩
   rw[hY] at cs hns
   have H1:=hid h1
   have HN:=hid hns
   clear h1 hY hns
   refine hid ?_
   by_cases h255:(255:Int) < ys.length
   ·have e:=hid (QQ_err H1.out (by omega))
    go_wp2_with fail
    go_ret3
    obtain ⟨F,hF,hE⟩:=e.out
    exact ⟨_,0,_,rfl,Or.inr ⟨hil,Or.inl ⟨Or.inl rfl,F,by omega,hE⟩⟩,b1⟩
   ·by_cases hjs:(j:Int) < s.size
    ·obtain ⟨c,hr,c0,c1,hc,_⟩:=str_byte s j (by omega) hm
     have cb:=fun w=>w_blank c w c0 c1
     have hg:j < (L s).length:=by rw[L_len];omega
     by_cases h32:c≤32
     ·have hbl:blC c=true:=by simp[blC,h32]
      rw[hbl] at cb
      have e:=hid (QQ_done H1.out (by omega) (fun g=>by rw[hc];exact h32))
      clear hc hbl
      go_wp2_with (go_at_call 55;refine (cb _).mono ?_;rintro e w2 ⟨rfl,rfl⟩)
      go_ret3
      exact ⟨Y,j,_,rfl,Or.inr ⟨hil,Or.inr ⟨rfl,by rw[HN.out];exact e.out⟩⟩,b1⟩
     ·have hbl:blC c=false:=by simp[blC];omega
      rw[hbl] at cb
      have e:=hid (QQ_wrong H1.out hg (by rw[hc];exact h32))
      clear hc hbl
      go_wp2_with (go_at_call 55;refine (cb _).mono ?_;rintro e w2 ⟨rfl,rfl⟩)
      go_ret3
      exact ⟨_,0,_,rfl,Or.inr ⟨hil,Or.inl ⟨Or.inr rfl,15,Or.inl rfl,e.out⟩⟩,b1⟩
    ·have e:=hid (QQ_done H1.out (by omega) (fun g=>absurd g (by rw[L_len];omega)))
     go_wp2_with fail
     go_ret3
     have q:QO (L s) (i+1) j (L Y):=by rw[HN.out];exact e.out
     first
      |exact ⟨Y,j,_,rfl,Or.inr ⟨hil,Or.inr ⟨rfl,q⟩⟩,b1⟩
      |exact ⟨Y,j,0,rfl,Or.inr ⟨hil,Or.inr ⟨rfl,q⟩⟩,b1⟩
      |exact ⟨Y,j,0,rfl,Or.inr (Or.inr ⟨rfl,q⟩),b1⟩
      |exact ⟨Y,j,0,rfl,Or.inr ⟨rfl,q⟩,b1⟩
def tkC (x:Tk):List Value:=[.int .i64 x.1, .string (strOfNums x.2.1), .int .i64 x.2.2]
def tokR (_:World) (cs:List Value) (x:Tk):Prop:=cs=tkC x
def OwnT (base:Nat) (w:World) (v:Value) (ts:List Tk):Prop:=w.ownsRow base 77 3 v ts.length (ts.flatMap tkC)
theorem infoTok:(Tryz.prog.info? 77).map (fun i=>(i.zero,i.size,i.bytes))=some (some (.agg #[.int .i64 0, .string ⟨#[]⟩, .int .i64 0]),3,32):=by kernel_rfl
theorem own_tok {base:Nat} {w:World} {v:Value} {ts:List Tk} (h:OwnT base w v ts):SlR 3 tokR w v ts:=
 slr_rows tkC (fun _ _=>rfl) (by decide) h (fun _ _=>rfl)
theorem ownT_below {base:Nat} {w w':World} {v:Value} {ts:List Tk} (h:OwnT base w v ts) (g:Below w.heap.size w w'):OwnT base w' v ts:=by
 obtain ⟨hl,h⟩:=h
 refine ⟨hl, ?_⟩
 rcases h with h|⟨b,cap,cur,rfl,hb,hg,hc,hm,hs,ht⟩
 ·exact Or.inl h
 ·refine Or.inr ⟨b,cap,cur,rfl,hb, ?_,hc,hm,hs,ht⟩
  rw[g.block b (Array.getElem?_eq_some_iff.1 hg).1]
  exact hg
theorem ownT_snoc {base:Nat} {w:World} {v:Value} {ts:List Tk} {x:Tk} {row:List Value} (h:w.ownsRow base 77 3 v (ts.length+1) (ts.flatMap tkC++row)) (hr:row=tkC x):OwnT base w v (ts++[x]):=by
 subst hr
 unfold OwnT
 rw[List.flatMap_append,List.length_append]
 simpa using h
theorem tk_one (k p:Int) (M:ByteArray):∀u∈[Value.int .i64 k, .string M, .int .i64 p],u.oneCell'=true:=by
 intro u hu
 simp at hu
 rcases hu with rfl|rfl|rfl <;> rfl
set_option maxHeartbeats 4000000 in
set_option maxRecDepth 100000 in
theorem w_next (s:ByteArray) (i:Nat) (w:World) (hs:s.size≤140737488355328) (hi:i < s.size) (hT:Tab w) (hbi:¬(L s)[i]'(by rw[L_len];exact hi)≤32):
  Calls Tryz.prog 33 #[.string s, .int .i64 i] w fun e w'=>∃(k:Int) (T:ByteArray) (p:Int) (b:Nat) (E:Int),e= .returned (.tuple #[.agg #[.int .i64 k, .string T, .int .i64 p], .int .i64 b, .int .i64 E])∧(E=0∧NxOk (L s) i k (L T) p b∨NxNo (L s) i E)∧Below w.heap.size w w':=by
 have hm:s.size≤maxLen:=by unfold maxLen;omega
 have hCR:=fun ts=>CR_all (L s) ts i (by rw[L_len];exact hi) hbi
 have hle:=fd_le blC (L s) i (by rw[L_len];omega)
 rw[L_len] at hle
 have cf:=fun w=>w_find_blank s i w hm (by omega)
 obtain ⟨n,hn⟩:∃n,fdF blC (L s) i=n:=⟨_,rfl⟩
 simp only[hn] at hCR hle cf
 obtain ⟨hin,hWE, -⟩:=hCR []
 have hCW:=fun ts=>(hCR ts).2.2
 obtain ⟨T,hTr,hTL,hTs⟩:=str_part s i n (by omega) hle
 simp only[←hTL] at hCW
 clear hn hCR hbi hTL
 have hTB:Tab (w.alloc (.cells #[.int .i64 0, .string ⟨#[]⟩, .int .i64 0] 77)):=hT.below (box_below w _)
 cases hsp:spec (L T)
 ·have hst:=spec_toList T
  rw[hsp] at hst
  simp only[Bool.false_eq,Bool.or_eq_false_iff] at hst
  obtain ⟨⟨⟨⟨n1,n2⟩,n3⟩,n4⟩,n5⟩:=hst
  have hR:Hid (NxOk (L s) i 1 ((L T).map sm) i n):=⟨hin,by rw[L_len];exact hle,fun ts=>by rw[hCW ts,CW_plain (L s) n (L T) i ts hWE hsp];rfl⟩
  have csm:=fun w=>w_small T w (by omega)
  obtain ⟨M,hM⟩:∃M,strOfNums ((L T).map sm)=M:=⟨_,rfl⟩
  have hML:L M=(L T).map sm:=by
   rw[←hM]
   refine LB_nums _ fun x hx=> ?_
   simp only[List.mem_map] at hx
   obtain ⟨c,hc,rfl⟩:=hx
   have:=LB_bytes T c hc
   exact sm_bd c this.1 this.2
  simp only[hM] at csm
  rw[←hML] at hR
  clear hM hML hsp hCW
  go_enter Tryz.func33,Tryz.ntmps33
  go_wp2_with (first|(go_at_call 31;refine (cf _).mono ?_;rintro e q1 ⟨rfl,rfl⟩)|(go_at_call 60;refine (csm _).mono ?_;rintro e w1 ⟨rfl,b1⟩;refine Hid.out ?_))
  have t0:Stands w1 w.heap.size #[.int .i64 0, .string ⟨#[]⟩, .int .i64 0] 77:=(stands_new w _ _).below b1
  have m0:=t0.cell 0 _ rfl
  have m1:=t0.cell 1 _ rfl
  have m2:=t0.cell 2 _ rfl
  have f1:=t0.free
  have bw:=below_trans (box_below w (.cells #[.int .i64 0, .string ⟨#[]⟩, .int .i64 0] 77)) b1
  refine hid ?_
  go_wp2_with fail
  obtain ⟨W5,hW5,s5,b5⟩:∃W5,(((w1.setCell ⟨w.heap.size,0,none⟩ (.int .i64 1)).setCell ⟨w.heap.size,1,none⟩ (.string M)).setCell ⟨w.heap.size,2,none⟩ (.int .i64 (i:Int)))=W5∧Stands W5 w.heap.size #[.int .i64 1, .string M, .int .i64 (i:Int)] 77∧Below w.heap.size w W5:=
   ⟨_,rfl,((t0.set 0 _).set 1 _).set 2 _,below_set (below_set (below_set bw _ 0 _ (Nat.le_refl _)) _ 1 _ (Nat.le_refl _)) _ 2 _ (Nat.le_refl _)⟩
  rw[hW5]
  have x0:=s5.cell 0 _ rfl
  have x1:=s5.cell 1 _ rfl
  have x2:=s5.cell 2 _ rfl
  refine bodyPost_ret (v:= .tuple #[.agg #[.int .i64 1, .string M, .int .i64 (i:Int)], .int .i64 (n:Int), .int .i64 0]) (by simp[results,Tryz.results33,go_sem,x0,x1,x2]) rfl ⟨_,_,_,n,_,rfl, ?_,b5⟩
  exact Or.inl ⟨rfl,hR.out⟩
 ·have hcs:L T=[92]∨L T=[40]∨L T=[46,40]∨L T=[34]∨L T=[46,34]:=by simpa [spec] using hsp
  have hTe:=toB_L T
  rcases hcs with h|h|h|h|h
  ·rw[h] at hTe hCW
   have eT:T=⟨#[92]⟩:=by rw[←hTe];rfl
   subst eT
   have cl:=fun w=>w_lineEnd s n w hm (by omega)
   clear hTe h hsp
   go_enter Tryz.func33,Tryz.ntmps33
   go_wp2_with (first|(go_at_call 31;refine (cf _).mono ?_;rintro e q1 ⟨rfl,rfl⟩)|(go_at_call 56;refine (cl _).mono ?_;rintro e q2 ⟨b,rfl,hb,rfl⟩;refine Hid.out ?_))
   have hR:Hid (NxOk (L s) i 0 (L ⟨#[]⟩) 0 b):=by
    have hge:=nx_ge (L s) n 10
    refine ⟨by omega,by rw[L_len];omega,fun ts=> ?_⟩
    rw[hCW ts,CW_line (L s) n i ts hWE,if_pos rfl]
    rcases hb with ⟨h1,h2⟩|⟨h1,h2⟩
    ·rw[h1]
    ·rw[CR_end (L s) _ ts (by rw[h1,L_len];omega),CR_end (L s) _ ts (by rw[h2,L_len];omega)]
   have t0:Stands _ w.heap.size #[.int .i64 0, .string ⟨#[]⟩, .int .i64 0] 77:=(stands_new w _ _).below (Below.refl _ (w.alloc (.cells #[.int .i64 0, .string ⟨#[]⟩, .int .i64 0] 77)))
   have m0:=t0.cell 0 _ rfl
   have m1:=t0.cell 1 _ rfl
   have m2:=t0.cell 2 _ rfl
   have f1:=t0.free
   have bw:=below_trans (box_below w (.cells #[.int .i64 0, .string ⟨#[]⟩, .int .i64 0] 77)) (Below.refl _ (w.alloc (.cells #[.int .i64 0, .string ⟨#[]⟩, .int .i64 0] 77)))
   refine hid ?_
   clear hCW hb
   go_wp2_with fail
   obtain ⟨W5,hW5,s5,b5⟩:∃W5,(w.alloc (.cells #[.int .i64 0, .string ⟨#[]⟩, .int .i64 0] 77))=W5∧Stands W5 w.heap.size #[.int .i64 0, .string ⟨#[]⟩, .int .i64 0] 77∧Below w.heap.size w W5:=⟨_,rfl,stands_new w _ _,box_below w _⟩
   rw[hW5]
   have x0:=s5.cell 0 _ rfl
   have x1:=s5.cell 1 _ rfl
   have x2:=s5.cell 2 _ rfl
   refine bodyPost_ret (v:= .tuple #[.agg #[.int .i64 0, .string ⟨#[]⟩, .int .i64 0], .int .i64 (b:Int), .int .i64 0]) (by simp[results,Tryz.results33,go_sem,x0,x1,x2]) rfl ⟨_,_,_,b,_,rfl, ?_,b5⟩
   exact Or.inl ⟨rfl,hR.out⟩
  ·rw[h] at hTe hCW
   have eT:T=⟨#[40]⟩:=by rw[←hTe];rfl
   subst eT
   have cl:=fun w=>w_closed s n w hm (by omega)
   clear hTe h hsp
   go_enter Tryz.func33,Tryz.ntmps33
   go_wp2_with (first|(go_at_call 31;refine (cf _).mono ?_;rintro e q1 ⟨rfl,rfl⟩)|(go_at_call 57;refine (cl _).mono ?_;rintro e q2 ⟨C,b,E,rfl,hb,rfl⟩;refine Hid.out ?_))
   have hR:Hid (E=0∧NxOk (L s) i 0 (L ⟨#[]⟩) 0 b∨NxNo (L s) i E):=by
    rcases hb with ⟨rfl,h1⟩|⟨rfl,m,rfl,h1,h2,h3,h4,h5⟩
    ·exact Or.inr ⟨15,Or.inl rfl,Or.inr rfl,fun ts=>by rw[hCW ts,CW_par (L s) n i ts hWE,h1,L_len,if_neg (by omega)]⟩
    ·exact Or.inl ⟨rfl,by omega,by rw[L_len];omega,fun ts=>by rw[hCW ts,CW_par (L s) n i ts hWE,h1,L_len,if_pos h3,if_pos rfl]⟩
   have t0:Stands _ w.heap.size #[.int .i64 0, .string ⟨#[]⟩, .int .i64 0] 77:=(stands_new w _ _).below (Below.refl _ (w.alloc (.cells #[.int .i64 0, .string ⟨#[]⟩, .int .i64 0] 77)))
   have m0:=t0.cell 0 _ rfl
   have m1:=t0.cell 1 _ rfl
   have m2:=t0.cell 2 _ rfl
   have f1:=t0.free
   have bw:=below_trans (box_below w (.cells #[.int .i64 0, .string ⟨#[]⟩, .int .i64 0] 77)) (Below.refl _ (w.alloc (.cells #[.int .i64 0, .string ⟨#[]⟩, .int .i64 0] 77)))
   refine hid ?_
   clear hCW hb
   go_wp2_with fail
   obtain ⟨W5,hW5,s5,b5⟩:∃W5,(w.alloc (.cells #[.int .i64 0, .string ⟨#[]⟩, .int .i64 0] 77))=W5∧Stands W5 w.heap.size #[.int .i64 0, .string ⟨#[]⟩, .int .i64 0] 77∧Below w.heap.size w W5:=⟨_,rfl,stands_new w _ _,box_below w _⟩
   rw[hW5]
   have x0:=s5.cell 0 _ rfl
   have x1:=s5.cell 1 _ rfl
   have x2:=s5.cell 2 _ rfl
   refine bodyPost_ret (v:= .tuple #[.agg #[.int .i64 0, .string ⟨#[]⟩, .int .i64 0], .int .i64 (b:Int), .int .i64 E]) (by simp[results,Tryz.results33,go_sem,x0,x1,x2]) rfl ⟨_,_,_,b,_,rfl, ?_,b5⟩
   exact hR.out
  ·rw[h] at hTe hCW
   have eT:T=⟨#[46,40]⟩:=by rw[←hTe];rfl
   subst eT
   have cl:=fun w=>w_printed s n w hs (by omega)
   clear hTe h hsp
   go_enter Tryz.func33,Tryz.ntmps33
   go_wp2_with (first|(go_at_call 31;refine (cf _).mono ?_;rintro e q1 ⟨rfl,rfl⟩)|(go_at_call 58;refine (cl _).mono ?_;rintro e w1 ⟨C,b,E,rfl,hb,b1⟩;refine Hid.out ?_))
   have hR:Hid (E=0∧NxOk (L s) i 3 (L C) i b∨NxNo (L s) i E):=by
    rcases hb with ⟨rfl,h1⟩|⟨hns,m,h1,h2,h3,h4⟩
    ·refine Or.inr ⟨15,Or.inl rfl,Or.inr rfl,fun ts=> ?_⟩
     rw[hCW ts]
     by_cases hne:n=s.size
     ·exact CW_none (L s) n _ i ts (by rw[L_len];exact hne) (Or.inl rfl)
     ·have hbk:blkF (L s) n=true:=by
       rcases hWE with h|h
       ·rw[L_len] at h;omega
       ·exact h
      rw[CW_show (L s) n i ts hbk,L_len,if_neg (by omega)]
    ·have hbk:blkF (L s) n=true:=by
      rcases hWE with h|h
      ·rw[L_len] at h;omega
      ·exact h
     rcases h4 with ⟨rfl,h5⟩|⟨rfl,h5,rfl,h6⟩
     ·exact Or.inr ⟨3,Or.inl rfl,Or.inl rfl,fun ts=>by rw[hCW ts,CW_show (L s) n i ts hbk,h1,L_len,if_pos h3,if_pos h5]⟩
     ·exact Or.inl ⟨rfl,by omega,by rw[L_len];omega,fun ts=>by rw[hCW ts,CW_show (L s) n i ts hbk,h1,L_len,if_pos h3,if_neg (by omega),if_neg (by decide),h6]⟩
   have t0:Stands w1 w.heap.size #[.int .i64 0, .string ⟨#[]⟩, .int .i64 0] 77:=(stands_new w _ _).below b1
   have m0:=t0.cell 0 _ rfl
   have m1:=t0.cell 1 _ rfl
   have m2:=t0.cell 2 _ rfl
   have f1:=t0.free
   have bw:=below_trans (box_below w (.cells #[.int .i64 0, .string ⟨#[]⟩, .int .i64 0] 77)) b1
   refine hid ?_
   clear hCW hb
   go_wp2_with fail
   obtain ⟨W5,hW5,s5,b5⟩:∃W5,(((w1.setCell ⟨w.heap.size,0,none⟩ (.int .i64 3)).setCell ⟨w.heap.size,1,none⟩ (.string C)).setCell ⟨w.heap.size,2,none⟩ (.int .i64 (i:Int)))=W5∧Stands W5 w.heap.size #[.int .i64 3, .string C, .int .i64 (i:Int)] 77∧Below w.heap.size w W5:=
    ⟨_,rfl,((t0.set 0 _).set 1 _).set 2 _,below_set (below_set (below_set bw _ 0 _ (Nat.le_refl _)) _ 1 _ (Nat.le_refl _)) _ 2 _ (Nat.le_refl _)⟩
   rw[hW5]
   have x0:=s5.cell 0 _ rfl
   have x1:=s5.cell 1 _ rfl
   have x2:=s5.cell 2 _ rfl
   refine bodyPost_ret (v:= .tuple #[.agg #[.int .i64 3, .string C, .int .i64 (i:Int)], .int .i64 (b:Int), .int .i64 E]) (by simp[results,Tryz.results33,go_sem,x0,x1,x2]) rfl ⟨_,_,_,b,_,rfl, ?_,b5⟩
   exact hR.out
  ·rw[h] at hTe hCW
   have eT:T=⟨#[34]⟩:=by rw[←hTe];rfl
   subst eT
   have cl:=fun w hT=>w_quoted s n w hs (by omega) hT
   clear hTe h hsp
   go_enter Tryz.func33,Tryz.ntmps33
   go_wp2_with (first|(go_at_call 31;refine (cf _).mono ?_;rintro e q1 ⟨rfl,rfl⟩)|(go_at_call 59;refine (cl _ hTB).mono ?_;rintro e w1 ⟨C,b,E,rfl,hb,b1⟩;refine Hid.out ?_))
   have hR:Hid (E=0∧NxOk (L s) i 2 (L C) i b∨NxNo (L s) i E):=by
    rcases hb with ⟨rfl,h1⟩|⟨hns,h4⟩
    ·exact Or.inr ⟨15,Or.inl rfl,Or.inr rfl,fun ts=>by rw[hCW ts];exact CW_none (L s) n _ i ts (by rw[L_len];exact h1) (Or.inr (Or.inl rfl))⟩
    ·have hbk:blkF (L s) n=true:=by
      rcases hWE with h|h
      ·rw[L_len] at h;omega
      ·exact h
     have hq:=fun ts=>CW_quote (L s) n [34] 2 i ts hbk (Or.inl ⟨rfl,rfl⟩)
     rcases h4 with ⟨h5,F,hF,hQE⟩|⟨rfl,hQO⟩
     ·exact Or.inr ⟨F,hF,h5,fun ts=>by rw[hCW ts];exact (hq ts).1 F hQE⟩
     ·exact Or.inl ⟨rfl,by have:=hQO.1;omega,hQO.2.1,fun ts=>by rw[hCW ts,if_neg (by decide)];exact (hq ts).2 b _ hQO⟩
   have t0:Stands w1 w.heap.size #[.int .i64 0, .string ⟨#[]⟩, .int .i64 0] 77:=(stands_new w _ _).below b1
   have m0:=t0.cell 0 _ rfl
   have m1:=t0.cell 1 _ rfl
   have m2:=t0.cell 2 _ rfl
   have f1:=t0.free
   have bw:=below_trans (box_below w (.cells #[.int .i64 0, .string ⟨#[]⟩, .int .i64 0] 77)) b1
   refine hid ?_
   clear hCW hb
   go_wp2_with fail
   obtain ⟨W5,hW5,s5,b5⟩:∃W5,(((w1.setCell ⟨w.heap.size,0,none⟩ (.int .i64 2)).setCell ⟨w.heap.size,1,none⟩ (.string C)).setCell ⟨w.heap.size,2,none⟩ (.int .i64 (i:Int)))=W5∧Stands W5 w.heap.size #[.int .i64 2, .string C, .int .i64 (i:Int)] 77∧Below w.heap.size w W5:=
    ⟨_,rfl,((t0.set 0 _).set 1 _).set 2 _,below_set (below_set (below_set bw _ 0 _ (Nat.le_refl _)) _ 1 _ (Nat.le_refl _)) _ 2 _ (Nat.le_refl _)⟩
   rw[hW5]
   have x0:=s5.cell 0 _ rfl
   have x1:=s5.cell 1 _ rfl
   have x2:=s5.cell 2 _ rfl
   refine bodyPost_ret (v:= .tuple #[.agg #[.int .i64 2, .string C, .int .i64 (i:Int)], .int .i64 (b:Int), .int .i64 E]) (by simp[results,Tryz.results33,go_sem,x0,x1,x2]) rfl ⟨_,_,_,b,_,rfl, ?_,b5⟩
   exact hR.out
  ·rw[h] at hTe hCW
   have eT:T=⟨#[46,34]⟩:=by rw[←hTe];rfl
   subst eT
   have cl:=fun w hT=>w_quoted s n w hs (by omega) hT
   clear hTe h hsp
   go_enter Tryz.func33,Tryz.ntmps33
   go_wp2_with (first|(go_at_call 31;refine (cf _).mono ?_;rintro e q1 ⟨rfl,rfl⟩)|(go_at_call 59;refine (cl _ hTB).mono ?_;rintro e w1 ⟨C,b,E,rfl,hb,b1⟩;refine Hid.out ?_))
   have hR:Hid (E=0∧NxOk (L s) i 3 (L C) i b∨NxNo (L s) i E):=by
    rcases hb with ⟨rfl,h1⟩|⟨hns,h4⟩
    ·exact Or.inr ⟨15,Or.inl rfl,Or.inr rfl,fun ts=>by rw[hCW ts];exact CW_none (L s) n _ i ts (by rw[L_len];exact h1) (Or.inr (Or.inr rfl))⟩
    ·have hbk:blkF (L s) n=true:=by
      rcases hWE with h|h
      ·rw[L_len] at h;omega
      ·exact h
     have hq:=fun ts=>CW_quote (L s) n [46,34] 3 i ts hbk (Or.inr ⟨rfl,rfl⟩)
     rcases h4 with ⟨h5,F,hF,hQE⟩|⟨rfl,hQO⟩
     ·exact Or.inr ⟨F,hF,h5,fun ts=>by rw[hCW ts];exact (hq ts).1 F hQE⟩
     ·exact Or.inl ⟨rfl,by have:=hQO.1;omega,hQO.2.1,fun ts=>by rw[hCW ts,if_neg (by decide)];exact (hq ts).2 b _ hQO⟩
   have t0:Stands w1 w.heap.size #[.int .i64 0, .string ⟨#[]⟩, .int .i64 0] 77:=(stands_new w _ _).below b1
   have m0:=t0.cell 0 _ rfl
   have m1:=t0.cell 1 _ rfl
   have m2:=t0.cell 2 _ rfl
   have f1:=t0.free
   have bw:=below_trans (box_below w (.cells #[.int .i64 0, .string ⟨#[]⟩, .int .i64 0] 77)) b1
   refine hid ?_
   clear hCW hb
   go_wp2_with fail
   obtain ⟨W5,hW5,s5,b5⟩:∃W5,(((w1.setCell ⟨w.heap.size,0,none⟩ (.int .i64 3)).setCell ⟨w.heap.size,1,none⟩ (.string C)).setCell ⟨w.heap.size,2,none⟩ (.int .i64 (i:Int)))=W5∧Stands W5 w.heap.size #[.int .i64 3, .string C, .int .i64 (i:Int)] 77∧Below w.heap.size w W5:=
    ⟨_,rfl,((t0.set 0 _).set 1 _).set 2 _,below_set (below_set (below_set bw _ 0 _ (Nat.le_refl _)) _ 1 _ (Nat.le_refl _)) _ 2 _ (Nat.le_refl _)⟩
   rw[hW5]
   have x0:=s5.cell 0 _ rfl
   have x1:=s5.cell 1 _ rfl
   have x2:=s5.cell 2 _ rfl
   refine bodyPost_ret (v:= .tuple #[.agg #[.int .i64 3, .string C, .int .i64 (i:Int)], .int .i64 (b:Int), .int .i64 E]) (by simp[results,Tryz.results33,go_sem,x0,x1,x2]) rfl ⟨_,_,_,b,_,rfl, ?_,b5⟩
   exact hR.out
def ErrLike (E F:Int):Prop:=E=F∨E=3∧F=15
set_option maxHeartbeats 4000000 in
set_option maxRecDepth 100000 in
theorem w_pcutE (s:ByteArray) (w:World) (hs:s.size≤maxLen) (hT:Tab w):
  Calls Tryz.prog 19 #[.string s] w fun e w'=>∃(v:Value) (E:Int),e= .returned (.tuple #[v, .int .i64 E])∧ErrLike E (cutF (L s)).2∧SlR 3 tokR w' v (cutF (L s)).1∧Below w.heap.size w w':=by
 unfold maxLen at hs
 by_cases hlong:(4096:Int) < s.size
 ·have e:Hid (cutF (L s)=([],3)):=by show _=_;unfold cutF;rw[if_pos (by rw[L_len];omega)]
  go_enter Tryz.func19,Tryz.ntmps19
  go_wp2_with fail
  go_ret2
  rw[e.out]
  exact ⟨_,_,rfl,Or.inl rfl,SlR.nil,Below.refl _ _⟩
 ·have hst:=CR_start (L s) (by rw[L_len];omega)
  have hm:s.size≤maxLen:=by unfold maxLen;omega
  obtain ⟨i0,hi0,hz0,hz1,hz2⟩:=info_parts infoTok
  obtain ⟨A,F,hAF⟩:∃A F,cutF (L s)=(A,F):=⟨_,_,rfl⟩
  rw[hAF] at hst ⊢
  have HR:Hid (CR (L s) (fdF soC (L s) 0) []=(A,F)):=by show _=_;rw[←CR_skip (L s) [] _ 0 rfl,←hst]
  have cf:∀w,Calls Tryz.prog 31 #[.string s, .int .i64 0, .func (.func 32) #[] #[]] w _:=fun w=>w_find_solid s 0 w hm (by omega)
  have hle:=fd_le soC (L s) 0 (by omega)
  have hat:=fd_at soC (L s) _ 0 rfl
  rw[L_len] at hle
  obtain ⟨a0,ha0⟩:∃a0,fdF soC (L s) 0=a0:=⟨_,rfl⟩
  simp only[ha0] at HR cf hle hat
  have HA:Hid (∀h:a0 < (L s).length,soC (L s)[a0]=true):=hat
  show Calls _ _ _ _ fun e w'=>∃(v:Value) (E:Int),e= .returned (.tuple #[v, .int .i64 E])∧ErrLike E F∧SlR 3 tokR w' v A∧_
  clear hst hAF ha0 hat
  go_enter Tryz.func19,Tryz.ntmps19
  go_wp2_with (go_at_call 31;refine (cf _).mono ?_;rintro e q1 ⟨rfl,hq1⟩;have hq2:=hq1.symm;subst hq2)
  go_loopw [4,5] (fun U I wx=>∃(i:Nat) (ts:List Tk),(i:Int)≤s.size∧I= .int .i64 i∧Hid (∀h:i < (L s).length,soC (L s)[i]=true)∧Hid (CR (L s) i ts=(A,F))∧(ts.length:Int)≤i∧OwnT w.heap.size wx U ts∧Below w.heap.size w wx) (fun _ I _=>(s.size+1 - intOf I).toNat)
  case atStart=>exact ⟨a0,[],by omega,rfl,HA,HR,by simp,World.ownsRow_nil _ _ _ _,Below.refl _ _⟩
  case round=>
   obtain ⟨i,ts,hi,rfl,hso,hR,htl,ho,hb⟩:=hrel
   by_cases hlt:(i:Int) < s.size
   ·have hil:i < (L s).length:=by rw[L_len];omega
    have hnb:¬(L s)[i]≤32:=by have:=hso.out hil;simp[soC] at this;omega
    have cn:=w_next s i wr (by omega) (by omega) (hT.below hb) hnb
    clear hnb
    go_wp2_with (go_at_call 33;refine cn.mono ?_;rintro e w1 ⟨k,T,p,b,E,rfl,hN,b1⟩;refine Hid.out ?_)
    have ho1:=ownT_below ho b1
    have hb1:=below_trans hb b1
    rcases hN with ⟨rfl,hN⟩|hN
    ·obtain ⟨g1,g2,g3⟩:=hN
     rw[L_len] at g2
     have cf:∀w,Calls Tryz.prog 31 #[.string s, .int .i64 (b:Int), .func (.func 32) #[] #[]] w _:=fun w=>w_find_solid s b w hm (by omega)
     have hge2:=fd_ge soC (L s) b
     have hle2:=fd_le soC (L s) b (by rw[L_len];omega)
     have hat:=fd_at soC (L s) _ b rfl
     rw[L_len] at hle2
     have hR2:CR (L s) (fdF soC (L s) b) (if k=0 then ts else ts++[(k,L T,p)])=(A,F):=by rw[←CR_skip (L s) _ _ b rfl,←g3 ts];exact hR.out
     obtain ⟨a1,ha1⟩:∃a1,fdF soC (L s) b=a1:=⟨_,rfl⟩
     simp only[ha1] at cf hge2 hle2 hat hR2
     have HA1:Hid (∀h:a1 < (L s).length,soC (L s)[a1]=true):=hat
     clear hat ha1 g3
     have sx:=stands_new w1 #[.int .i64 k, .string T, .int .i64 p] 77
     have x0:=sx.cell 0 _ rfl
     have x1:=sx.cell 1 _ rfl
     have x2:=sx.cell 2 _ rfl
     have ho2:=World.ownsRow.alloc ho1 (.cells #[.int .i64 k, .string T, .int .i64 p] 77)
     have hb2:=hb1.alloc hb1.size (.cells #[.int .i64 k, .string T, .int .i64 p] 77)
     by_cases hk:k=0
     ·have hkb:(k !=0)=false:=by simp[hk]
      have HR2:Hid (CR (L s) a1 ts=(A,F)):=by show _=_;rw[if_pos hk] at hR2;exact hR2
      clear hk hR2
      refine hid ?_
      go_wp2_with (go_at_call 31;refine (cf _).mono ?_;rintro e q2 ⟨rfl,rfl⟩)
      go_roundw
      case rel=>exact ⟨a1,ts,by omega,rfl,HA1,HR2,by omega,ho2,hb2⟩
      case measure=>simp[intOf];omega
     ·have hkb:(k !=0)=true:=by simp[hk]
      have HR2:Hid (CR (L s) a1 (ts++[(k,L T,p)])=(A,F)):=by show _=_;rw[if_neg hk] at hR2;exact hR2
      clear hk hR2
      refine hid ?_
      go_wp2_with (first
       |(at_builtin;refine wpList_append_row rfl _ _ 49 rfl w.heap.size 77 i0 _ 3 32 Tryz.underlying49 hi0 hz0 hz1 hz2 rfl (by decide) _ ts.length _ rfl (World.ownsRow.alloc ho2 (.cells #[.int .i64 k, .string T, .int .i64 p] 77)) _ [.int .i64 k, .string T, .int .i64 p] rfl rfl (alloc_row2 w1 _ [.int .i64 k, .string T, .int .i64 p] 77) (tk_one _ _ _) (by unfold maxLen;omega) (by omega) (hb2.alloc hb2.size (.cells #[.int .i64 k, .string T, .int .i64 p] 77)).size ?_;intro v6 w6 ho6 hg6)
       |(go_at_call 31;refine (cf _).mono ?_;rintro e q2 ⟨rfl,rfl⟩))
      have hb6:=below_grown (hb2.alloc hb2.size (.cells #[.int .i64 k, .string T, .int .i64 p] 77)) hg6 (fun k hk=>(World.ownsRow.lt ho1 k hk).1)
      have ho7:OwnT w.heap.size _ v6 (ts++[(k,L T,p)]):=ownT_snoc ho6 (by unfold tkC;rw[show strOfNums (L T)=T from nums_LB T])
      go_roundw
      case rel=>exact ⟨a1,ts++[(k,L T,p)],by omega,rfl,HA1,HR2,by simp;omega,ho7,hb6⟩
      case measure=>simp[intOf];omega
    ·obtain ⟨F',hF,hE,hN⟩:=hN
     have e:Hid (A=[]∧F=F'):=by
      show _∧_
      have:=(hN ts).symm.trans hR.out
      exact ⟨(Prod.mk.inj this).1.symm,(Prod.mk.inj this).2.symm⟩
     have hEb:(E !=0)=true:=by rcases hE with rfl|rfl <;> rfl
     have HF:=hid hF
     have sx:=stands_new w1 #[.int .i64 k, .string T, .int .i64 p] 77
     clear hE hN hF
     refine hid ?_
     go_wp2_with fail
     go_ret2
     obtain ⟨rfl,rfl⟩:=e.out
     exact ⟨_,_,rfl,HF.out,SlR.nil,hb1.alloc hb1.size _⟩
   ·have e:Hid (ts=A∧F=0):=by
     show _∧_
     have:=hR.out
     rw[CR_end (L s) i ts (by rw[L_len];omega)] at this
     exact ⟨(Prod.mk.inj this).1,(Prod.mk.inj this).2.symm⟩
    go_wp2_with fail
    go_ret2
    obtain ⟨rfl,rfl⟩:=e.out
    exact ⟨_,_,rfl,Or.inl rfl,own_tok ho,hb⟩
open Go.ChangeShapes Go.WideShapes Go.ChangeAt Go.RowKit Go.Maps
def mX (B:Nat) (x6:Value) (m:Mk):Cx:=⟨x6, .map (some B), .int .i64 m.nx, .bool m.op, .string (strOfNums m.na), .int .i64 m.co⟩
structure CmpM (base q B:Nat) (w:World) (V:Rv) (x6:Value) (m:Mk) (left:List Tk):Prop where
 row:RowM base q (mX B x6 m) w V (rstF m.out m.fl)
 lf:SlR 3 tokR w x6 left
 lb:left≠[]→∀k,x6.ownBlock=some k→¬inD q V k
 lB:left≠[]→∀k,x6.ownBlock=some k→k≠B
 mp:MapM w B m.nm
 mB:¬inD q V B
 hB:base≤B
def CmpS (base q B:Nat) (w:World) (m:Mk) (left:List Tk):Prop:=∃V x6,CmpM base q B w V x6 m left
theorem MapM.frm {D:Nat→Prop} {w w':World} {B:Nat} {nm:List (List Int×Int)} (h:MapM w B nm) (g:Frm D w w') (hn:¬D B):MapM w' B nm:=by
 obtain ⟨E,n,h1,h2⟩:=h
 exact ⟨E,n,h1.frm g hn,h2⟩
theorem MapM.lt {w:World} {B:Nat} {nm:List (List Int×Int)} (h:MapM w B nm):B < w.heap.size:=by
 obtain ⟨E,n,⟨es,cl,h1,_⟩,h2⟩:=h
 exact (Array.getElem?_eq_some_iff.1 h1).1
theorem slr_frm {D:Nat→Prop} {w w':World} {v:Value} {xs:List Tk} (h:SlR 3 tokR w v xs) (g:Frm D w w') (hn:xs≠[]→∀k,v.ownBlock=some k→¬D k):SlR 3 tokR w' v xs:=by
 obtain ⟨rows,h1,h2,h3⟩:=h
 refine ⟨rows, ?_,h2,h3⟩
 rcases h1 with h1|⟨b,off,cap,rfl,q1,q2,q3,q4⟩
 ·exact Or.inl h1
 ·refine Or.inr ⟨b,off,cap,rfl,q1,q2,q3,fun i hi=>⟨(q4 i hi).1,fun j hj=> ?_⟩⟩
  have hb:¬D b:=hn (fun e=>by rw[e] at h2;simp at h2;rw[h2] at q1;simp at q1) b rfl
  have hc:=(q4 i hi).2 j hj
  obtain ⟨u,hu⟩:∃u,(rows.getD i [])[j]? =some u:=⟨_,List.getElem?_eq_getElem (by have:=(q4 i hi).1;omega)⟩
  rw[hu] at hc ⊢
  have hlt:b < w.heap.size:=by
   unfold World.cell? at hc
   simp only at hc
   rcases hh:w.heap[b]? with _|o
   ·rw[hh] at hc;cases hc
   ·exact heap_lt' hh
  unfold World.cell? at hc ⊢
  simp only at hc ⊢
  rw[g.block b hlt hb]
  exact hc
theorem slr_lt {w:World} {v:Value} {xs:List Tk} (h:SlR 3 tokR w v xs) (hx:xs≠[]) {k:Nat} (hk:v.ownBlock=some k):k < w.heap.size:=by
 obtain ⟨rows,h1,h2,h3⟩:=h
 rcases h1 with ⟨ao,cap,rfl,_,rfl⟩|⟨b,off,cap,rfl,q1,q2,q3,q4⟩
 ·simp at h2;exact absurd (List.eq_nil_of_length_eq_zero h2.symm) hx
 ·have hk:some b=some k:=hk
  injection hk with hk
  subst hk
  have hc:=(q4 0 q1).2 0 (by decide)
  obtain ⟨u,hu⟩:∃u,(rows.getD 0 [])[0]? =some u:=⟨_,List.getElem?_eq_getElem (by have:=(q4 0 q1).1;omega)⟩
  rw[hu] at hc
  unfold World.cell? at hc
  simp only at hc
  rcases hh:w.heap[b]? with _|o
  ·rw[hh] at hc;cases hc
  ·exact heap_lt' hh
section
variable {base q B:Nat} {w:World} {V:Rv} {x6:Value} {m:Mk} {left:List Tk} (c:CmpM base q B w V x6 m left)
include c
theorem CmpM.step {w':World} {V':Rv} {m':Mk} {s':Rst} (r:RowM base q (mX B x6 m) w' V' s') (n:Nxt q w V w' V') (hs:s'=rstF m'.out m'.fl) (e1:m'.nm=m.nm) (e2:mX B x6 m'=mX B x6 m):CmpM base q B w' V' x6 m' left where
 row:=by rw[e2,←hs];exact r
 lf:=slr_frm c.lf n.fr c.lb
 lb:=fun hl k hk=>n.notin (c.lb hl k hk) (slr_lt c.lf hl hk)
 lB:=c.lB
 mp:=by rw[e1];exact c.mp.frm n.fr c.mB
 mB:=n.notin c.mB c.mp.lt
 hB:=c.hB
theorem CmpM.below {w':World} (g:Below w.heap.size w w'):CmpM base q B w' V x6 m left:=c.step (c.row.below g) (Nxt.below V g) rfl rfl rfl
theorem CmpM.c6:w.cell? ⟨q,6,none⟩=some x6:=c.row.st.cell 6 _ rfl
theorem CmpM.c7:w.cell? ⟨q,7,none⟩=some (.map (some B)):=c.row.st.cell 7 _ rfl
theorem CmpM.c8:w.cell? ⟨q,8,none⟩=some (.int .i64 m.nx):=c.row.st.cell 8 _ rfl
theorem CmpM.c9:w.cell? ⟨q,9,none⟩=some (.bool m.op):=c.row.st.cell 9 _ rfl
theorem CmpM.c10:w.cell? ⟨q,10,none⟩=some (.string (strOfNums m.na)):=c.row.st.cell 10 _ rfl
theorem CmpM.c11:w.cell? ⟨q,11,none⟩=some (.int .i64 m.co):=c.row.st.cell 11 _ rfl
theorem CmpM.bel {w':World} (g:Below w.heap.size w w'):Below base w w':=g.mono c.row.hs
end
theorem rst_bd {m:Mk} {n:Int} (r:MkR m n) (hn:n≤20000):(rstF m.out m.fl).tk.length≤1000000∧0≤(rstF m.out m.fl).sz∧(rstF m.out m.fl).sz≤1000000:=by
 have h1:=szL_len m.out
 have h2:=r.sz
 rw[off_len]
 refine ⟨by omega,by show 0≤szL m.out;omega,by show szL m.out≤1000000;omega⟩
theorem cm_codes {base q B:Nat} {w:World} {V:Rv} {x6:Value} {m:Mk} {left:List Tk} {n:Int} (c:CmpM base q B w V x6 m left) (g:FlG m.out m.fl) (r:MkR m n) (hn:n≤20000) (C:Int) (ok:okQ (cdT C) true=true):
  Calls Tryz.prog 37 #[.pointer (some ⟨q,0,none⟩), .slice (some ⟨w.heap.size,0,none⟩) 1 1] (w.alloc (.cells #[.int .i64 C] 3)) fun e w'=>e= .returned (.tuple #[])∧∃V',CmpM base q B w' V' x6 (addT m C 0 []) left∧Below base w w':=by
 obtain ⟨b1,b2,b3⟩:=rst_bd r hn
 have bx:=box_below w (.cells #[.int .i64 C] 3)
 refine (fw_codes (c.row.below bx) C w.heap.size (stands_new w _ _) (c.row.new (Nat.le_refl _)) ok b1 b2 b3).mono ?_
 rintro e w' ⟨rfl,vt,h1,n1⟩
 have n2:=(Nxt.below (q:=q) V bx).trans n1
 exact ⟨rfl,_,c.step h1 n2 (g.rst (cdT C)).symm rfl rfl,c.row.toB n2⟩
theorem cm_lay {base q B:Nat} {w:World} {V:Rv} {x6:Value} {m:Mk} {left:List Tk} {n:Int} (c:CmpM base q B w V x6 m left) (g:FlG m.out m.fl) (r:MkR m n) (hn:n≤20000) (C N:Int) (S:ByteArray) (ok:okQ ⟨C,N,LB S,0⟩ true=true) (n0:0≤N) (n1:N < 4294967296) (hS:S.size≤maxLen):
  Calls Tryz.prog 64 #[.pointer (some ⟨q,0,none⟩), .agg #[.int .i64 C, .int .u32 N, .string S, .int .i64 0]] w fun e w'=>e= .returned (.tuple #[])∧∃V',CmpM base q B w' V' x6 (addT m C N (LB S)) left∧Below base w w':=by
 obtain ⟨b1,b2,b3⟩:=rst_bd r hn
 refine (fw_lay c.row C N 0 S ok n0 n1 hS b1 b2 b3).mono ?_
 rintro e w' ⟨rfl,vt,h1,n1⟩
 exact ⟨rfl,_,c.step h1 n1 (g.rst ⟨C,N,LB S,0⟩).symm rfl rfl,c.row.toB n1⟩
theorem uT3:Tryz.prog.underlying 49=some (.slice (Tryz.prog.elem 49)):=by kernel_rfl
theorem eT3:Tryz.prog.elem 49=77:=by kernel_rfl
theorem zT3 (w:World):(sizeOf (Tryz.prog.elem 49)).run Tryz.prog w= .ok 3 w:=by rw[eT3];exact Tryz.sizeOf77 w
theorem tk_first {w:World} {v:Value} {x:Tk} {r:List Tk} (h:SlR 3 tokR w v (x::r)):
  ∃(b o:Nat) (v':Value),(∀w',(Instr.indexAt 49 v (.int .i64 0)).run Tryz.prog w'= .ok (.pointer (some ⟨b,o,none⟩)) w')∧w.cell? ⟨b,o,none⟩=some (.int .i64 x.1)∧w.cell? ⟨b,o+1,none⟩=some (.string (strOfNums x.2.1))∧w.cell? ⟨b,o+2,none⟩=some (.int .i64 x.2.2)∧
   (∀w',(Instr.slice 49 v (some (.int .i64 1)) none none).run Tryz.prog w'= .ok v' w')∧SlR 3 tokR w v' r∧(∀k,v'.ownBlock=some k→v.ownBlock=some k)∧∃a n c,v'= .slice a n c:=by
 obtain ⟨b,o,cs,r1,hl,hc,h2⟩:=slr_idxN h uT3 zT3 0 (by simp)
 have h3:cs=[.int .i64 x.1, .string (strOfNums x.2.1), .int .i64 x.2.2]:=h2
 subst h3
 obtain ⟨v',s1,s2⟩:=slr_tail h uT3 zT3 1 (by simp)
 refine ⟨b,o,v',r1,hc 0 (by omega),hc 1 (by omega),hc 2 (by omega),s1,s2, ?_, ?_⟩
 ·obtain ⟨rows,q1,q2,q3⟩:=h
  obtain ⟨ao,cap,rfl,p1,p2,p3⟩:=q1.form
  have e:=s1 w
  rw[show ((1:Nat):Int)=1 from rfl] at e
  have hn:1≤rows.length:=by rw[q2];simp
  rw[run_slice_l w 49 ao rows.length cap uT3 .i64 (1:Int) (by omega) (by omega),zT3] at e
  simp only[Result.andThen] at e
  injection e with e
  intro k hk
  rw[←e] at hk
  unfold sliced at hk
  cases ao with
  |none=>simp[Value.ownBlock] at hk
  |some a=>
   simp only[Value.ownBlock] at hk ⊢
   split at hk
   ·rename_i a1 _ _ heq
    injection heq with heq
    split at heq
    ·injection heq with heq;subst heq;exact hk
    ·injection heq with heq
     rw[←heq] at hk
     have:(a.add ((1:Int).toNat*3)).block=a.block:=by unfold Addr.add;split <;> rfl
     rw[this] at hk
     exact hk
   ·cases hk
 ·obtain ⟨rows,q1,q2,q3⟩:=s2
  obtain ⟨ao,cap,rfl,_⟩:=q1.form
  exact ⟨ao,_,cap,rfl⟩
theorem btr {base:Nat} {a b c:World} (h:Below base a b) (g:Below base b c):Below base a c:=h.trans g
theorem CmpM.pop {base q B:Nat} {w:World} {V:Rv} {x6:Value} {m:Mk} {x:Tk} {r:List Tk} (c:CmpM base q B w V x6 m (x::r)) {v':Value} (s2:SlR 3 tokR w v' r) (hk:∀k,v'.ownBlock=some k→x6.ownBlock=some k):
  CmpM base q B (w.setCell ⟨q,6,none⟩ v') V v' m r∧Below base w (w.setCell ⟨q,6,none⟩ v'):=by
 have f:Frm (inD q V) w (w.setCell ⟨q,6,none⟩ v'):=Frm.set w q 6 v' (Or.inl rfl)
 refine ⟨⟨?_,slr_frm s2 f (fun _ k h=>c.lb (by simp) k (hk k h)),fun _ k h=>c.lb (by simp) k (hk k h),fun _ k h=>c.lB (by simp) k (hk k h),c.mp.frm f c.mB,c.mB,c.hB⟩,f.toBelow (fun k z=>(c.row.inlt z).1) c.row.hs⟩
 exact c.row.put (by simp[mX]) c.row.tk c.row.ah c.row.bk c.row.lp c.row.ks c.row.row c.row.outs c.row.sep
theorem CmpM.box {base q B:Nat} {w w':World} {V:Rv} {x6:Value} {m:Mk} {left:List Tk} (c:CmpM base q B w V x6 m left) {D:Nat→Prop} (g:Frm D w w') (h1:∀k,D k→¬inD q V k) (h2:left≠[]→∀k,x6.ownBlock=some k→¬D k) (h3:¬D B):CmpM base q B w' V x6 m left:=
 ⟨c.row.frm g h1,slr_frm c.lf g h2,c.lb,c.lB,c.mp.frm g h3,c.mB,c.hB⟩
set_option maxHeartbeats 2000000 in
set_option maxRecDepth 100000 in
theorem fw_taken {base q B:Nat} {w:World} {V:Rv} {x6:Value} {m:Mk} {x:Tk} {r:List Tk} (c:CmpM base q B w V x6 m (x::r)):
  Calls Tryz.prog 36 #[.pointer (some ⟨q,0,none⟩)] w fun e w'=>e= .returned (.agg #[.int .i64 x.1, .string (strOfNums x.2.1), .int .i64 x.2.2])∧∃x6',CmpM base q B w' V x6' m r∧Below base w w':=by
 obtain ⟨xk,xt,xp⟩:=x
 simp only
 obtain ⟨S,hS⟩:∃S,strOfNums xt=S:=⟨_,rfl⟩
 rw[hS]
 have b0:=box_below w (.cells #[.int .i64 0, .string ⟨#[]⟩, .int .i64 0] 77)
 have sp:=stands_new w #[.int .i64 0, .string ⟨#[]⟩, .int .i64 0] 77
 have hR:¬inD q V w.heap.size:=c.row.new (Nat.le_refl _)
 have hRB:w.heap.size≠B:=fun e=>by have:=c.mp.lt;omega
 have hRx:((xk,xt,xp)::r)≠[]→∀k,x6.ownBlock=some k→k≠w.heap.size:=fun h k hk e=>by have:=slr_lt c.lf h hk;omega
 have c0:=c.below b0
 have B0:=hid (c.bel b0)
 have f6:=c0.c6
 have HR:=hid hR
 have HX:=hid hRx
 go_enter Tryz.func36,Tryz.ntmps36
 go_upto_region 1 with fail
 generalize w.alloc (.cells #[.int .i64 0, .string ⟨#[]⟩, .int .i64 0] 77)=W0 at b0 sp c0 B0 f6 ⊢
 obtain ⟨bb,oo,v',r1,d0,d1,d2,s1,s2,s3,a',n',c',hv'⟩:=tk_first c0.lf
 subst hv'
 simp only at d0 d1 d2
 rw[hS] at d1
 have C0:=hid c0
 have SP:=hid sp
 clear c0 sp b0
 go_upto_region 2 with fail
 have b1:=box_below W0 (.cells #[.int .i64 xk, .string S, .int .i64 xp] 77)
 have st1:=stands_new W0 #[.int .i64 xk, .string S, .int .i64 xp] 77
 have c1:=C0.out.below b1
 have B1:=hid (btr B0.out (C0.out.bel b1))
 have sp1:=SP.out.below b1
 have f6b:=c1.c6
 have fr6:=c1.row.st.free 6
 have hq1:W0.heap.size≠q:=fun e=>C0.out.row.new (Nat.le_refl W0.heap.size) (Or.inl e)
 obtain ⟨c2,B2⟩:=c1.pop (slr_frm s2 (Frm.below b1:Frm (fun _=>False) _ _) (fun _ _ _ z=>z)) s3
 have st2:=st1.other 6 (.slice a' n' c') hq1
 have sp2:=sp1.other 6 (.slice a' n' c') (fun e=>HR.out (Or.inl e))
 have C2:=hid c2
 have B3:=hid (btr B1.out B2)
 have S2:=hid s2
 clear c1 c2 B2 st1 sp1 d0 d1 d2 r1 s2 b1
 generalize W0.alloc (.cells #[.int .i64 xk, .string S, .int .i64 xp] 77)=W1 at f6b fr6 st2 sp2 C2 B3 B1 ⊢
 go_upto_region 3 with fail
 generalize W1.setCell ⟨q,6,none⟩ (.slice a' n' c')=W2 at st2 sp2 C2 B3 ⊢
 have e0:=st2.cell 0 _ rfl
 have e1:=st2.cell 1 _ rfl
 have e2:=st2.cell 2 _ rfl
 have g0:=sp2.cell 0 _ rfl
 have g1:=sp2.cell 1 _ rfl
 have g2:=sp2.cell 2 _ rfl
 have gf:=sp2.free
 have G1:Hid (Stands _ w.heap.size #[.int .i64 xk, .string S, .int .i64 xp] 77):=set3 sp2 (.int .i64 xk) (.string S) (.int .i64 xp)
 have bF:Hid (Frm (fun k=>k=w.heap.size) W2 _):=((Frm.set (D:=fun k=>k=w.heap.size) W2 w.heap.size 0 (.int .i64 xk) rfl).trans (Frm.set (D:=fun k=>k=w.heap.size) _ w.heap.size 1 (.string S) rfl) (fun _ _ z=>z)).trans (Frm.set (D:=fun k=>k=w.heap.size) _ w.heap.size 2 (.int .i64 xp) rfl) (fun _ _ z=>z)
 clear st2 sp2
 go_wp2_with fail
 (try simp only[Exit.inBlock,Exit.then])
 refine bodyPost_ret (res_row1 rfl _ _ w.heap.size 77 _ (0,0) _ rfl G1.out Tryz.underlying77 rfl (show _=some 3 by kernel_rfl)) rfl ?_
 refine ⟨rfl,_,C2.out.box bF.out (fun k hk=>by rw[hk];exact HR.out) (fun _ k hk e=>HX.out (by simp) k (s3 k hk) e) (fun e=>hRB e.symm), ?_⟩
 have:=bF.out
 exact ⟨this.os.trans B3.out.os,this.tape.trans B3.out.tape,this.output.trans B3.out.output,Nat.le_trans B3.out.size this.size,fun k hk=>by rw[this.block k (Nat.lt_of_lt_of_le (Nat.lt_of_lt_of_le hk c.row.hs) B3.out.size) (by have:=c.row.hs;omega),B3.out.block k hk]⟩
def TkB (l:List Tk):Prop:=∀x∈l,bytesL x.2.1∧x.2.1.length≤5000
def CmpQ (base q B:Nat) (w:World) (R:(Mk×List Tk) ⊕ Int) (e:Ending) (w':World):Prop:=Below base w w'∧match R with
 | .inr E=>e= .returned (.int .i64 E)
 | .inl x=>e= .returned (.int .i64 0)∧CmpS base q B w' x.1 x.2
def errR (R:(Mk×List Tk) ⊕ Int):Int:=match R with
 | .inr E=>E
 | .inl _=>0
theorem CmpQ.ret {base q B:Nat} {w w':World} {R:(Mk×List Tk) ⊕ Int} {e:Ending} (h:CmpQ base q B w R e w'):e= .returned (.int .i64 (errR R)):=by
 obtain ⟨_,h⟩:=h
 cases R with
 |inr E=>exact h
 |inl x=>exact h.1
def NmQ (base q B:Nat) (w:World) (m:Mk) (R:Option (List Int×List Tk)) (e:Ending) (w':World):Prop:=Below base w w'∧match R with
 |none=>e= .returned (.tuple #[.string ⟨#[]⟩, .int .i64 15])∧∃l,CmpS base q B w' m l
 |some x=>e= .returned (.tuple #[.string (strOfNums x.1), .int .i64 0])∧CmpS base q B w' m x.2
set_option maxHeartbeats 2000000 in
set_option maxRecDepth 100000 in
theorem fw_next {base q B:Nat} {w:World} {V:Rv} {x6:Value} {m:Mk} {left:List Tk} (c:CmpM base q B w V x6 m left):
  Calls Tryz.prog 101 #[.pointer (some ⟨q,0,none⟩)] w (NmQ base q B w m (nameF left)):=by
 have f6:=c.c6
 have hla:=slr_len c.lf uT3 (P:=Tryz.prog)
 cases left with
 |nil=>
  simp only[List.length_nil] at hla
  have CC:=hid c
  clear c
  go_enter Tryz.func101,Tryz.ntmps101
  go_wp2_with fail
  go_ret2
  exact ⟨Below.refl _ _,rfl,_,_,_,CC.out⟩
 |cons x r=>
  have ct:=fw_taken c
  obtain ⟨k,t,p⟩:=x
  simp only at ct
  have hne:((((k,t,p)::r).length:Int)==0)=false:=by rw[beq_eq_false_iff_ne];simp;omega
  obtain ⟨N,hN⟩:∃N:Int,(((k,t,p)::r).length:Int)=N:=⟨_,rfl⟩
  rw[hN] at hla hne
  obtain ⟨S,hS⟩:∃S,strOfNums t=S:=⟨_,rfl⟩
  rw[hS] at ct
  have hc:=c.row.hs
  clear c hN
  by_cases hk:k=1
  ·subst hk
   have e:nameF ((1,t,p)::r)=some (t,r):=rfl
   rw[e]
   clear e
   go_enter Tryz.func101,Tryz.ntmps101
   go_upto_region 4 with (first|(go_at_call 36;refine ct.mono ?_;rintro e w1 ⟨rfl,x6',c1,b1⟩)|fail)
   have st:=stands_new w1 #[.int .i64 1, .string S, .int .i64 p] 77
   have b2:=box_below w1 (.cells #[.int .i64 1, .string S, .int .i64 p] 77)
   have s0:=st.cell 0 _ rfl
   have s1:=st.cell 1 _ rfl
   go_wp2_with fail
   go_ret2
   exact ⟨btr b1 (c1.bel b2),by simp only;rw[hS];rfl,_,_,c1.below b2⟩
  ·have e:nameF ((k,t,p)::r)=none:=by unfold nameF;simp only;rw[if_neg hk]
   rw[e]
   have hk2:(k==1)=false:=by simpa using hk
   have hk3:(k !=1)=true:=by simpa using hk
   clear e hk
   go_enter Tryz.func101,Tryz.ntmps101
   go_upto_region 4 with (first|(go_at_call 36;refine ct.mono ?_;rintro e w1 ⟨rfl,x6',c1,b1⟩)|fail)
   have st:=stands_new w1 #[.int .i64 k, .string S, .int .i64 p] 77
   have b2:=box_below w1 (.cells #[.int .i64 k, .string S, .int .i64 p] 77)
   have s0:=st.cell 0 _ rfl
   go_wp2_with fail
   go_ret2
   exact ⟨btr b1 (c1.bel b2),rfl,_,_,_,c1.below b2⟩
theorem str_size {t:List Int} (h:t.length≤5000):(strOfNums t).size≤maxLen:=by
 have:(strOfNums t).size=t.length:=by unfold strOfNums;show (List.map _ t).toArray.size=_;simp
 unfold maxLen
 omega
theorem mp_look {w:World} {B:Nat} {nm:List (List Int×Int)} (h:MapM w B nm) {t:List Int} (hb:bytesL t):∃D n,OwnM w B n D∧n≤111+nm.length∧MapD D (fndN nm)∧match fndN nm t with
  |none=>Maps.has D (keyL (strOfNums t))=false
  |some c=>Maps.has D (keyL (strOfNums t))=true∧∀z,D.atKey (keyL (strOfNums t)) z= .lit (.int .i64 c):=by
 obtain ⟨D,n,h1,h2,h3⟩:=h
 refine ⟨D,n,h1,h2,h3, ?_⟩
 have:=h3.2 (strOfNums t)
 rw[LB_nums t hb] at this
 exact this
theorem key_of {t:List Int} (h:t.length≤5000):keyOf Tryz.prog 9 (.string (strOfNums t))=some (keyL (strOfNums t)):=Go.WideMaps.keyOf_string_mk Tryz.underlying9 (str_size h)
theorem wrap_u32b (c:Int) (h0:0≤c) (h1:c < 65536):IntKind.u32.wrap c=c:=by
 simp[IntKind.wrap,IntKind.bits,IntKind.signed]
 omega
theorem MkG.codes {m:Mk} {n:Int} (g:MkG m) (r:MkR m n):∀x∈m.nm,2048≤x.2∧x.2≤4095:=fun x hx=>by
 have:=g.nm x hx
 have:=r.nx
 omega
def wcR (m:Mk) (k:Int) (left:List Tk):(Mk×List Tk) ⊕ Int:=match nameF left with
 |none=> .inr 15
 |some (s,q)=>match fndN m.nm s with
  |none=> .inr 14
  |some c=> .inl (addT m k c [],q)
theorem name_mem {left r:List Tk} {t:List Int} (h:nameF left=some (t,r)):∃p,left=(1,t,p)::r:=by
 unfold nameF at h
 split at h
 ·cases h
 ·rename_i x l
  split at h
  ·rename_i hk
   injection h with h
   injection h with h1 h2
   obtain ⟨a,b,p⟩:=x
   simp only at hk h1
   subst hk h1 h2
   exact ⟨p,rfl⟩
  ·cases h
set_option maxHeartbeats 4000000 in
set_option maxRecDepth 100000 in
theorem fw_with {base q B:Nat} {w:World} {V:Rv} {x6:Value} {m:Mk} {left:List Tk} {n:Int} (c:CmpM base q B w V x6 m left) (g:MkG m) (r:MkR m n) (hn:n≤19000) (tb:TkB left) (k:Int) (hk:k=17∨k=195):
  Calls Tryz.prog 87 #[.pointer (some ⟨q,0,none⟩), .int .i64 k] w (CmpQ base q B w (wcR m k left)):=by
 have cn:=fw_next c
 have hs:=c.row.hs
 unfold wcR
 rcases hnm:nameF left with _|⟨t,l⟩
 ·rw[hnm] at cn
  clear c g r tb hnm
  go_enter Tryz.func87,Tryz.ntmps87
  go_wp2_with (first|(go_at_call 101;refine cn.mono ?_;rintro e w1 ⟨b1,h1⟩;simp only at h1;obtain ⟨h1, -⟩:=h1;subst h1)|fail)
  go_ret
  exact ⟨b1,rfl⟩
 ·rw[hnm] at cn
  simp only
  obtain ⟨p,hp⟩:=name_mem hnm
  obtain ⟨hb,hl5⟩:=tb _ (by rw[hp];exact List.mem_cons_self)
  simp only at hb hl5
  have hkey:=key_of hl5
  have hcd:=g.codes r
  obtain ⟨S,hS⟩:∃S,strOfNums t=S:=⟨_,rfl⟩
  rw[hS] at hkey
  have hml:=fun w (h:MapM w B m.nm)=>mp_look h hb
  rw[hS] at hml
  rcases hf:fndN m.nm t with _|cc
  ·simp only[hf] at hml ⊢
   clear c g r tb hnm hp hcd
   go_enter Tryz.func87,Tryz.ntmps87
   go_upto_region 4 with (first|(go_at_call 101;refine cn.mono ?_;rintro e w1 ⟨b1,h1⟩;simp only at h1;obtain ⟨h1,V1,x1,c1⟩:=h1;subst h1;rw[hS])|fail)
   obtain ⟨D,nn,h1,h2,h3,h4⟩:=hml w1 c1.mp
   have f7:=c1.c7
   go_wp2_with (first|(at_lookup;refine wpList_lookup_own_ok_int _ rfl _ _ 52 rfl 9 3 .i64 lawS Tryz.underlying52 Tryz.underlying3 (zeroJ _) B nn D rfl h1 _ _ rfl hkey ?_;intro c5 hat hwc)|fail)
   go_ret
   exact ⟨b1,rfl⟩
  ·obtain ⟨o1,o2,o3,o4,o5⟩:=fnd_code hcd hf
   have ok:=(ok_17 (c:=cc) hk o2).1
   have hw:=wrap_u32b cc o3 (by omega)
   simp only[hf] at hml ⊢
   have G:=hid g
   have Rr:=hid r
   clear c g r tb hnm hp hcd hf
   go_enter Tryz.func87,Tryz.ntmps87
   go_upto_region 4 with (first|(go_at_call 101;refine cn.mono ?_;rintro e w1 ⟨b1,h1⟩;simp only at h1;obtain ⟨h1,V1,x1,c1⟩:=h1;subst h1;rw[hS])|fail)
   obtain ⟨D,nn,h1,h2,h3,h4,h5⟩:=hml w1 c1.mp
   have f7:=c1.c7
   have cl:=cm_lay c1 G.out.fl Rr.out (by omega) k cc ⟨#[]⟩ (by rw[emp_LB];exact ok) o3 (by omega) (by decide)
   rw[emp_LB] at cl
   go_wp2_with (first
    |(at_lookup;refine wpList_lookup_own_ok_int _ rfl _ _ 52 rfl 9 3 .i64 lawS Tryz.underlying52 Tryz.underlying3 (zeroJ _) B nn D rfl h1 _ _ rfl hkey ?_;intro c5 hat hwc;have hc5:c5=cc:=(by have:=hat.symm.trans (h5 _);injection this with this;injection this);subst hc5)
    |(go_at_call 64;refine cl.mono ?_;rintro e w2 ⟨rfl,V2,c2,b2⟩)
    |fail)
   go_ret
   exact ⟨btr b1 b2,rfl,_,_,c2⟩
end Go.Proofs.YtkkehbdahniiaaaGreatDoor
