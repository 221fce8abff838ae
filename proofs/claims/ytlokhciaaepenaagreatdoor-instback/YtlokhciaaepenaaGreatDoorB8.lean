import Derived.Laws.BitsAllLaws
import Derived.Deep.OwnRows
import Derived.Test.YtlokhciaaepenaaGreatDoorB7
set_option linter.unusedVariables false
set_option linter.unusedSimpArgs false
set_option maxRecDepth 100000
namespace Go.Proofs.YtlokhciaaepenaaGreatDoor
open Go.ChangeShapes Go.WideShapes Go.ChangeAt Go.RowKit
theorem barred:L ⟨#[47,92,58,91,93,64]⟩=[47,92,58,91,93,64]:=by decide+kernel
theorem atB_bar {c i:Int} (h:AtB (L ⟨#[47,92,58,91,93,64]⟩) c i) (h0:33≤c) (h1:c≤126) (h2:¬(65≤c∧c≤90)):decide (i < 0)=nmC c:=by
 rw[barred] at h
 rcases h with ⟨rfl,h⟩|⟨k,rfl,hk,he,h⟩
 ·have a:=h 47 (by simp);have b:=h 92 (by simp);have d:=h 58 (by simp);have e:=h 91 (by simp);have f:=h 93 (by simp);have g:=h 64 (by simp)
  unfold nmC
  simp
  omega
 ·have hm:c∈([47,92,58,91,93,64]:List Int):=by rw[he];simp
  have hc:c=47∨c=92∨c=58∨c=91∨c=93∨c=64:=by simpa using hm
  have e:nmC c=false:=by
   unfold nmC
   rw[decide_eq_false_iff_not]
   omega
  rw[e,decide_eq_false_iff_not]
  omega
set_option maxHeartbeats 1000000 in
set_option maxRecDepth 100000 in
theorem w_inn (c:Int) (w:World) (h0:0≤c) (h1:c < 256):Calls Tryz.prog 109 #[.int .u8 c] w fun e w'=>e= .returned (.bool (nmC c))∧Below w.heap.size w w':=by
 rcases (show c < 33∨126 < c∨(65≤c∧c≤90)∨(33≤c∧c < 65)∨(90 < c∧c≤126) by omega) with h|h|⟨h,g⟩|⟨h,g⟩|⟨h,g⟩
 ·have e:nmC c=false:=by unfold nmC;simp;omega
  rw[e]
  clear e
  go_enter Tryz.func109,Tryz.ntmps109
  go_wp2_with fail
  go_ret
  exact ⟨rfl,Below.refl _ _⟩
 ·have e:nmC c=false:=by unfold nmC;simp;omega
  rw[e]
  clear e
  go_enter Tryz.func109,Tryz.ntmps109
  go_wp2_with fail
  go_ret
  exact ⟨rfl,Below.refl _ _⟩
 ·have e:nmC c=false:=by unfold nmC;simp;omega
  rw[e]
  clear e
  go_enter Tryz.func109,Tryz.ntmps109
  go_wp2_with fail
  go_ret
  exact ⟨rfl,Below.refl _ _⟩
 ·go_enter Tryz.func109,Tryz.ntmps109
  go_wp2_with (go_at_call 123;refine (w_sib _ c _ h0 h1).mono ?_;rintro e w1 ⟨i,rfl,hi,rfl⟩;have H:=hid (atB_bar hi (by omega) (by omega) (by omega));clear hi)
  go_ret
  exact ⟨ret_b (by first|exact H.out|(rw[←H.out,decide_eq_false (show ¬c≤90 by omega)];rfl)),Below.refl _ _⟩
 ·go_enter Tryz.func109,Tryz.ntmps109
  go_wp2_with (go_at_call 123;refine (w_sib _ c _ h0 h1).mono ?_;rintro e w1 ⟨i,rfl,hi,rfl⟩;have H:=hid (atB_bar hi (by omega) (by omega) (by omega));clear hi)
  go_ret
  exact ⟨ret_b (by first|exact H.out|(rw[←H.out,decide_eq_false (show ¬c≤90 by omega)];rfl)),Below.refl _ _⟩
set_option maxHeartbeats 1000000 in
set_option maxRecDepth 100000 in
theorem w_pnamed (s:ByteArray) (w:World) (hs:s.size≤maxLen):
  Calls Tryz.prog 85 #[.string s] w fun e w'=>e= .returned (.bool (nmF (L s)))∧Below w.heap.size w w':=by
 have hs2:=hs
 unfold maxLen at hs2
 by_cases h0:s.size=0
 ·have hs:s=⟨#[]⟩:=by
   apply ByteArray.ext
   exact Array.eq_empty_of_size_eq_zero h0
  subst hs
  go_enter Tryz.func85,Tryz.ntmps85
  go_wp2_with fail
  go_ret
  exact ⟨rfl,Below.refl _ _⟩
 ·have hemp:s.toList.isEmpty=false:=by
   rw[←decide_eq_emptyBytes]
   exact decide_eq_false (fun h=>h0 (by rw[h];rfl))
  by_cases h31:(31:Int) < s.size
  ·have e:nmF (L s)=false:=by unfold nmF;rw[L_len,show decide (1≤s.size∧s.size≤31)=false by simp;omega];rfl
   rw[e]
   clear e
   go_enter Tryz.func85,Tryz.ntmps85
   go_wp2_with fail
   go_ret
   exact ⟨rfl,Below.refl _ _⟩
  ·go_enter Tryz.func85,Tryz.ntmps85
   go_wp2_with fail
   go_loopw [13] (fun I wx=>∃(k:Nat),(k:Int)≤s.size∧I= .int .i64 k∧Hid (((L s).take k).all nmC=true)∧Below w.heap.size w wx) (fun I _=>(s.size - intOf I).toNat)
   case atStart=>exact ⟨0,by omega,rfl,hid rfl,Below.refl _ _⟩
   case round=>
    obtain ⟨k,hk,rfl,ha,hb⟩:=hrel
    by_cases hlt:(k:Int) < s.size
    ·have hkk:k < s.size:=by omega
     obtain ⟨c,hc⟩:∃c,(s[k].toNat:Int)=c:=⟨_,rfl⟩
     have hcb:=L_bd s k hkk
     rw[hc] at hcb
     obtain ⟨c0,c1⟩:=hcb
     have hLd:Hid (L s=(L s).take k++c::(L s).drop (k+1)):=by
      show _=_
      rw[←hc,←L_drop s k hkk,List.take_append_drop]
     have hLt:Hid ((L s).take (k+1)=(L s).take k++[c]):=by show _=_;rw[←hc];exact L_take s k hkk
     have hrun:=run_at (w:=wr) s k hkk hs
     rw[hc] at hrun
     have cn:=w_inn c wr c0 c1
     cases hcc:nmC c
     ·have hf:Hid (nmF (L s)=false):=by show _=_;rw[hLd.out];exact nm_mid _ _ _ hcc
      rw[hcc] at cn
      clear hcc hLd hLt hc
      go_wp2_with (go_at_call 109;refine cn.mono ?_;rintro e w1 ⟨rfl,b1⟩)
      go_ret
      exact ⟨ret_b hf.out.symm,below_trans hb b1⟩
     ·have ha2:Hid (((L s).take (k+1)).all nmC=true):=by
       show _=_
       rw[hLt.out,List.all_append,ha.out]
       simp[hcc]
      rw[hcc] at cn
      clear hcc hLd hLt hc
      go_wp2_with (go_at_call 109;refine cn.mono ?_;rintro e w1 ⟨rfl,b1⟩)
      go_roundw
      case rel=>exact ⟨k+1,by omega,by go_num,ha2,below_trans hb b1⟩
      case measure=>simp[intOf];omega
    ·have hall:=ha.out
     rw[List.take_of_length_le (by rw[L_len];omega)] at hall
     have hf:Hid (nmF (L s)=true):=by show _=_;unfold nmF;rw[hall,L_len];simp;omega
     clear hall
     obtain rfl:k=s.size:=by omega
     go_wp2_with fail
     go_ret
     exact ⟨ret_b hf.out.symm,hb⟩
set_option maxHeartbeats 4000000 in
theorem w_unitn (t:ByteArray) (w:World) (hs:t.size≤maxLen) (hT:Tab w):
  Calls Tryz.prog 110 #[.string t] w fun e w'=>∃n,e= .returned (.tuple #[.int .u32 n, .bool (pcOk (L t))])∧(pcOk (L t)=true→n=num 16 (L t))∧Below w.heap.size w w':=by
 unfold maxLen at hs
 by_cases h8:(8:Int) < t.size
 ·have e:pcOk (L t)=false:=by unfold pcOk;rw[L_len,show decide (1≤t.size∧t.size≤8)=false by simp;omega];rfl
  rw[e]
  go_enter Tryz.func110,Tryz.ntmps110
  go_wp2_with fail
  go_ret2
  exact ⟨_,rfl,(fun h=>by cases h),Below.refl _ _⟩
 ·cases hok:pcOk (L t)
  ·have c:=fun w hT=>w_spu_no t w (by omega) hok hT
   clear hok
   go_enter Tryz.func110,Tryz.ntmps110
   go_wp2_with (go_at_call 124;refine (c _ hT).mono ?_;rintro e w1 ⟨T,p,rfl,hb⟩)
   go_quiet (fail)
   go_wp2_with fail
   go_ret2
   exact ⟨_,rfl,(fun h=>by cases h),below_drewN hb _⟩
  ·have c:=fun w=>w_spu_ok t w (by omega) hok
   have hn:=pc_num (L t) (LB_bytes t) hok
   obtain ⟨n,hnn⟩:∃n,num 16 (L t)=n:=⟨_,rfl⟩
   rw[hnn] at hn ⊢
   simp only[hnn] at c
   obtain ⟨n0,n1⟩:=hn
   clear hok hnn
   go_enter Tryz.func110,Tryz.ntmps110
   go_wp2_with (go_at_call 124;refine (c _).mono ?_;rintro e w1 ⟨rfl,hb⟩)
   go_quiet (fail)
   go_wp2_with fail
   go_ret2
   exact ⟨n,rfl,fun _=>rfl,below_drewN hb _⟩
theorem spl_none (l:List Int) (h:∀x∈l,¬x=44):spl 44 [] l=[l]:=by
 have:=spl_skip 44 l [] h []
 rw[List.append_nil,List.nil_append] at this
 rw[this]
 rfl
theorem spl_some (a b:List Int) (h:∀x∈a,¬x=44):spl 44 [] (a++44::b)=a::spl 44 [] b:=by
 rw[spl_skip 44 a _ h,List.nil_append,spl,if_pos rfl]
def PU (l:List Int) (P:List (List Int)) (M:Bool) (r:List Int):Prop:=spl 44 [] l=P++(if M=true then spl 44 [] r else [])
theorem pu_bad {l:List Int} {P Q:List (List Int)} {p:List Int} (h:spl 44 [] l=P++p::Q) (hp:pcOk p=false):punF l=([],15):=by
 unfold punF
 rw[if_pos]
 rw[h,List.all_append,List.all_cons,hp]
 simp
theorem pu_long {l:List Int} {P:List (List Int)} (h:spl 44 [] l=P) (hp:P.all pcOk=true) (hl:4 < P.length):punF l=([],3):=by
 unfold punF
 rw[h,hp,if_neg (by decide),if_pos hl]
theorem pu_ok {l:List Int} {P:List (List Int)} (h:spl 44 [] l=P) (hp:P.all pcOk=true) (hl:¬4 < P.length):punF l=(P.map (num 16),0):=by
 unfold punF
 rw[h,hp,if_neg (by decide),if_neg hl]
theorem cutC_split {l:List Int} {A B:ByteArray} {f:Bool} (h:CutC l A B f):spl 44 [] l=L A::(if f=true then spl 44 [] (L B) else [])∧A.size≤l.length∧(f=true→A.size+1+B.size=l.length):=by
 rcases h with ⟨rfl,h1,h2⟩|⟨rfl,h1,h2⟩
 ·refine ⟨?_, ?_,fun h=>by cases h⟩
  ·rw[spl_none l h2,h1];rfl
  ·rw[←h1,L_len];exact Nat.le_refl _
 ·refine ⟨?_, ?_,fun _=> ?_⟩
  ·rw[h1,spl_some _ _ h2];rfl
  ·rw[h1,List.length_append,L_len];omega
  ·rw[h1,List.length_append,List.length_cons,L_len,L_len];omega
def strOf:Value→Nat| .string s=>s.size|_=>0
def boolOf:Value→Bool| .bool b=>b|_=>false
set_option maxHeartbeats 4000000 in
set_option maxRecDepth 100000 in
theorem w_ppunitO (s:ByteArray) (w:World) (hT:Tab w) (hs:s.size≤35184372088000):
  Calls Tryz.prog 86 #[.string s] w fun e w'=>∃v1,e= .returned (.tuple #[v1, .int .i64 (punF (L s)).2])∧w'.ownsRow w.heap.size 26 1 v1 (punF (L s)).1.length ((punF (L s)).1.map (Value.int .u32))∧Below w.heap.size w w':=by
 obtain ⟨i0,hi,hz0,hz1,hz2⟩:=info_parts infoU32
 obtain ⟨A,E,hAE⟩:∃A E,punF (L s)=(A,E):=⟨_,_,rfl⟩
 have HAE:=hid hAE
 rw[hAE]
 show Calls _ _ _ _ fun e w'=>∃v,e= .returned (.tuple #[v, .int .i64 E])∧w'.ownsRow w.heap.size 26 1 v A.length (A.map (Value.int .u32))∧_
 clear hAE
 go_enter Tryz.func86,Tryz.ntmps86
 go_wp2_with fail
 go_loopw [0,4,5] (fun S U M wx=>∃(t:ByteArray) (P:List (List Int)) (f:Bool),S= .string t∧M= .bool f∧Hid (PU (L s) P f (L t))∧Hid (P.all pcOk=true)∧(f=true→P.length+t.size≤s.size)∧(P.length:Int)≤s.size+1∧wx.ownsRow w.heap.size 26 1 U (P.map (num 16)).length ((P.map (num 16)).map (Value.int .u32))∧Below w.heap.size w wx) (fun S _ M _=>if boolOf M=true then strOf S+1 else 0)
 case atStart=>exact ⟨s,[],true,rfl,rfl,hid rfl,hid rfl,fun _=>by simp,by simp;omega,World.ownsRow_nil _ _ _ _,Below.refl _ _⟩
 case round=>
  obtain ⟨t,P,f,rfl,rfl,hP,hok,hlen,hln,ho,hb⟩:=hrel
  cases f
  ·have hsp:spl 44 [] (L s)=P:=by
    have:=hP.out
    unfold PU at this
    simpa using this
   have hlo:=rd_len (Rd_own ho).1 uU (P:=Tryz.prog)
   have hPl:(P.map (num 16)).length=P.length:=by simp
   by_cases h4:(4:Int) < P.length
   ·have e:=hid (pu_long hsp hok.out (by omega))
    have h4':(4:Int) < (P.map (num 16)).length:=by rw[hPl];exact h4
    obtain ⟨ys,hys⟩:∃ys,P.map (num 16)=ys:=⟨_,rfl⟩
    rw[hys] at hlo h4'
    clear hsp hys ho hPl
    go_wp2_with fail
    go_ret2
    obtain ⟨rfl,rfl⟩:=Prod.mk.inj (HAE.out.symm.trans e.out)
    exact ⟨_,rfl,World.ownsRow_nil _ _ _ _,hb⟩
   ·have e:=hid (pu_ok hsp hok.out (by omega))
    have h4':¬(4:Int) < (P.map (num 16)).length:=by rw[hPl];exact h4
    have hr:=ho
    obtain ⟨ys,hys⟩:∃ys,P.map (num 16)=ys:=⟨_,rfl⟩
    rw[hys] at hlo h4' hr e
    clear hsp hys ho hPl h4
    go_wp2_with fail
    go_ret2
    obtain ⟨rfl,rfl⟩:=Prod.mk.inj (HAE.out.symm.trans e.out)
    exact ⟨_,rfl,hr,hb⟩
  ·have hlen:=hlen rfl
   have hsp:spl 44 [] (L s)=P++spl 44 [] (L t):=hP.out
   have hPl:(P.map (num 16)).length=P.length:=by simp
   have Hsp:=hid hsp
   obtain ⟨ys,hys⟩:∃ys,P.map (num 16)=ys:=⟨_,rfl⟩
   have Hys:=hid hys
   rw[hys] at ho hPl
   clear hsp hys hP
   go_wp2_with (go_at_call 84;refine (w_cut t _ (by unfold maxLen;omega)).mono ?_;rintro e w1 ⟨X,Y,g,rfl,hc,b1⟩;refine Hid.out ?_)
   obtain ⟨c1,c2,c3⟩:=cutC_split hc
   rw[L_len] at c2 c3
   have cu:=w_unitn X w1 (by unfold maxLen;omega) (hT.below (below_trans hb b1))
   have hsp2:Hid (spl 44 [] (L s)=P++L X::(if g=true then spl 44 [] (L Y) else [])):=by show _=_;rw[Hsp.out,c1]
   clear c1 hc Hsp
   have hb1:=below_trans hb b1
   have ho1:=own_below ho b1
   refine hid ?_
   cases hpk:pcOk (L X)
   ·rw[hpk] at cu
    have e:=hid (pu_bad hsp2.out hpk)
    clear hpk hsp2 hlen c2 c3 ho ho1
    go_wp2_with (go_at_call 110;refine cu.mono ?_;rintro e w2 ⟨n,rfl, -,b2⟩)
    go_ret2
    obtain ⟨rfl,rfl⟩:=Prod.mk.inj (HAE.out.symm.trans e.out)
    exact ⟨_,rfl,World.ownsRow_nil _ _ _ _,below_trans hb1 b2⟩
   ·have hn:=pc_num (L X) (LB_bytes X) hpk
    have hok2:Hid ((P++[L X]).all pcOk=true):=by show _=_;rw[List.all_append,hok.out];simp[hpk]
    obtain ⟨n,hnn⟩:∃n,num 16 (L X)=n:=⟨_,rfl⟩
    have cu2:Calls Tryz.prog 110 #[.string X] w1 fun e w'=>e= .returned (.tuple #[.int .u32 n, .bool true])∧Below w1.heap.size w1 w':=by
     rw[hpk] at cu
     refine cu.mono ?_
     rintro e w' ⟨m,rfl,h,b⟩
     rw[h rfl,hnn]
     exact ⟨rfl,b⟩
    rw[hnn] at hn
    obtain ⟨n0,n1⟩:=hn
    have Hys2:Hid ((P++[L X]).map (num 16)=ys++[n]):=by show _=_;rw[List.map_append,Hys.out];simp[hnn]
    have c4:(if boolOf (.bool g)=true then strOf (.string Y)+1 else 0) < t.size+1:=by
     cases g
     ·simp[boolOf]
     ·have:=c3 rfl
      simp[boolOf,strOf]
      omega
    have H4:=hid c4
    have H3:=hid c3
    clear hpk cu hnn ho c3 c4
    go_wp2_with (first
     |(go_at_call 110;refine cu2.mono ?_;rintro e w2 ⟨rfl,b2⟩;have ho2:=own_below ho1 b2;have hb2:=below_trans hb1 b2;have ho3:=World.ownsRow.alloc ho2 (.cells #[.int .u32 n] 26);have hb3:=hb2.alloc hb2.size (.cells #[.int .u32 n] 26))
     |(at_builtin;refine wpList_append_rd (k:= .u32) rfl _ _ 22 rfl w.heap.size 26 i0 4 Tryz.underlying22 hi hz0 hz1 hz2 _ ys rfl ho3 _ [n] rfl (rd_one _ n 26) (by unfold maxLen;simp;omega) (by simp;omega) hb3.size ?_;intro v4 w4 ho4 hg4))
    have hb4:=below_grown hb3 hg4 (fun k hk=>(ho3.lt k hk).1)
    go_roundw
    case rel=>
     refine ⟨Y,P++[L X],g,rfl,rfl,hid ?_,hok2,fun hg=> ?_,by simp;omega, ?_,hb4⟩
     ·unfold PU
      rw[hsp2.out]
      simp
     ·have:=H3.out hg
      simp
      omega
     ·rw[Hys2.out]
      exact ho4
    case measure=>exact H4.out
def SBk (e:TypeId) (w:World) (g:Nat) (xs:List ByteArray):Prop:=w.heap[g]? =some (.cells (xs.map Value.string).toArray e (0,0))
theorem sbk_made (w:World) (e:TypeId) (n:Nat):SBk e (w.alloc (.cells (madeCells #[.string ⟨#[]⟩] n) e)) w.heap.size (List.replicate n ⟨#[]⟩):=by
 unfold SBk
 rw[heap_alloc_new]
 congr 2
 apply Array.ext
 ·simp[madeCells]
 ·intro i h1 h2
  simp[madeCells,Nat.mod_one]
theorem sbk_set {P:Program} {w:World} {e:TypeId} {g n:Nat} {xs:List ByteArray} (hg:SBk e w g xs) {t:TypeId} (ht:P.underlying t=some (.slice (P.elem t))) (hs:∀w,(sizeOf (P.elem t)).run P w= .ok 1 w)
  (hl:n=xs.length) (i:Nat) (h1:i < n):
  (∀w',(Instr.indexAt t (.slice (some ⟨g,0,none⟩) n n) (.int .i64 i)).run P w'= .ok (.pointer (some ⟨g,i,none⟩)) w')∧w.cell? ⟨g,i,none⟩=some (.string (xs.getD i ⟨#[]⟩))∧w.frozen? ⟨g,i,none⟩=false∧
   ∀y,SBk e (w.setCell ⟨g,i,none⟩ (.string y)) g (xs.set i y):=by
 unfold SBk at hg
 subst hl
 refine ⟨fun w'=> ?_, ?_, ?_,fun y=> ?_⟩
 ·rw[run_indexAt_slice (h:=ht),if_pos ⟨by omega,by omega⟩,hs]
  simp only[Result.andThen,Nat.mul_one]
  congr 3
  unfold Addr.add
  split
  ·rename_i hz;rw[Int.toNat_natCast] at hz;rw[hz]
  ·simp
 ·simp[World.cell?,hg,List.getD_eq_getElem?_getD,List.getElem?_eq_getElem h1]
 ·simp[World.frozen?,hg]
 ·unfold SBk
  rw[Lib.heap_setCell_same (i:=i) hg]
  simp[List.map_set]
theorem sbk_read {w:World} {e:TypeId} {g:Nat} {ps rs:List ByteArray} (hg:SBk e w g (ps++rs)) (h0:0 < ps.length) (hm:(ps++rs).length≤maxLen) (hp:∀p∈ps,p.size≤maxLen):SlR 1 strR w (.slice (some ⟨g,0,none⟩) ps.length (ps++rs).length) ps:=by
 unfold SBk at hg
 refine ⟨ps.map (fun p=>[.string p]),Or.inr ⟨g,0,_,by simp,by simpa using h0,by simp,hm,fun i hi=> ?_⟩,by simp,fun i hi=> ?_⟩
 ·have hi2:i < ps.length:=by simpa using hi
  have hrow:(ps.map (fun p=>[Value.string p])).getD i []=[.string ps[i]]:=by simp[List.getD_eq_getElem?_getD,List.getElem?_eq_getElem hi2]
  rw[hrow]
  refine ⟨rfl,fun j hj=> ?_⟩
  have:j=0:=by omega
  subst this
  rw[Nat.mul_one,Nat.add_zero,Nat.zero_add]
  simp only[World.cell?,hg,List.map_append,List.getElem?_toArray,List.getElem?_cons_zero]
  rw[List.getElem?_append_left (by simpa using hi2),List.getElem?_map,List.getElem?_eq_getElem hi2]
  rfl
 ·have hrow:(ps.map (fun p=>[Value.string p])).getD i []=[.string ps[i]]:=by simp[List.getD_eq_getElem?_getD,List.getElem?_eq_getElem hi]
  rw[hrow]
  exact ⟨rfl,hp _ (List.getElem_mem hi)⟩
theorem run_cut_all {P:Program} {t:TypeId} (ht:P.underlying t=some (.slice (P.elem t))) (g n i:Nat) (h:i≤n) (hs:∀w,(sizeOf (P.elem t)).run P w= .ok 1 w) (w:World):
  (Instr.slice t (.slice (some ⟨g,0,none⟩) n n) none (some (.int .i64 (i:Int))) none).run P w= .ok (.slice (some ⟨g,0,none⟩) i n) w:=by
 rw[run_slice_h w t (some ⟨g,0,none⟩) n n ht .i64 (i:Int) (by omega) (by omega),hs]
 simp[Result.andThen,sliced,Addr.add]
theorem infoStr7:(Tryz.prog.info? 9).map (fun i=>(i.zero,i.size,i.bytes))=some (some (.string ⟨#[]⟩),1,16):=by kernel_rfl
theorem count_L (l:List UInt8):l.count 47=(l.map fun c=>(c.toNat:Int)).count 47:=by
 induction l with
 |nil=>rfl
 |cons a l ih=>
  simp only[List.map_cons,List.count_cons,ih]
  congr 1
  by_cases h:a=47
  ·subst h;rfl
  ·have h2:¬((a.toNat:Int)=47):=fun e=>h (UInt8.toNat_inj.1 (by
    have:((47:UInt8).toNat:Int)=47:=by decide
    omega))
   simp[h,h2]
theorem uS7:Tryz.prog.underlying 109=some (.slice (Tryz.prog.elem 109)):=by kernel_rfl
theorem zS7:∀w,(sizeOf (Tryz.prog.elem 109)).run Tryz.prog w= .ok 1 w:=fun w=>by
 have h:Tryz.prog.elem 109=9:=by kernel_rfl
 rw[h]
 exact Tryz.sizeOf9 w
theorem spl_free7 (l:List Int) (h:∀x∈l,¬x=47):spl 47 [] l=[l]:=by
 have:=spl_skip 47 l [] h []
 rw[List.append_nil,List.nil_append] at this
 rw[this]
 rfl
theorem spl_hit7 (a b:List Int) (h:∀x∈a,¬x=47):spl 47 [] (a++47::b)=a::spl 47 [] b:=by
 rw[spl_skip 47 a _ h,List.nil_append,spl,if_pos rfl]
set_option maxHeartbeats 4000000 in
set_option maxRecDepth 100000 in
theorem w_gsplit (s:ByteArray) (w:World) (hs:s.size≤256):
  Calls Tryz.prog 83 #[.string s, .string ⟨#[47]⟩, .int .i64 0, .int .i64 (-1)] w fun e w'=>∃v ps,e= .returned v∧SlR 1 strR w' v ps∧ps.map L=spl 47 [] (L s)∧(∀p∈ps,p.size≤256)∧Below w.heap.size w w':=by
 obtain ⟨n,hn⟩:∃n:Nat,s.data.toList.count 47=n:=⟨_,rfl⟩
 have hnL:(L s).count 47=n:=by rw[←hn,count_L];rfl
 have hnl:(n:Int)≤s.size:=by
  have:=List.count_le_length (a:=(47:UInt8)) (l:=s.data.toList)
  rw[hn,←Lib.size_eq] at this
  omega
 have hmin:min ((n:Int)+1) ((s.size:Int)+1)=((n+1:Nat):Int):=by omega
 have cc:=w_cnt47 s w
 rw[hn] at cc
 have hmk:=run_make_row' (P:=Tryz.prog) 109 9 (.string ⟨#[]⟩) 16 Tryz.underlying109 infoStr7 rfl .i64 .i64 (n+1) (by omega) (by omega) w
 have hbk:=sbk_made w 9 (n+1)
 have hb0:=box_below w (.cells (madeCells #[.string ⟨#[]⟩] (n+1)) 9)
 obtain ⟨w1,hw1⟩:∃w1,w.alloc (.cells (madeCells #[.string ⟨#[]⟩] (n+1)) 9)=w1:=⟨_,rfl⟩
 rw[hw1] at hmk hbk hb0
 rw[show ((n+1:Nat):Int)=(n:Int)+1 by omega] at hmk
 clear hn hw1
 go_enter Tryz.func83,Tryz.ntmps83
 go_wp2_with (go_at_call 106;refine cc.mono ?_;rintro e w2 ⟨rfl,hw2⟩;obtain rfl:=hw2.symm)
 go_loopw [0,10] (fun S I wx=>∃(t:ByteArray) (ps rs:List ByteArray),S= .string t∧I= .int .i64 ps.length∧SBk 9 wx w.heap.size (ps++rs)∧((ps++rs).length:Int)=n+1∧Hid (spl 47 [] (L s)=ps.map L++spl 47 [] (L t))∧((L t).count 47+ps.length:Int)=n∧Hid (∀p∈ps,p.size≤256)∧(t.size:Int)≤256∧Below w.heap.size w wx) (fun _ I _=>(n - intOf I).toNat)
 case atStart=>exact ⟨s,[],List.replicate (n+1) ⟨#[]⟩,rfl,rfl,hbk,by simp,hid (by simp),by simp[hnL],hid (by simp),by omega,hb0⟩
 case round=>
  obtain ⟨t,ps,rs,rfl,rfl,hk,hlen,hin,hcnt,hps,ht,hb⟩:=hrel
  have hlen2:=hlen
  rw[List.length_append] at hlen2
  obtain ⟨r1,c1,f1,hst⟩:=sbk_set (n:=n+1) hk uS7 zS7 (by omega) ps.length (by omega)
  by_cases hlt:(ps.length:Int) < n
  ·have cx:=fun w=>w_six47 t w
   have hlb:∀y,Below w.heap.size w (wr.setCell ⟨w.heap.size,ps.length,none⟩ (.string y)):=fun y=>below_set hb _ _ _ (Nat.le_refl _)
   have Hst:=hid hst
   have Hlb:=hid hlb
   clear hst hlb
   go_wp2_with (go_at_call 107;refine (cx _).mono ?_;rintro e w2 ⟨i,rfl,hi,rfl⟩;refine Hid.out ?_)
   rcases hi with ⟨rfl,h2⟩|⟨k,rfl,h2,h3,h4⟩
   ·exfalso
    have:(L t).count 47=0:=List.count_eq_zero.2 fun hm=>h2 _ hm rfl
    omega
   ·rw[L_len] at h2
    have z0:(0:Int)≤k:=by omega
    have z1:(k:Int)≤t.size:=by omega
    have z2:(0:Int)≤(k:Int)+1:=by omega
    have z3:(k:Int)+1≤t.size:=by omega
    have hA:L (t.extract 0 k)=(L t).take k:=by rw[L_extract t 0 k (by omega)];simp
    have hB:=L_from t (k+1)
    have hsz:(t.extract 0 k).size≤256:=by rw[←L_len,hA,List.length_take,L_len];omega
    have hsz2:(t.extract (k+1) t.size).size≤256:=by rw[←L_len,hB,List.length_drop,L_len];omega
    have hin2:Hid (spl 47 [] (L s)=(ps++[t.extract 0 k]).map L++spl 47 [] (L (t.extract (k+1) t.size))):=by
     show _=_
     rw[hin.out,h3,spl_hit7 _ _ h4,List.map_append,List.map_cons,hA,hB]
     simp
    have hcnt2:((L (t.extract (k+1) t.size)).count 47+(ps++[t.extract 0 k]).length:Int)=n:=by
     have e1:(L t).count 47=1+(L (t.extract (k+1) t.size)).count 47:=by
      conv=>lhs;rw[h3]
      rw[List.count_append,List.count_cons_self,hB,List.count_eq_zero.2 (fun hm=>h4 _ hm rfl)]
      omega
     rw[List.length_append,List.length_singleton]
     omega
    have hps2:Hid (∀p∈ps++[t.extract 0 k],p.size≤256):=by
     intro p hp
     rw[List.mem_append,List.mem_singleton] at hp
     rcases hp with hp|rfl
     ·exact hps.out p hp
     ·exact hsz
    obtain ⟨r,rs',rfl⟩:∃r rs',rs=r::rs':=by
     cases rs with
     |nil=>simp at hlen2;omega
     |cons r rs'=>exact ⟨r,rs',rfl⟩
    have hst2:=Hst.out (t.extract 0 k)
    rw[List.set_append_right _ _ (Nat.le_refl _),Nat.sub_self,List.set_cons_zero] at hst2
    have Hst2:=hid hst2
    have Hcnt2:=hid hcnt2
    have Hsz:=hid hsz
    have Hsz2:=hid hsz2
    clear hst2 hcnt2 hcnt h3 h4 hA hB hsz hsz2
    refine hid ?_
    go_wp2_with fail
    go_roundw
    case rel=>exact ⟨_,ps++[t.extract 0 k],rs',rfl,by simp,by simpa using Hst2.out,by simp at hlen ⊢ <;> omega,hin2,Hcnt2.out,hps2,by have:=Hsz2.out;omega,Hlb.out _⟩
    case measure=>simp[intOf] <;> omega
  ·have hfree:∀x∈L t,¬x=47:=fun x hx e=>by
    have:=List.count_pos_iff.2 (e ▸ hx)
    omega
   have hspl:Hid (spl 47 [] (L s)=(ps++[t]).map L):=by
    show _=_
    rw[hin.out,spl_free7 _ hfree,List.map_append,List.map_cons,List.map_nil]
   have hps2:Hid (∀p∈ps++[t],p.size≤256):=by
    intro p hp
    rw[List.mem_append,List.mem_singleton] at hp
    rcases hp with hp|rfl
    ·exact hps.out p hp
    ·omega
   obtain ⟨r,rfl⟩:∃r,rs=[r]:=by
    cases rs with
    |nil=>simp at hlen2;omega
    |cons r rs'=>
     cases rs' with
     |nil=>exact ⟨r,rfl⟩
     |cons a b=>simp at hlen2;omega
   have hst2:=hst t
   rw[List.set_append_right _ _ (Nat.le_refl _),Nat.sub_self,List.set_cons_zero] at hst2
   have Hst2:=hid hst2
   have Hlb:=hid (below_set hb w.heap.size ps.length (.string t) (Nat.le_refl _))
   have hcut:=fun W=>run_cut_all (P:=Tryz.prog) uS7 w.heap.size (n+1) (ps.length+1) (by omega) zS7 W
   rw[show ((ps.length+1:Nat):Int)=(ps.length:Int)+1 by omega] at hcut
   have hrd:=sbk_read (rs:=[]) (by rw[List.append_nil];exact hst2) (by simp) (by simp at hlen ⊢;unfold maxLen;omega) (fun p hp=>by have:=hps2.out p hp;unfold maxLen;omega)
   rw[List.append_nil,List.length_append,List.length_singleton,show ps.length+1=n+1 by simp at hlen;omega] at hrd
   have Hrd:=hid hrd
   have hpn:ps.length+1=n+1:=by simp at hlen;omega
   clear hrd
   clear hst hst2 hfree hin hps
   go_wp2_with fail
   go_ret
   exact ⟨_,rfl,ps++[t],Hrd.out,hspl.out.symm,hps2.out,Hlb.out⟩
set_option maxHeartbeats 1000000 in
set_option maxRecDepth 100000 in
theorem w_split (s:ByteArray) (w:World) (hs:s.size≤256):
  Calls Tryz.prog 53 #[.string s, .string ⟨#[47]⟩] w fun e w'=>∃v ps,e= .returned v∧SlR 1 strR w' v ps∧ps.map L=spl 47 [] (L s)∧(∀p∈ps,p.size≤256)∧Below w.heap.size w w':=by
 go_enter Tryz.func53,Tryz.ntmps53
 go_wp2_with (go_at_call 83;refine (w_gsplit s _ hs).mono ?_;rintro e w1 ⟨v,ps,rfl,h1,h2,h3,h4⟩)
 go_ret
 exact ⟨v,ps,rfl,h1,h2,h3,h4⟩
theorem cutB_parts {c:Int} {l:List Int} {A B:ByteArray} {f:Bool} (h:CutB c l A B f):L A=upTo c l∧L B=l.drop ((upTo c l).length+1)∧f=decide ((upTo c l).length < l.length):=by
 rcases h with ⟨rfl,h1,h2,h3⟩|⟨rfl,h1,h2⟩
 ·rw[upTo_all c l h3]
  refine ⟨h1, ?_,by simp⟩
  rw[h2,List.drop_of_length_le (by omega)]
 ·have e:upTo c l=L A:=by rw[h1];exact upTo_app c _ _ h2
  rw[e]
  refine ⟨rfl, ?_, ?_⟩
  ·conv=>rhs;rw[h1]
   rw[show L A++c::L B=(L A++[c])++L B by simp,List.drop_left' (by simp)]
  ·have:=congrArg List.length h1
   simp at this
   simp
   omega
theorem Stands.lt {w:World} {b:Nat} {cs:Array Value} {T:TypeId} (h:Stands w b cs T):b < w.heap.size:=by
 unfold Stands at h
 exact (Array.getElem?_eq_some_iff.1 h).1
def StepP (base:Nat) (R:Option Sp) (e:Ending) (w':World):Prop:=match R with
 |some x=>∃v nm ar,e= .returned (.tuple #[.agg #[.string nm,v, .string ar], .bool true])∧L nm=x.1∧L ar=x.2.2∧OwnU base w' v x.2.1
 |none=>∃nm ao n cap ar,e= .returned (.tuple #[.agg #[.string nm, .slice ao n cap, .string ar], .bool false])
set_option maxHeartbeats 4000000 in
set_option maxRecDepth 100000 in
theorem w_pstep (s:ByteArray) (w:World) (hT:Tab w) (hs:s.size≤256):
  Calls Tryz.prog 54 #[.string s] w fun e w'=>StepP w.heap.size (stepF (L s)) e w'∧Below w.heap.size w w':=by
 obtain ⟨R,hR⟩:∃R,stepF (L s)=R:=⟨_,rfl⟩
 rw[hR]
 have HR:=hid hR
 clear hR
 go_enter Tryz.func54,Tryz.ntmps54
 go_wp2_with (go_at_call 84;refine (w_cut58 s _ (by unfold maxLen;omega)).mono ?_;rintro e w1 ⟨A,B,f,rfl,hc,b1⟩;refine Hid.out ?_)
 obtain ⟨eA,eB,ef⟩:=cutB_parts hc
 have hAs:A.size≤256:=by rw[←L_len,eA];have:=upTo_len 58 (L s);rw[L_len] at this;omega
 have t1:Stands w1 w.heap.size #[.string ⟨#[]⟩, .slice none 0 0, .string ⟨#[]⟩] 47:=(stands_new w _ _).below b1
 have hb1:=below_trans (box_below w (.cells #[.string ⟨#[]⟩, .slice none 0 0, .string ⟨#[]⟩] 47)) b1
 clear hc ef b1
 refine hid ?_
 go_wp2_with (go_at_call 84;refine (w_cut64 A _ (by unfold maxLen;omega)).mono ?_;rintro e w2 ⟨C,D,g,rfl,hc,b2⟩;refine Hid.out ?_)
 obtain ⟨eC,eD,eg⟩:=cutB_parts hc
 have hCs:C.size≤256:=by rw[←L_len,eC];have:=upTo_len 64 (L A);rw[L_len] at this;omega
 have hDs:D.size≤256:=by rw[←L_len,eD,List.length_drop,L_len];omega
 have t2:=t1.below b2
 have hb2:=below_trans hb1 b2
 have hF:Hid (R=if g=true∧¬(punF (L D)).2=0 then none else if nmF (L C)=true then some (L C,if g=true then (punF (L D)).1 else [],L B) else none):=by
  show _=_
  rw[←HR.out,eg,eC,eD,eB,eA]
  unfold stepF
  simp only[decide_eq_true_eq]
 have cn:=w_pnamed C w2 (by unfold maxLen;omega)
 clear hc eg b2 eA eB eC eD HR t1 hb1
 refine hid ?_
 cases hn:nmF (L C)
 ·rw[hn] at cn
  have hR:Hid (R=none):=by
   show _=_
   rw[hF.out,hn]
   split <;> simp
  clear hn hF
  go_wp2_with (go_at_call 85;refine cn.mono ?_;rintro e w3 ⟨rfl,b3⟩;have t3:=t2.below b3;have m0:=t3.cell 0 _ rfl;have m1:=t3.cell 1 _ rfl;have m2:=t3.cell 2 _ rfl;have f1:=t3.free;have hb3:=below_trans hb2 b3)
  obtain ⟨W5,hW5,s5,b5⟩:∃W5,(((w3.setCell ⟨w.heap.size,0,none⟩ (.string ⟨#[]⟩)).setCell ⟨w.heap.size,1,none⟩ (.slice none 0 0)).setCell ⟨w.heap.size,2,none⟩ (.string ⟨#[]⟩))=W5∧Stands W5 w.heap.size #[.string ⟨#[]⟩, .slice none 0 0, .string ⟨#[]⟩] 47∧Below w.heap.size w W5:=
   ⟨_,rfl,((t3.set 0 _).set 1 _).set 2 _,below_set (below_set (below_set hb3 _ 0 _ (Nat.le_refl _)) _ 1 _ (Nat.le_refl _)) _ 2 _ (Nat.le_refl _)⟩
  rw[hW5]
  have x0:=s5.cell 0 _ rfl
  have x1:=s5.cell 1 _ rfl
  have x2:=s5.cell 2 _ rfl
  refine bodyPost_ret (v:= .tuple #[.agg #[.string ⟨#[]⟩, .slice none 0 0, .string ⟨#[]⟩], .bool false]) (by simp[results,Tryz.results54,go_sem,x0,x1,x2]) rfl ⟨?_,b5⟩
  rw[hR.out]
  exact ⟨_,_,_,_,_,rfl⟩
 ·rw[hn] at cn
  cases g
  ·have hR:Hid (R=some (L C,[],L B)):=by
    show _=_
    rw[hF.out,hn]
    simp
   clear hn hF
   go_wp2_with (go_at_call 85;refine cn.mono ?_;rintro e w3 ⟨rfl,b3⟩;have t3:=t2.below b3;have hb3:=below_trans hb2 b3;have t4:=t3.below (box_below w3 (.cells #[.string C, .slice none 0 0, .string B] 47));have hb4:=below_trans hb3 (box_below w3 (.cells #[.string C, .slice none 0 0, .string B] 47));have u4:=stands_new w3 #[.string C, .slice none 0 0, .string B] 47;have m0:=t4.cell 0 _ rfl;have m1:=t4.cell 1 _ rfl;have m2:=t4.cell 2 _ rfl;have f1:=t4.free;have n0:=u4.cell 0 _ rfl;have n1:=u4.cell 1 _ rfl;have n2:=u4.cell 2 _ rfl)
   obtain ⟨W5,hW5,s5,b5⟩:∃W5,((((w3.alloc (.cells #[.string C, .slice none 0 0, .string B] 47)).setCell ⟨w.heap.size,0,none⟩ (.string C)).setCell ⟨w.heap.size,1,none⟩ (.slice none 0 0)).setCell ⟨w.heap.size,2,none⟩ (.string B))=W5∧Stands W5 w.heap.size #[.string C, .slice none 0 0, .string B] 47∧Below w.heap.size w W5:=
    ⟨_,rfl,((t4.set 0 _).set 1 _).set 2 _,below_set (below_set (below_set hb4 _ 0 _ (Nat.le_refl _)) _ 1 _ (Nat.le_refl _)) _ 2 _ (Nat.le_refl _)⟩
   rw[hW5]
   have x0:=s5.cell 0 _ rfl
   have x1:=s5.cell 1 _ rfl
   have x2:=s5.cell 2 _ rfl
   refine bodyPost_ret (v:= .tuple #[.agg #[.string C, .slice none 0 0, .string B], .bool true]) (by simp[results,Tryz.results54,go_sem,x0,x1,x2]) rfl ⟨?_,b5⟩
   rw[hR.out]
   exact ⟨_,_,_,rfl,rfl,rfl,World.ownsRow_nil _ _ _ _⟩
  ·obtain ⟨u,E,hu⟩:∃u E,punF (L D)=(u,E):=⟨_,_,rfl⟩
   have cu:=fun W (h:Tab W)=>w_ppunitO D W h (by omega)
   rw[hu] at cu
   have hF2:Hid (R=if ¬E=0 then none else some (L C,u,L B)):=by
    show _=_
    rw[hF.out,hn,hu]
    by_cases e:E=0 <;> simp[e]
   clear hn hF hu
   by_cases hE:E=0
   ·subst hE
    have hR:Hid (R=some (L C,u,L B)):=by
     show _=_
     rw[hF2.out]
     simp
    clear hF2
    go_wp2_with (first
     |(go_at_call 85;refine cn.mono ?_;rintro e w3 ⟨rfl,b3⟩;have t3:=t2.below b3;have hb3:=below_trans hb2 b3;have t4:=t3.below (box_below w3 (.cells #[.string C, .slice none 0 0, .string B] 47));have hb4:=below_trans hb3 (box_below w3 (.cells #[.string C, .slice none 0 0, .string B] 47));have u4:=stands_new w3 #[.string C, .slice none 0 0, .string B] 47;have h34:=hb3.size)
     |(go_at_call 86;refine (cu _ (hT.below hb4)).mono ?_;rintro e w5 ⟨v,rfl,ov,b5⟩;refine Hid.out ?_))
    obtain ⟨ao,cap,rfl⟩:=own_form ov
    have t5:=t4.below b5
    have u5:=u4.below b5
    have hb5:=below_trans hb4 b5
    have u6:=u5.set 1 (.slice ao u.length cap)
    have t6:=t5.other 1 (.slice ao u.length cap) (show w.heap.size≠w3.heap.size by have:=t3.lt;omega)
    have n0:=u6.cell 0 _ rfl
    have n1:=u6.cell 1 _ rfl
    have n2:=u6.cell 2 _ rfl
    have f6:=t6.free
    have f5:=u5.free
    have m0:=t6.cell 0 _ rfl
    have m1:=t6.cell 1 _ rfl
    have m2:=t6.cell 2 _ rfl
    have k1:=u5.cell 1 _ rfl
    refine hid ?_
    go_wp2_with fail
    obtain ⟨W5,hW5,s5,b6⟩:∃W5,((((w5.setCell ⟨w3.heap.size,1,none⟩ (.slice ao u.length cap)).setCell ⟨w.heap.size,0,none⟩ (.string C)).setCell ⟨w.heap.size,1,none⟩ (.slice ao u.length cap)).setCell ⟨w.heap.size,2,none⟩ (.string B))=W5∧Stands W5 w.heap.size #[.string C, .slice ao u.length cap, .string B] 47∧Below w.heap.size w W5:=
     ⟨_,rfl,((t6.set 0 _).set 1 _).set 2 _,below_set (below_set (below_set (below_set hb5 _ 1 _ h34) _ 0 _ (Nat.le_refl _)) _ 1 _ (Nat.le_refl _)) _ 2 _ (Nat.le_refl _)⟩
    have h3:=t3.lt
    have ov2:OwnU w.heap.size W5 (.slice ao u.length cap) u:=by
     rw[←hW5]
     rw[size_al] at ov
     exact own_le (by omega) (own_other (own_other (own_other (own_other ov _ 1 _ (by omega)) _ 0 _ (by omega)) _ 1 _ (by omega)) _ 2 _ (by omega))
    rw[hW5]
    have x0:=s5.cell 0 _ rfl
    have x1:=s5.cell 1 _ rfl
    have x2:=s5.cell 2 _ rfl
    refine bodyPost_ret (v:= .tuple #[.agg #[.string C, .slice ao u.length cap, .string B], .bool true]) (by simp[results,Tryz.results54,go_sem,x0,x1,x2]) rfl ⟨?_,b6⟩
    rw[hR.out]
    exact ⟨_,_,_,rfl,rfl,rfl,ov2⟩
   ·have hR:Hid (R=none):=by
     show _=_
     rw[hF2.out]
     simp[hE]
    have hEb:(E !=0)=true:=by simpa using hE
    clear hF2 hE
    go_wp2_with (first
     |(go_at_call 85;refine cn.mono ?_;rintro e w3 ⟨rfl,b3⟩;have t3:=t2.below b3;have hb3:=below_trans hb2 b3;have t4:=t3.below (box_below w3 (.cells #[.string C, .slice none 0 0, .string B] 47));have hb4:=below_trans hb3 (box_below w3 (.cells #[.string C, .slice none 0 0, .string B] 47));have u4:=stands_new w3 #[.string C, .slice none 0 0, .string B] 47;have h34:=hb3.size)
     |(go_at_call 86;refine (cu _ (hT.below hb4)).mono ?_;rintro e w5 ⟨v,rfl,ov,b5⟩;have t5:=t4.below b5;have hb5:=below_trans hb4 b5;have f5:=t5.free;have m0:=t5.cell 0 _ rfl;have m1:=t5.cell 1 _ rfl;have m2:=t5.cell 2 _ rfl))
    obtain ⟨W5,hW5,s5,b6⟩:∃W5,(((w5.setCell ⟨w.heap.size,0,none⟩ (.string ⟨#[]⟩)).setCell ⟨w.heap.size,1,none⟩ (.slice none 0 0)).setCell ⟨w.heap.size,2,none⟩ (.string ⟨#[]⟩))=W5∧Stands W5 w.heap.size #[.string ⟨#[]⟩, .slice none 0 0, .string ⟨#[]⟩] 47∧Below w.heap.size w W5:=
     ⟨_,rfl,((t5.set 0 _).set 1 _).set 2 _,below_set (below_set (below_set hb5 _ 0 _ (Nat.le_refl _)) _ 1 _ (Nat.le_refl _)) _ 2 _ (Nat.le_refl _)⟩
    rw[hW5]
    have x0:=s5.cell 0 _ rfl
    have x1:=s5.cell 1 _ rfl
    have x2:=s5.cell 2 _ rfl
    refine bodyPost_ret (v:= .tuple #[.agg #[.string ⟨#[]⟩, .slice none 0 0, .string ⟨#[]⟩], .bool false]) (by simp[results,Tryz.results54,go_sem,x0,x1,x2]) rfl ⟨?_,b6⟩
    rw[hR.out]
    exact ⟨_,_,_,_,_,rfl⟩
end Go.Proofs.YtlokhciaaepenaaGreatDoor
