import Derived.Deep.RegionLaw
import Derived.Shelf.Abstract
import Derived.Test.YtlokhciaaepenaaGreatDoorProg
import Derived.Test.YtlokhciaaepenaaGreatDoorB2
set_option linter.unusedVariables false
set_option linter.unusedSimpArgs false
set_option maxRecDepth 100000
namespace Go.Proofs.YtlokhciaaepenaaGreatDoor
open Go.ChangeShapes Go.WideShapes Go.ChangeAt Go.RowKit
def prmR (w:World) (cs:List Value) (x:List Int×Int):Prop:=cs=[.string (strOfNums x.1), .int .i64 x.2]
def wrdR (w:World) (cs:List Value) (x:Wd):Prop:=∃vc,cs=[.string (strOfNums x.1), .int .i64 x.2.1, .int .i64 x.2.2.1, .int .u32 x.2.2.2.1,vc]∧SlR 2 opR w vc x.2.2.2.2
def insR (w:World) (cs:List Value) (x:Iz):Prop:=∃vc,cs=[.int .i64 x.1, .int .i64 x.2.1, .string (strOfNums x.2.2.1),vc]∧Rd .u32 w vc x.2.2.2
theorem prmR_below {w w':World} (g:Below w.heap.size w w') (cs:List Value) (x:List Int×Int) (h:prmR w cs x):prmR w' cs x:=h
theorem wrdR_below {w w':World} (g:Below w.heap.size w w') (cs:List Value) (x:Wd) (h:wrdR w cs x):wrdR w' cs x:=by
 obtain ⟨v,h1,h2⟩:=h
 exact ⟨v,h1,h2.below g (opR_below g)⟩
theorem insR_below {w w':World} (g:Below w.heap.size w w') (cs:List Value) (x:Iz) (h:insR w cs x):insR w' cs x:=by
 obtain ⟨v,h1,h2⟩:=h
 exact ⟨v,h1,h2.below g⟩
def RdW (w:World) (v:Value) (l:List Wd):Prop:=SlR 5 wrdR w v l
def RdI (w:World) (v:Value) (l:List Iz):Prop:=SlR 4 insR w v l
theorem RdW.below {w w':World} {v:Value} {l:List Wd} (h:RdW w v l) (g:Below w.heap.size w w'):RdW w' v l:=SlR.below h g (wrdR_below g)
theorem RdI.below {w w':World} {v:Value} {l:List Iz} (h:RdI w v l) (g:Below w.heap.size w w'):RdI w' v l:=SlR.below h g (insR_below g)
structure Mv where
 vs:Value
 vm:Value
 vw:Value
 vc:Value
 vt:Value
 vi:Value
def Mv.cs (v:Mv) (m:Mc) (o:ByteArray):Array Value:=#[v.vs,v.vm,v.vw,v.vc, .int .u32 m.base,v.vt, .int .i64 m.node,v.vi, .int .i64 m.self, .string o]
structure RdM (w:World) (v:Mv) (m:Mc) (o:ByteArray):Prop where
 stack:Rd .u32 w v.vs m.stack
 mem:Rd .u8 w v.vm m.mem
 words:RdW w v.vw m.words
 codes:Rd .i64 w v.vc m.codes
 tree:RdT w v.vt m.tree
 insts:RdI w v.vi m.insts
 out:strOfNums m.out=o
theorem RdM.below {w w':World} {v:Mv} {m:Mc} {o:ByteArray} (h:RdM w v m o) (g:Below w.heap.size w w'):RdM w' v m o:=
 ⟨h.stack.below g,h.mem.below g,h.words.below g,h.codes.below g,h.tree.below g,h.insts.below g,h.out⟩
theorem uW:Tryz.prog.underlying 24=some (.slice (Tryz.prog.elem 24)):=by kernel_rfl
theorem eW:Tryz.prog.elem 24=34:=by kernel_rfl
theorem zW (w:World):(sizeOf (Tryz.prog.elem 24)).run Tryz.prog w= .ok 5 w:=by rw[eW];exact Tryz.sizeOf34 w
theorem wrd_at {w:World} {v:Value} {l:List Wd} (h:RdW w v l) (i:Nat) (h1:i < l.length):
  ∃(b o:Nat) (nm:ByteArray) (vc:Value),(∀w',(Instr.indexAt 24 v (.int .i64 (i:Int))).run Tryz.prog w'= .ok (.pointer (some ⟨b,o,none⟩)) w')∧w.cell? ⟨b,o,none⟩=some (.string nm)∧w.cell? ⟨b,o+1,none⟩=some (.int .i64 l[i].2.1)∧w.cell? ⟨b,o+2,none⟩=some (.int .i64 l[i].2.2.1)∧w.cell? ⟨b,o+3,none⟩=some (.int .u32 l[i].2.2.2.1)∧w.cell? ⟨b,o+4,none⟩=some vc∧strOfNums l[i].1=nm∧RdO w vc l[i].2.2.2.2:=by
 obtain ⟨b,o,cs,r,hl,hc,vc,rfl,h2⟩:=slr_idxN h uW zW i h1
 exact ⟨b,o,_,vc,r,hc 0 (by omega),hc 1 (by omega),hc 2 (by omega),hc 3 (by omega),hc 4 (by omega),rfl,h2⟩
theorem uI:Tryz.prog.underlying 28=some (.slice (Tryz.prog.elem 28)):=by kernel_rfl
theorem eI:Tryz.prog.elem 28=43:=by kernel_rfl
theorem zI (w:World):(sizeOf (Tryz.prog.elem 28)).run Tryz.prog w= .ok 4 w:=by rw[eI];exact Tryz.sizeOf43 w
theorem ins_at {w:World} {v:Value} {l:List Iz} (h:RdI w v l) (i:Nat) (h1:i < l.length):
  ∃(b o:Nat) (ar:ByteArray) (vc:Value),(∀w',(Instr.indexAt 28 v (.int .i64 (i:Int))).run Tryz.prog w'= .ok (.pointer (some ⟨b,o,none⟩)) w')∧w.cell? ⟨b,o,none⟩=some (.int .i64 l[i].1)∧w.cell? ⟨b,o+1,none⟩=some (.int .i64 l[i].2.1)∧w.cell? ⟨b,o+2,none⟩=some (.string ar)∧w.cell? ⟨b,o+3,none⟩=some vc∧strOfNums l[i].2.2.1=ar∧Rd .u32 w vc l[i].2.2.2:=by
 obtain ⟨b,o,cs,r,hl,hc,vc,rfl,h2⟩:=slr_idxN h uI zI i h1
 exact ⟨b,o,_,vc,r,hc 0 (by omega),hc 1 (by omega),hc 2 (by omega),hc 3 (by omega),rfl,h2⟩
theorem uM:Tryz.prog.underlying 100=some (.slice (Tryz.prog.elem 100)):=by kernel_rfl
theorem eM:Tryz.prog.elem 100=103:=by kernel_rfl
theorem zM (w:World):(sizeOf (Tryz.prog.elem 100)).run Tryz.prog w= .ok 2 w:=by rw[eM];exact Tryz.sizeOf103 w
theorem prm_cell {w:World} {v:Value} {l:List (List Int×Int)} (h:SlR 2 prmR w v l) (i:Nat) (h1:i < l.length):
  ∃(b o:Nat) (nm:ByteArray),(∀w',(Instr.indexAt 100 v (.int .i64 (i:Int))).run Tryz.prog w'= .ok (.pointer (some ⟨b,o,none⟩)) w')∧w.cell? ⟨b,o,none⟩=some (.string nm)∧w.cell? ⟨b,o+1,none⟩=some (.int .i64 l[i].2)∧strOfNums l[i].1=nm:=by
 obtain ⟨b,o,cs,r,hl,hc,h2⟩:=slr_idxN h uM zM i h1
 have h3:cs=[.string (strOfNums l[i].1), .int .i64 l[i].2]:=h2
 subst h3
 exact ⟨b,o,_,r,hc 0 (by omega),hc 1 (by omega),rfl⟩
theorem str_eq8 (A B:ByteArray) (a b:List Int) (ha:bytesL a) (hb:bytesL b) (h1:strOfNums a=A) (h2:strOfNums b=B):(A.toList==B.toList)=decide (a=b):=by
 rw[str_beq,←h1,←h2]
 simp only[nums_eq a b ha hb]
def fdI (o:Option Nat):Int:=match o with
 |none=> -1
 |some k=>(k:Nat)
set_option maxHeartbeats 1000000 in
theorem w_r8find (v:Value) (l:List Pp) (s:ByteArray) (w:World) (h:SlR 2 propR w v l) (bl:∀x∈l,bytesL x.1):
  Calls Tryz.prog 42 #[v, .string s] w fun e w'=>e= .returned (.int .i64 (fdI (pfF l (L s))))∧w'=w:=by
 have hl:=slr_len h uR (P:=Tryz.prog)
 have hm:=slr_max h
 unfold maxLen at hm
 obtain ⟨R,hR⟩:∃R,fdI (pfF l (L s))=R:=⟨_,rfl⟩
 rw[hR]
 have HR:=hid hR
 clear hR
 go_enter Tryz.func42,Tryz.ntmps42
 go_wp2_with fail
 go_loop [5] (fun I=>∃k:Nat,(k:Int)≤l.length∧I= .int .i64 k∧Hid (∀j (hj:j < k) (g:j < l.length),¬l[j].1=L s)) (fun I=>(l.length - intOf I).toNat)
 case atStart=>exact ⟨0,by omega,rfl,hid (fun j hj=>by omega)⟩
 case round=>
  obtain ⟨k,hk,rfl,hp⟩:=hrel
  by_cases hlt:(k:Int) < l.length
  ·have hkl:k < l.length:=by omega
   obtain ⟨b,o,nm,vd,r,f0,f1,e0,_⟩:=prp_at8 h k hkl
   have hq:=str_eq8 nm s _ (L s) (bl _ (List.getElem_mem hkl)) (LB_bytes s) e0 (nums_LB s)
   by_cases hx:l[k].1=L s
   ·have hf:Hid (R=k):=by
     show _=_
     rw[←HR.out,pf_hit hkl hx (fun j hj=>hp.out j hj (by omega))]
     rfl
    rw[decide_eq_true hx] at hq
    clear hx e0
    go_wp2_with fail
    go_ret
    rw[hf.out]
    exact ⟨rfl,rfl⟩
   ·rw[decide_eq_false hx] at hq
    have hp2:Hid (∀j (hj:j < k+1) (g:j < l.length),¬l[j].1=L s):=by
     show ∀j _ _,_
     intro j hj g
     by_cases hjk:j < k
     ·exact hp.out j hjk g
     ·have:j=k:=by omega
      subst this
      exact hx
    clear hx e0
    go_wp2_with fail
    exact ⟨⟨k+1,by omega,by go_num,hp2⟩,by simp[intOf];omega⟩
  ·have hf:Hid (R= -1):=by
    show _=_
    have:pfF l (L s)=none:=by
     rw[pf_none]
     intro x hx
     obtain ⟨j,hj,rfl⟩:=List.getElem_of_mem hx
     exact hp.out j (by omega) hj
    rw[←HR.out,this]
    rfl
   go_wp2_with fail
   go_ret
   rw[hf.out]
   exact ⟨rfl,rfl⟩
set_option maxHeartbeats 2000000 in
set_option maxRecDepth 100000 in
theorem w_r8twin (v:Value) (t:List Nd) (c:Nat) (p:Int) (s:ByteArray) (vu:Value) (un:List Int) (w:World) (h:RdT w v t) (hu:Rd .u32 w vu un) (bt:∀x∈t,bytN x) (hc:c≤t.length):
  Calls Tryz.prog 41 #[v, .int .i64 c, .int .i64 p, .string s,vu] w fun e w'=>e= .returned (.bool (twF (t.take c) p (L s) un))∧Dr w w':=by
 have hm:=slr_max h
 unfold maxLen at hm
 obtain ⟨R,hR⟩:∃R,twF (t.take c) p (L s) un=R:=⟨_,rfl⟩
 rw[hR]
 have HR:=hid hR
 clear hR
 go_enter Tryz.func41,Tryz.ntmps41
 go_wp2_with fail
 go_loopw [11] (fun I wx=>∃k:Nat,(k:Int)≤c∧I= .int .i64 k∧Hid (twF (t.take k) p (L s) un=false)∧Dr w wx) (fun I _=>(c - intOf I).toNat)
 case atStart=>exact ⟨0,by omega,rfl,hid rfl,dr_refl _⟩
 case round=>
  obtain ⟨k,hk,rfl,hp,hg⟩:=hrel
  by_cases hlt:(k:Int) < c
  ·have hkl:k < t.length:=by omega
   obtain ⟨b1,o1,N1,u1,p1,c1,r1,f0,f1,f2,f3,f4,e1,hu1,hp1,hc1⟩:=nod_at (h.below (dr_below hg)) k hkl
   obtain ⟨ua,uq,rfl⟩:=rd_slice hu1
   have hq:=str_eq8 N1 s _ (L s) (bt _ (List.getElem_mem hkl)).1 (LB_bytes s) e1 (nums_LB s)
   have cu:=w_r3sameQ _ _ _ _ wr hu1 (hu.below (dr_below hg))
   have hsn:twF (t.take (k+1)) p (L s) un=(twF (t.take k) p (L s) un||(decide (t[k].2.2.1=p)&&(decide (t[k].1=L s)&&decide (t[k].2.1=un)))):=by
    rw[List.take_succ_eq_append_getElem hkl]
    unfold twF
    rw[List.any_append]
    simp
   have yes:(t[k].2.2.1=p∧t[k].1=L s∧t[k].2.1=un)→Hid (R=true):=by
    rintro ⟨g1,g2,g3⟩
    show _=_
    rw[←HR.out]
    unfold twF
    rw[List.any_eq_true]
    exact ⟨t[k],by rw[List.mem_take_iff_getElem];exact ⟨k,by omega,rfl⟩,by simp[g1,g2,g3]⟩
   have no:¬(t[k].2.2.1=p∧t[k].1=L s∧t[k].2.1=un)→Hid (twF (t.take (k+1)) p (L s) un=false):=by
    intro g
    show _=_
    rw[hsn,hp.out,Bool.false_or,Bool.eq_false_iff]
    intro hh
    simp only[Bool.and_eq_true,decide_eq_true_eq] at hh
    exact g hh
   obtain ⟨X,hX⟩:∃X,t[k].2.2.1=X:=⟨_,rfl⟩
   rw[hX] at f2
   by_cases h1:t[k].2.2.1=p
   ·have q1:(X==p)=true:=by rw[←hX];simpa using h1
    by_cases h2:t[k].1=L s
    ·rw[decide_eq_true h2] at hq
     by_cases h3:t[k].2.1=un
     ·rw[decide_eq_true h3] at cu
      have hf:=yes ⟨h1,h2,h3⟩
      clear h1 h2 h3 yes no hsn e1 hX
      go_wp2_with (go_at_call 9;refine cu.mono ?_;rintro e r9 ⟨rfl,d9⟩)
      go_ret
      obtain ⟨m,rfl⟩:=d9
      exact ⟨ret_b hf.out.symm,dr_more hg m⟩
     ·rw[decide_eq_false h3] at cu
      have hf:=no (fun g=>h3 g.2.2)
      clear h1 h2 h3 yes no hsn e1 hX
      go_wp2_with (go_at_call 9;refine cu.mono ?_;rintro e r9 ⟨rfl,d9⟩)
      obtain ⟨m,rfl⟩:=d9
      go_roundw
      case rel=>exact ⟨k+1,by omega,by go_num,hf,dr_more hg m⟩
      case measure=>simp[intOf];omega
    ·rw[decide_eq_false h2] at hq
     have hf:=no (fun g=>h2 g.2.1)
     clear h1 h2 yes no hsn e1 hX cu
     go_wp2_with fail
     go_roundw
     case rel=>exact ⟨k+1,by omega,by go_num,hf,hg⟩
     case measure=>simp[intOf];omega
   ·have q1:(X==p)=false:=by rw[←hX];simpa using h1
    have hf:=no (fun g=>h1 g.1)
    clear h1 yes no hsn e1 hX cu
    go_wp2_with fail
    go_roundw
    case rel=>exact ⟨k+1,by omega,by go_num,hf,hg⟩
    case measure=>simp[intOf];omega
  ·have hf:Hid (R=false):=by
    show _=_
    rw[←HR.out,←hp.out,show k=c by omega]
   go_wp2_with fail
   go_ret
   exact ⟨ret_b hf.out.symm,hg⟩
theorem run_at {w:World} (s:ByteArray) (k:Nat) (h:k < s.size) (hm:s.size≤maxLen):(Instr.index 9 (.string s) (.int .i64 (k:Int))).run Tryz.prog w= .ok (.int .u8 (s[k].toNat:Int)) w:=by
 unfold maxLen at hm
 rw[run_index_string (h:=Tryz.underlying9)]
 simp[h]
theorem run_bad (k:Nat) (hk:k < 6) (w:World):(Instr.index 9 (.string ⟨#[47,92,58,91,93,64]⟩) (.int .i64 (k:Int))).run Tryz.prog w= .ok (.int .u8 (([47,92,58,91,93,64]:List Int).getD k 0)) w:=by
 rw[run_at ⟨#[47,92,58,91,93,64]⟩ k (show k < 6 from hk) (by decide)]
 have:k=0∨k=1∨k=2∨k=3∨k=4∨k=5:=by omega
 rcases this with rfl|rfl|rfl|rfl|rfl|rfl <;> rfl
set_option maxHeartbeats 1000000 in
set_option maxRecDepth 100000 in
theorem w_rnamed (s:ByteArray) (w:World) (hs:s.size≤maxLen):
  Calls Tryz.prog 34 #[.string s] w fun e w'=>e= .returned (.bool (nmF (L s)))∧Below w.heap.size w w':=by
 have hs2:=hs
 unfold maxLen at hs2
 have z0:=run_bad 0 (by omega)
 have z1:=run_bad 1 (by omega)
 have z2:=run_bad 2 (by omega)
 have z3:=run_bad 3 (by omega)
 have z4:=run_bad 4 (by omega)
 have z5:=run_bad 5 (by omega)
 simp only[List.getD_eq_getElem?_getD,List.getElem?_cons_zero,List.getElem?_cons_succ,Option.getD_some,Int.cast_ofNat_Int] at z0 z1 z2 z3 z4 z5
 by_cases h1:1≤s.size∧s.size≤31
 ·obtain ⟨h1,h31⟩:=h1
  go_enter Tryz.func34,Tryz.ntmps34
  go_wp2_with fail
  go_loopw [3] (fun I wx=>∃(k:Nat),(k:Int)≤s.size∧I= .int .i64 k∧Hid (((L s).take k).all nmC=true)∧Below w.heap.size w wx) (fun I _=>(s.size - intOf I).toNat)
  case atStart=>exact ⟨0,by omega,rfl,hid rfl,Below.refl _ _⟩
  case round=>
   obtain ⟨k,hk,rfl,ha,hb⟩:=hrel
   by_cases hlt:(k:Int) < s.size
   ·have hkk:k < s.size:=by omega
    obtain ⟨c,hc⟩:∃c,(s[k].toNat:Int)=c:=⟨_,rfl⟩
    have hcb:=L_bd s k hkk
    rw[hc] at hcb
    obtain ⟨c0,c1⟩:=hcb
    have hLd:Hid (L s=(L s).take k++c::(L s).drop (k+1)):=by
     show _=_
     rw[←hc,←L_drop s k hkk,List.take_append_drop]
    have hLt:Hid ((L s).take (k+1)=(L s).take k++[c]):=by show _=_;rw[←hc];exact L_take s k hkk
    cases hcc:nmC c
    ·have hf:Hid (nmF (L s)=false):=by show _=_;rw[hLd.out];exact nm_mid _ _ _ hcc
     have hcs:c < 33∨126 < c∨(65≤c∧c≤90)∨c=47∨c=92∨c=58∨c=91∨c=93∨c=64:=by simp[nmC] at hcc;omega
     have hrun:=run_at (w:=wr) s k hkk hs
     rw[hc] at hrun
     clear hcc hLd hLt hc
     rcases hcs with h|h|h|h|h|h|h|h|h
     ·go_wp2_with fail
      go_ret
      exact ⟨ret_b hf.out.symm,hb⟩
     ·go_wp2_with fail
      go_ret
      exact ⟨ret_b hf.out.symm,hb⟩
     ·obtain ⟨h,h'⟩:=h
      go_wp2_with fail
      go_ret
      exact ⟨ret_b hf.out.symm,hb⟩
     all_goals subst h
     all_goals go_wp2_with fail
     all_goals go_rounds 7
     all_goals go_ret
     all_goals exact ⟨ret_b hf.out.symm,hb⟩
    ·have ha2:Hid (((L s).take (k+1)).all nmC=true):=by
      show _=_
      rw[hLt.out,List.all_append,ha.out]
      simp[hcc]
     simp[nmC] at hcc
     have hrun:=run_at (w:=wr) s k hkk hs
     rw[hc] at hrun
     obtain ⟨q1,q2,q3,n1,n2,n3,n4,n5,n6⟩:=hcc
     clear hLd hLt hc
     rcases q3 with hq|hq
     all_goals go_wp2_with fail
     all_goals go_rounds 7
     all_goals go_roundw
     case rel=>exact ⟨k+1,by omega,by go_num,ha2,hb⟩
     case measure=>simp[intOf];omega
     case rel=>exact ⟨k+1,by omega,by go_num,ha2,hb⟩
     case measure=>simp[intOf];omega
   ·have hf:Hid (nmF (L s)=true):=by
     show _=_
     have:=ha.out
     rw[List.take_of_length_le (by rw[L_len];omega)] at this
     unfold nmF
     rw[this,L_len]
     simp
     omega
    go_wp2_with fail
    go_ret
    exact ⟨ret_b hf.out.symm,hb⟩
 ·have hf:Hid (nmF (L s)=false):=by
   show _=_
   unfold nmF
   rw[L_len]
   simp
   omega
  by_cases h0:s.size < 1
  ·go_enter Tryz.func34,Tryz.ntmps34
   go_wp2_with fail
   go_ret
   exact ⟨ret_b hf.out.symm,Below.refl _ _⟩
  ·have h32:(31:Int) < s.size:=by omega
   go_enter Tryz.func34,Tryz.ntmps34
   go_wp2_with fail
   go_ret
   exact ⟨ret_b hf.out.symm,Below.refl _ _⟩
theorem strR_below {w w':World} (cs:List Value) (s:ByteArray) (h:strR w cs s):strR w' cs s:=h
def dgs:ByteArray:=⟨#[48,49,50,51,52,53,54,55,56,57,97,98,99,100,101,102,103,104,105,106,107,108,109,110,111,112,113,114,115,116,117,118,119,120,121,122]⟩
theorem dgs_at:∀k:Fin 36,((dgs.data[k.val]!).toNat:Int)=dg k.val:=by decide
theorem dgs_size:dgs.size=36:=by decide
theorem dgs_get (k:Nat) (h:k < dgs.size):((dgs[k]'h).toNat:Int)=dg k:=by
 have e:=dgs_at ⟨k,by rw[dgs_size] at h;exact h⟩
 have h2:k < dgs.data.size:=h
 simp only[getElem!_pos dgs.data k h2] at e
 exact e
theorem run_dgs0 (k:Nat) (hk:(k:Int) < 36) (w:World):(Instr.index 9 (.string dgs) (.int .i64 k)).run Tryz.prog w= .ok (.int .u8 (dg k)) w:=by
 have hs:k < dgs.size:=by rw[dgs_size];omega
 rw[run_index_string _ _ _ _ _ Tryz.underlying9,dif_pos ⟨by omega,by rw[dgs_size];omega⟩]
 simp only[Int.toNat_natCast,dgs_get k hs]
theorem run_dgs (k:Nat) (hk:(k:Int) < 36) (w:World):(Instr.index 9 (.string ⟨#[48,49,50,51,52,53,54,55,56,57,97,98,99,100,101,102,103,104,105,106,107,108,109,110,111,112,113,114,115,116,117,118,119,120,121,122]⟩) (.int .i64 k)).run Tryz.prog w= .ok (.int .u8 (dg k)) w:=
 run_dgs0 k hk w
theorem w_rsmall (c:Int) (w:World) (h0:0≤c) (h1:c < 256):Calls Tryz.prog 113 #[.int .u8 c] w fun e w'=>e= .returned (.int .u8 (sm c))∧w'=w:=by
 go_enter Tryz.func113,Tryz.ntmps113
 go_wp2
 all_goals go_ret
 all_goals exact ⟨ret_i (by unfold sm;omega),rfl⟩
set_option maxHeartbeats 400000 in
theorem w_rvalue (c b:Int) (w:World) (h0:0≤c) (h1:c < 256) (g0:0≤b) (g1:b < 4294967296):
  Calls Tryz.prog 93 #[.int .u8 c, .int .u32 b] w fun e w'=>e= .returned (.tuple #[.int .u32 (vl c b), .bool (isD c b)])∧Gr w w':=by
 by_cases hb:b < 2∨36 < b
 ·obtain ⟨e1,e2⟩:=isD_unfit c b hb
  rw[e1,e2]
  rcases hb with hb|hb
  ·go_enter Tryz.func93,Tryz.ntmps93
   go_wp2
   go_ret2
   exact ⟨rfl,Gr.refl _⟩
  ·have:¬b < 2:=by omega
   go_enter Tryz.func93,Tryz.ntmps93
   go_wp2
   go_ret2
   exact ⟨rfl,Gr.refl _⟩
 ·have b0:2≤b:=by omega
  have b1:b≤36:=by omega
  clear hb
  obtain ⟨s0,s1⟩:=sm_bd c h0 h1
  go_enter Tryz.func93,Tryz.ntmps93
  go_wp2
  go_loopw [6] (fun i wx=>∃k:Nat,(k:Int)≤b∧i= .int .i64 k∧(∀j:Nat,j < k→¬dg j=sm c)∧Gr w wx) (fun i _=>(b - intOf i).toNat)
  case atStart=>exact ⟨0,by omega,rfl,fun j hj=>absurd hj (by omega),Gr.refl _⟩
  case round=>
   obtain ⟨k,hk,rfl,hm,hgr⟩:=hrel
   have HM:Hid (∀j:Nat,j < k→¬dg j=sm c):=hm
   clear hm
   by_cases hlt:(k:Int) < b
   ·have hr:=run_dgs k (by omega)
    by_cases he:dg k=sm c
    ·obtain ⟨e1,e2⟩:=isD_hit c b k h0 h1 b0 b1 (by omega) hlt he
     have E1:Hid (isD c b=true):=e1
     have E2:Hid (vl c b=k):=e2
     clear e1 e2
     go_wp2
     go_quiet ((go_at_call 113;exact Calls.quiet_of_same (w_rsmall _ _ h0 h1)))
     go_wp2
     go_ret2
     exact ⟨ret_ib E2.out.symm E1.out.symm,grown_drewN hgr _⟩
    ·go_wp2
     go_quiet ((go_at_call 113;exact Calls.quiet_of_same (w_rsmall _ _ h0 h1)))
     go_wp2
     go_roundw
     case rel=>
      refine ⟨k+1,by omega,by go_num,fun j hj=> ?_,grown_drewN hgr _⟩
      by_cases hjk:j=k
      ·subst hjk;exact he
      ·exact HM.out j (by omega)
     case measure=>simp[intOf];omega
   ·obtain ⟨e1,e2⟩:=isD_miss c b h0 h1 (fun j hj=>HM.out j (by omega))
    have E1:Hid (isD c b=false):=e1
    have E2:Hid (vl c b=0):=e2
    clear e1 e2
    go_wp2
    go_ret2
    exact ⟨ret_ib E2.out.symm E1.out.symm,hgr⟩
set_option maxHeartbeats 2000000 in
theorem w_rparse_pos (s:ByteArray) (b:Int) (w:World) (hs:s.size≤maxLen) (b0:2≤b) (b1:b≤36) (hz:0 < s.size) (hc:((s[0].toNat:Int)==45)=false):
  Calls Tryz.prog 67 #[.string s, .int .u32 b] w fun e w'=>e= .returned (.tuple #[.int .u32 (prsT false (L s) b).1, .int .i64 (prsT false (L s) b).2])∧Gr w w':=by
 unfold maxLen at hs
 have hz2:((s.size:Int)==0)=false:=beq_eq_false_iff_ne.2 (by omega)
 go_enter Tryz.func67,Tryz.ntmps67
 go_wp2_with fail
 go_loopw [7,8,9] (fun N B i wx=>∃(k:Nat) (n:Int) (bg:Bool),(k:Int)≤s.size∧i= .int .i64 k∧N= .int .u64 n∧B= .bool bg∧Hid (allD b ((L s).take k)=true)∧0≤n∧n≤154618822655∧Hid (bg=true→4294967296≤num b ((L s).take k))∧Hid (bg=false→n=num b ((L s).take k)∧n < 4294967296)∧Gr w wx) (fun _ _ i _=>(s.size - intOf i).toNat)
 case atStart=>exact ⟨0,0,false,by omega,rfl,rfl,rfl,by show _=_;simp[allD],by omega,by omega,hid (fun h=>by cases h),hid (fun _=>⟨by simp[num],by omega⟩),Gr.refl _⟩
 case round=>
  obtain ⟨k,n,bg,hk,rfl,rfl,rfl,hA,n0,n1,hB1,hB2,hgr⟩:=hrel
  by_cases hlt:(k:Int) < s.size
  ·have hks:k < s.size:=by omega
   obtain ⟨c0,c1⟩:=L_bd s k hks
   have ht:Hid ((L s).take (k+1)=(L s).take k++[(s[k].toNat:Int)]):=L_take s k hks
   obtain ⟨v0,v1⟩:=vl_bd (s[k].toNat:Int) b c0 c1
   cases hd:isD (s[k].toNat:Int) b
   ·have hfin:Hid (prsT false (L s) b=(0,15)):=by
     show _=_
     have e:L s=(L s).take k++(s[k].toNat:Int)::(L s).drop (k+1):=by rw[←L_drop s k hks,List.take_append_drop]
     have:allD b (L s)=false:=by rw[e];exact allD_mid b _ _ _ hd
     unfold prsT;simp[this]
    go_wp2_with (go_at_call 93;refine (w_rvalue _ _ _ c0 c1 (by omega) (by omega)).mono ?_;rintro e w1 ⟨rfl,hg1⟩)
    go_ret2
    exact ⟨by rw[hfin.out];rfl,grown_trans hgr hg1⟩
   ·have hA2:Hid (allD b ((L s).take (k+1))=true):=by show _=_;rw[ht.out,allD_snoc,hA.out,hd];rfl
    cases bg
    ·obtain ⟨hn,n2⟩:=hB2.out rfl
     obtain ⟨m0,m1⟩:=mul_b n b n0 n2 b0 b1
     have hnum:Hid (num b ((L s).take (k+1))=n*b+vl (s[k].toNat:Int) b):=by show _=_;rw[ht.out,num_snoc,←hn]
     clear hn
     rcases (show 4294967296≤n*b+vl (s[k].toNat:Int) b∨n*b+vl (s[k].toNat:Int) b < 4294967296 by omega) with hbig|hbig
     ·have hbb:decide (4294967296≤n*b+vl (s[k].toNat:Int) b)=true:=by simp;omega
      go_wp2_with (go_at_call 93;refine (w_rvalue _ _ _ c0 c1 (by omega) (by omega)).mono ?_;rintro e w1 ⟨rfl,hg1⟩)
      go_roundw
      case rel=>exact ⟨k+1,n*b+vl (s[k].toNat:Int) b,true,by omega,by go_num,rfl,rfl,hA2,by omega,by omega,hid (fun _=>by rw[hnum.out];omega),hid (fun h=>by cases h),grown_trans hgr hg1⟩
      case measure=>simp[intOf];omega
     ·have hbb:decide (4294967296≤n*b+vl (s[k].toNat:Int) b)=false:=by simp;omega
      go_wp2_with (go_at_call 93;refine (w_rvalue _ _ _ c0 c1 (by omega) (by omega)).mono ?_;rintro e w1 ⟨rfl,hg1⟩)
      go_roundw
      case rel=>exact ⟨k+1,n*b+vl (s[k].toNat:Int) b,false,by omega,by go_num,rfl,rfl,hA2,by omega,by omega,hid (fun h=>by cases h),hid (fun _=>⟨by rw[hnum.out],hbig⟩),grown_trans hgr hg1⟩
      case measure=>simp[intOf];omega
    ·have hge:Hid (4294967296≤num b ((L s).take (k+1))):=by
      show _≤_
      rw[ht.out,num_snoc]
      have:=mul_ge _ b (hB1.out rfl) b0
      omega
     go_wp2_with (go_at_call 93;refine (w_rvalue _ _ _ c0 c1 (by omega) (by omega)).mono ?_;rintro e w1 ⟨rfl,hg1⟩)
     go_roundw
     case rel=>exact ⟨k+1,n,true,by omega,by go_num,rfl,rfl,hA2,by omega,by omega,hid (fun _=>hge.out),hid (fun h=>by cases h),grown_trans hgr hg1⟩
     case measure=>simp[intOf];omega
  ·obtain rfl:k=s.size:=by omega
   have hne:¬L s=[]:=by intro h;have:=L_len s;rw[h] at this;simp at this;omega
   have htk:(L s).take s.size=L s:=List.take_of_length_le (by rw[L_len];exact Nat.le_refl _)
   rw[htk] at hA hB1 hB2
   cases bg
   ·obtain ⟨hn,n2⟩:=hB2.out rfl
    have hfin:Hid (prsT false (L s) b=(n,0)):=by
     show _=_
     unfold prsT;rw[if_neg hne,if_neg (by rw[hA.out];decide),if_neg (by omega)];simp[←hn]
    clear hn htk
    go_wp2_with fail
    go_ret2
    exact ⟨by rw[hfin.out];exact ret_ii (by simp;try omega) rfl,hgr⟩
   ·have hfin:Hid (prsT false (L s) b=(0,4)):=by
     show _=_
     have:=hB1.out rfl
     unfold prsT;rw[if_neg hne,if_neg (by rw[hA.out];decide),if_pos this]
    clear htk
    go_wp2_with fail
    go_ret2
    exact ⟨by rw[hfin.out];rfl,hgr⟩
set_option maxHeartbeats 2000000 in
theorem w_rparse_neg (s:ByteArray) (b:Int) (w:World) (hs:s.size≤maxLen) (b0:2≤b) (b1:b≤36) (hz:1 < s.size) (hc:((s[0]'(by omega)).toNat:Int)=45):
  Calls Tryz.prog 67 #[.string s, .int .u32 b] w fun e w'=>e= .returned (.tuple #[.int .u32 (prsT true (L s).tail b).1, .int .i64 (prsT true (L s).tail b).2])∧Gr w w':=by
 unfold maxLen at hs
 have hz2:(((s.size - 1:Nat):Int)==0)=false:=beq_eq_false_iff_ne.2 (by omega)
 have hz3:0 < s.size:=by omega
 have hc2:((s[0].toNat:Int)==45)=true:=by simp[hc]
 obtain ⟨T,hT⟩:∃T,s.extract 1 s.size=T:=⟨_,rfl⟩
 have hTz:T.size=s.size - 1:=by rw[←hT];simp
 have hTL:Hid (L T=(L s).tail):=by show _=_;rw[←hT];exact L_tail s
 rw[←hTL.out]
 clear hc
 go_enter Tryz.func67,Tryz.ntmps67
 go_wp2_with fail
 have hTz2:0 < T.size:=by omega
 have hTz3:T.size≤9223372036854775807:=by omega
 clear hT hTz
 go_loopw [7,8,9] (fun N B i wx=>∃(k:Nat) (n:Int) (bg:Bool),(k:Int)≤T.size∧i= .int .i64 k∧N= .int .u64 n∧B= .bool bg∧Hid (allD b ((L T).take k)=true)∧0≤n∧n≤154618822655∧Hid (bg=true→4294967296≤num b ((L T).take k))∧Hid (bg=false→n=num b ((L T).take k)∧n < 4294967296)∧Gr w wx) (fun _ _ i _=>(T.size - intOf i).toNat)
 case atStart=>exact ⟨0,0,false,by omega,rfl,rfl,rfl,by show _=_;simp[allD],by omega,by omega,hid (fun h=>by cases h),hid (fun _=>⟨by simp[num],by omega⟩),Gr.refl _⟩
 case round=>
  obtain ⟨k,n,bg,hk,rfl,rfl,rfl,hA,n0,n1,hB1,hB2,hgr⟩:=hrel
  by_cases hlt:(k:Int) < T.size
  ·have hks:k < T.size:=by omega
   obtain ⟨c0,c1⟩:=L_bd T k hks
   have ht:Hid ((L T).take (k+1)=(L T).take k++[(T[k].toNat:Int)]):=L_take T k hks
   obtain ⟨v0,v1⟩:=vl_bd (T[k].toNat:Int) b c0 c1
   cases hd:isD (T[k].toNat:Int) b
   ·have hfin:Hid (prsT true (L T) b=(0,15)):=by
     show _=_
     have e:L T=(L T).take k++(T[k].toNat:Int)::(L T).drop (k+1):=by rw[←L_drop T k hks,List.take_append_drop]
     have:allD b (L T)=false:=by rw[e];exact allD_mid b _ _ _ hd
     unfold prsT;simp[this]
    go_wp2_with (go_at_call 93;refine (w_rvalue _ _ _ c0 c1 (by omega) (by omega)).mono ?_;rintro e w1 ⟨rfl,hg1⟩)
    go_ret2
    exact ⟨by rw[hfin.out];rfl,grown_trans hgr hg1⟩
   ·have hA2:Hid (allD b ((L T).take (k+1))=true):=by show _=_;rw[ht.out,allD_snoc,hA.out,hd];rfl
    cases bg
    ·obtain ⟨hn,n2⟩:=hB2.out rfl
     obtain ⟨m0,m1⟩:=mul_b n b n0 n2 b0 b1
     have hnum:Hid (num b ((L T).take (k+1))=n*b+vl (T[k].toNat:Int) b):=by show _=_;rw[ht.out,num_snoc,←hn]
     clear hn
     rcases (show 4294967296≤n*b+vl (T[k].toNat:Int) b∨n*b+vl (T[k].toNat:Int) b < 4294967296 by omega) with hbig|hbig
     ·have hbb:decide (4294967296≤n*b+vl (T[k].toNat:Int) b)=true:=by simp;omega
      go_wp2_with (go_at_call 93;refine (w_rvalue _ _ _ c0 c1 (by omega) (by omega)).mono ?_;rintro e w1 ⟨rfl,hg1⟩)
      go_roundw
      case rel=>exact ⟨k+1,n*b+vl (T[k].toNat:Int) b,true,by omega,by go_num,rfl,rfl,hA2,by omega,by omega,hid (fun _=>by rw[hnum.out];omega),hid (fun h=>by cases h),grown_trans hgr hg1⟩
      case measure=>simp[intOf];omega
     ·have hbb:decide (4294967296≤n*b+vl (T[k].toNat:Int) b)=false:=by simp;omega
      go_wp2_with (go_at_call 93;refine (w_rvalue _ _ _ c0 c1 (by omega) (by omega)).mono ?_;rintro e w1 ⟨rfl,hg1⟩)
      go_roundw
      case rel=>exact ⟨k+1,n*b+vl (T[k].toNat:Int) b,false,by omega,by go_num,rfl,rfl,hA2,by omega,by omega,hid (fun h=>by cases h),hid (fun _=>⟨by rw[hnum.out],hbig⟩),grown_trans hgr hg1⟩
      case measure=>simp[intOf];omega
    ·have hge:Hid (4294967296≤num b ((L T).take (k+1))):=by
      show _≤_
      rw[ht.out,num_snoc]
      have:=mul_ge _ b (hB1.out rfl) b0
      omega
     go_wp2_with (go_at_call 93;refine (w_rvalue _ _ _ c0 c1 (by omega) (by omega)).mono ?_;rintro e w1 ⟨rfl,hg1⟩)
     go_roundw
     case rel=>exact ⟨k+1,n,true,by omega,by go_num,rfl,rfl,hA2,by omega,by omega,hid (fun _=>hge.out),hid (fun h=>by cases h),grown_trans hgr hg1⟩
     case measure=>simp[intOf];omega
  ·obtain rfl:k=T.size:=by omega
   have hne:¬L T=[]:=by intro h;have:=L_len T;rw[h] at this;simp at this;omega
   have htk:(L T).take T.size=L T:=List.take_of_length_le (by rw[L_len];exact Nat.le_refl _)
   rw[htk] at hA hB1 hB2
   cases bg
   ·obtain ⟨hn,n2⟩:=hB2.out rfl
    have hfin:Hid (prsT true (L T) b=((4294967296 - n)%4294967296,0)):=by
     show _=_
     unfold prsT;rw[if_neg hne,if_neg (by rw[hA.out];decide),if_neg (by omega)];simp[←hn]
    clear hn htk
    go_wp2_with fail
    go_ret2
    exact ⟨by rw[hfin.out];exact ret_ii (by simp;try omega) rfl,hgr⟩
   ·have hfin:Hid (prsT true (L T) b=(0,4)):=by
     show _=_
     have:=hB1.out rfl
     unfold prsT;rw[if_neg hne,if_neg (by rw[hA.out];decide),if_pos this]
    clear htk
    go_wp2_with fail
    go_ret2
    exact ⟨by rw[hfin.out];rfl,hgr⟩
set_option maxHeartbeats 1000000 in
theorem w_rparse (s:ByteArray) (b:Int) (w:World) (hs:s.size≤maxLen) (g0:0≤b) (g1:b < 4294967296):
  Calls Tryz.prog 67 #[.string s, .int .u32 b] w fun e w'=>e= .returned (.tuple #[.int .u32 (prs (L s) b).1, .int .i64 (prs (L s) b).2])∧Gr w w':=by
 by_cases hb:b < 2∨36 < b
 ·have e1:prs (L s) b=(0,1):=by unfold prs;rw[if_pos hb]
  rw[e1]
  rcases hb with hb|hb
  ·go_enter Tryz.func67,Tryz.ntmps67
   go_wp2
   go_ret2
   exact ⟨rfl,Gr.refl _⟩
  ·have:¬b < 2:=by omega
   go_enter Tryz.func67,Tryz.ntmps67
   go_wp2
   go_ret2
   exact ⟨rfl,Gr.refl _⟩
 ·have b0:2≤b:=by omega
  have b1:b≤36:=by omega
  rcases (show s.size=0∨0 < s.size by omega) with hz|hz
  ·have e1:prs (L s) b=(0,15):=by
    have:L s=[]:=List.eq_nil_of_length_eq_zero (by rw[L_len];exact hz)
    unfold prs;rw[if_neg hb,this];simp[prsT]
   rw[e1]
   clear hb
   go_enter Tryz.func67,Tryz.ntmps67
   go_wp2
   all_goals go_ret2
   all_goals exact ⟨rfl,Gr.refl _⟩
  ·have hh:(L s).head? =some (s[0].toNat:Int):=by rw[List.head?_eq_getElem?,List.getElem?_eq_getElem (by rw[L_len];exact hz),L_get s 0 hz]
   by_cases hc:(s[0].toNat:Int)=45
   ·have e1:prs (L s) b=prsT true (L s).tail b:=by unfold prs;rw[if_neg hb,if_pos (by rw[hh,hc])]
    rw[e1]
    rcases (show s.size=1∨1 < s.size by omega) with h1|h1
    ·have e2:prsT true (L s).tail b=(0,15):=by
      have:(L s).tail=[]:=List.eq_nil_of_length_eq_zero (by rw[List.length_tail,L_len,h1])
      rw[this];simp[prsT]
     rw[e2]
     have hc2:((s[0].toNat:Int)==45)=true:=by simp[hc]
     clear hb e1 e2 hh hc
     unfold maxLen at hs
     go_enter Tryz.func67,Tryz.ntmps67
     go_wp2
     all_goals go_ret2
     all_goals exact ⟨rfl,Gr.refl _⟩
    ·exact w_rparse_neg s b w hs b0 b1 h1 hc
   ·have e1:prs (L s) b=prsT false (L s) b:=by unfold prs;rw[if_neg hb,if_neg (by rw[hh];intro h;exact hc (by simpa using h))]
    rw[e1]
    exact w_rparse_pos s b w hs b0 b1 hz (beq_eq_false_iff_ne.2 hc)
end Go.Proofs.YtlokhciaaepenaaGreatDoor
