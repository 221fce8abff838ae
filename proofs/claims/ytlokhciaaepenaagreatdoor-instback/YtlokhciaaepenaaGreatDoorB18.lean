import Derived.Deep.RegionHeld
import Derived.Deep.Cut
import Derived.Deep.CutRange
import Derived.Deep.DeepCutAuto
import Derived.Test.YtlokhciaaepenaaGreatDoorProg
import Derived.WalkKit
import Derived.Laws.StructEq
import Derived.ChangeKeysEq
import Derived.Laws.Rows
import Derived.Test.YtlokhciaaepenaaGreatDoorB17
set_option linter.unusedVariables false
set_option linter.unusedSimpArgs false
set_option maxRecDepth 100000
namespace Go.Proofs.YtlokhciaaepenaaGreatDoor
open Go.ChangeShapes Go.WideShapes Go.ChangeAt Go.RowKit
theorem uA9:Tryz.prog.underlying 23=some (.slice (Tryz.prog.elem 23)):=by kernel_rfl
theorem gW.ok {x:Wd} (h:gW x):okV x:=⟨h.byt,h.len,fun y hy=>(h.ops y hy).2,h.num⟩
theorem mch_cells9 {q:World} {b:Nat} {v:Mv} {m:Mc} {o:ByteArray} {T:TypeId} (h:Stands q b (v.cs m o) T):
  q.cell? ⟨b,0,none⟩=some v.vs∧q.cell? ⟨b,1,none⟩=some v.vm∧q.cell? ⟨b,2,none⟩=some v.vw∧q.cell? ⟨b,3,none⟩=some v.vc∧q.cell? ⟨b,4,none⟩=some (.int .u32 m.base)∧q.cell? ⟨b,5,none⟩=some v.vt∧q.cell? ⟨b,6,none⟩=some (.int .i64 m.node)∧q.cell? ⟨b,7,none⟩=some v.vi∧q.cell? ⟨b,8,none⟩=some (.int .i64 m.self)∧q.cell? ⟨b,9,none⟩=some (.string o):=
 ⟨h.cell 0 _ rfl,h.cell 1 _ rfl,h.cell 2 _ rfl,h.cell 3 _ rfl,h.cell 4 _ rfl,h.cell 5 _ rfl,h.cell 6 _ rfl,h.cell 7 _ rfl,h.cell 8 _ rfl,h.cell 9 _ rfl⟩
theorem frm_as (m:Mc):frmM m=(decide (m.stack.length≤64)&&(decide (m.mem.length≤4096)&&(decide (m.out.length≤1024)&&(decide (2≤m.base)&&(decide (m.base≤36)&&(frmT m.tree&&(decide (-1≤m.node∧m.node < m.tree.length)&&(wdsF m.words m.tree&&(cdsF m.codes m.words.length&&(insF m.insts m.tree&&noaF m.insts m.self)))))))))):=by
 have hI:(insF m.insts m.tree&&(decide (m.self= -1)||alvF m.insts m.self))=(insF m.insts m.tree&&noaF m.insts m.self):=by
  cases h:insF m.insts m.tree
  ·rfl
  ·rw[Bool.true_and,Bool.true_and]
   rw[insF_as] at h
   unfold inpF at h
   simp only[Bool.and_eq_true] at h
   exact (noa_paK h.2.1 m.self).symm
 unfold frmM
 rw[Bool.eq_iff_iff]
 simp only[Bool.and_eq_true,decide_eq_true_eq]
 have hI2:(insF m.insts m.tree=true∧(decide (m.self= -1)||alvF m.insts m.self)=true)↔(insF m.insts m.tree=true∧noaF m.insts m.self=true):=by
  rw[←Bool.and_eq_true,←Bool.and_eq_true,hI]
 constructor
 ·rintro ⟨⟨a1,a2,a3,a4,a5⟩,a6,a7,a8,a9,a10,a11⟩
  have:=hI2.1 ⟨a8,a9⟩
  exact ⟨a1,a2,a5,a3,a4,a6,a7,a10,a11,this.1,this.2⟩
 ·rintro ⟨a1,a2,a5,a3,a4,a6,a7,a10,a11,a8,a9⟩
  have:=hI2.2 ⟨a8,a9⟩
  exact ⟨⟨a1,a2,a3,a4,a5⟩,a6,a7,this.1,this.2,a10,a11⟩
set_option maxHeartbeats 8000000 in
set_option maxRecDepth 100000 in
theorem w_p9formed' (m:Mc) (v:Mv) (o:ByteArray) (w:World) (h:RdM w v m o) (g:gM m):
  Calls Tryz.prog 21 #[.agg (v.cs m o)] w fun e w'=>e= .returned (.bool (frmM m))∧Below w.heap.size w w':=by
 have st:=stands_new w (v.cs m o) 30
 have bw:=box_below w (.cells (v.cs m o) 30)
 have K:=fun q (g:Below (w.alloc (.cells (v.cs m o) 30)).heap.size (w.alloc (.cells (v.cs m o) 30)) q)=>mch_cells9 (st.below g)
 have l1:=rd_len h.stack uU (P:=Tryz.prog)
 have l2:=rd_len h.mem uA9 (P:=Tryz.prog)
 have l3:=slr_len h.words uW (P:=Tryz.prog)
 have l5:=slr_len h.tree uN (P:=Tryz.prog)
 have hos:(m.out.length:Int)=o.size:=by rw[←L_len,show L o=m.out by rw[←h.out];exact LB_nums _ g.out]
 have ct:=fun W (b:Below w.heap.size w W)=>w_p8formed' v.vt m.tree W (h.tree.below b) (fun x hx=>(g.tree x hx).1) (fun x hx=>(g.tree x hx).2.1)
 have cb:=fun W=>w_pnob m.node m.tree.length W
 have cw:=fun W (b:Below w.heap.size w W)=>w_pwords v.vw v.vt m.words m.tree W (h.words.below b) (h.tree.below b) (fun x hx=>(g.words x hx).ok)
 have cc:=fun W (b:Below w.heap.size w W)=>w_pcodes v.vc m.codes m.words.length W (h.codes.below b)
 have ci:=fun W (b:Below w.heap.size w W)=>w_pinsts v.vi v.vt m.insts m.tree W (h.insts.below b) (h.tree.below b) (fun x hx=>(g.insts x hx).byt)
 have ca:=fun W (b:Below w.heap.size w W)=>w_pnoal v.vi m.insts m.self W (h.insts.below b)
 obtain ⟨R,hR⟩:∃R,frmM m=R:=⟨_,rfl⟩
 rw[hR]
 rw[frm_as] at hR
 have gb:=g.base
 obtain ⟨BA,hBA⟩:∃X,m.base=X:=⟨_,rfl⟩
 obtain ⟨ND,hND⟩:∃X,m.node=X:=⟨_,rfl⟩
 obtain ⟨SE,hSE⟩:∃X,m.self=X:=⟨_,rfl⟩
 obtain ⟨U,hU⟩:∃X,v.cs m o=X:=⟨_,rfl⟩
 simp only[hBA,hND,hSE,hU] at hR ca cb K bw gb ⊢
 obtain ⟨FT,hFT⟩:∃X,frmT m.tree=X:=⟨_,rfl⟩
 obtain ⟨FN,hFN⟩:∃X,decide (-1≤ND∧ND < (m.tree.length:Int))=X:=⟨_,rfl⟩
 obtain ⟨FW,hFW⟩:∃X,wdsF m.words m.tree=X:=⟨_,rfl⟩
 obtain ⟨FC,hFC⟩:∃X,cdsF m.codes m.words.length=X:=⟨_,rfl⟩
 obtain ⟨FI,hFI⟩:∃X,insF m.insts m.tree=X:=⟨_,rfl⟩
 obtain ⟨FA,hFA⟩:∃X,noaF m.insts SE=X:=⟨_,rfl⟩
 simp only[hFT,hFN,hFW,hFC,hFI,hFA] at hR ct cb cw cc ci ca
 obtain ⟨f0,f1,f2,f3,f4,f5,f6,f7,f8,f9⟩:=K _ (Below.refl _ _)
 obtain ⟨n1,hn1⟩:∃n,m.stack.length=n:=⟨_,rfl⟩
 obtain ⟨n2,hn2⟩:∃n,m.mem.length=n:=⟨_,rfl⟩
 obtain ⟨n9,hn9⟩:∃n,m.out.length=n:=⟨_,rfl⟩
 rw[hn1] at hR l1
 rw[hn2] at hR l2
 rw[hn9] at hR hos
 clear hBA hND hSE hU hFT hFN hFW hFC hFI hFA st hn1 hn2 hn9
 by_cases c_stack:(64:Int) < n1
 ·have q_stack:decide ((64:Int) < n1)=true:=decide_eq_true c_stack
  have hF:R=false:=by rw[←hR,decide_eq_false (by omega:¬n1≤64),Bool.false_and]
  subst hF
  clear hR
  go_enter Tryz.func21,Tryz.ntmps21
  go_wp2_with fail
  go_ret
  exact ⟨rfl,bw⟩
 ·have q_stack:decide ((64:Int) < n1)=false:=decide_eq_false c_stack
  rw[decide_eq_true (by omega:n1≤64),Bool.true_and] at hR
  by_cases c_mem:(4096:Int) < n2
  ·have q_mem:decide ((4096:Int) < n2)=true:=decide_eq_true c_mem
   have hF:R=false:=by rw[←hR,decide_eq_false (by omega:¬n2≤4096),Bool.false_and]
   subst hF
   clear hR
   go_enter Tryz.func21,Tryz.ntmps21
   go_wp2_with fail
   go_ret
   exact ⟨rfl,bw⟩
  ·have q_mem:decide ((4096:Int) < n2)=false:=decide_eq_false c_mem
   rw[decide_eq_true (by omega:n2≤4096),Bool.true_and] at hR
   by_cases c_out:(1024:Int) < o.size
   ·have q_out:decide ((1024:Int) < o.size)=true:=decide_eq_true c_out
    have hF:R=false:=by rw[←hR,decide_eq_false (by omega:¬n9≤1024),Bool.false_and]
    subst hF
    clear hR
    go_enter Tryz.func21,Tryz.ntmps21
    go_wp2_with fail
    go_ret
    exact ⟨rfl,bw⟩
   ·have q_out:decide ((1024:Int) < o.size)=false:=decide_eq_false c_out
    rw[decide_eq_true (by omega:n9≤1024),Bool.true_and] at hR
    by_cases c_b2:BA < 2
    ·have q_b2:decide (BA < 2)=true:=decide_eq_true c_b2
     have hF:R=false:=by rw[←hR,decide_eq_false (by omega:¬2≤BA),Bool.false_and]
     subst hF
     clear hR
     go_enter Tryz.func21,Tryz.ntmps21
     go_wp2_with fail
     go_ret
     exact ⟨rfl,bw⟩
    ·have q_b2:decide (BA < 2)=false:=decide_eq_false c_b2
     rw[decide_eq_true (by omega:2≤BA),Bool.true_and] at hR
     by_cases c_b36:36 < BA
     ·have q_b36:decide (36 < BA)=true:=decide_eq_true c_b36
      have hF:R=false:=by rw[←hR,decide_eq_false (by omega:¬BA≤36),Bool.false_and]
      subst hF
      clear hR
      go_enter Tryz.func21,Tryz.ntmps21
      go_wp2_with fail
      go_ret
      exact ⟨rfl,bw⟩
     ·have q_b36:decide (36 < BA)=false:=decide_eq_false c_b36
      rw[decide_eq_true (by omega:BA≤36),Bool.true_and] at hR
      cases FT
      ·have hF:R=false:=by rw[←hR,Bool.false_and]
       subst hF
       clear hR
       go_enter Tryz.func21,Tryz.ntmps21
       go_wp2_with (first|(go_at_call 35;refine (ct _ bw).mono ?_;rintro e r1 ⟨rfl,b1⟩;obtain ⟨p0,p1,p2,p3,p4,p5,p6,p7,p8,p9⟩:=K _ b1))
       go_ret
       exact ⟨rfl,below_trans bw b1⟩
      ·rw[Bool.true_and] at hR
       cases FN
       ·have hF:R=false:=by rw[←hR,Bool.false_and]
        subst hF
        clear hR
        go_enter Tryz.func21,Tryz.ntmps21
        go_wp2_with (first|(go_at_call 35;refine (ct _ bw).mono ?_;rintro e r1 ⟨rfl,b1⟩;obtain ⟨p0,p1,p2,p3,p4,p5,p6,p7,p8,p9⟩:=K _ b1)|(go_at_call 36;refine (cb _).mono ?_;rintro e r2 ⟨rfl,hw2⟩;obtain rfl:=hw2.symm))
        go_ret
        exact ⟨rfl,below_trans bw b1⟩
       ·rw[Bool.true_and] at hR
        cases FW
        ·have hF:R=false:=by rw[←hR,Bool.false_and]
         subst hF
         clear hR
         go_enter Tryz.func21,Tryz.ntmps21
         go_wp2_with (first|(go_at_call 35;refine (ct _ bw).mono ?_;rintro e r1 ⟨rfl,b1⟩;obtain ⟨p0,p1,p2,p3,p4,p5,p6,p7,p8,p9⟩:=K _ b1)|(go_at_call 36;refine (cb _).mono ?_;rintro e r2 ⟨rfl,hw2⟩;obtain rfl:=hw2.symm)|(go_at_call 37;refine (cw _ (below_trans bw b1)).mono ?_;rintro e r3 ⟨rfl,b3⟩;have b13:=below_trans b1 b3;obtain ⟨s0,s1,s2,s3,s4,s5,s6,s7,s8,s9⟩:=K _ b13))
         go_ret
         exact ⟨rfl,below_trans bw b13⟩
        ·rw[Bool.true_and] at hR
         cases FC
         ·have hF:R=false:=by rw[←hR,Bool.false_and]
          subst hF
          clear hR
          go_enter Tryz.func21,Tryz.ntmps21
          go_wp2_with (first|(go_at_call 35;refine (ct _ bw).mono ?_;rintro e r1 ⟨rfl,b1⟩;obtain ⟨p0,p1,p2,p3,p4,p5,p6,p7,p8,p9⟩:=K _ b1)|(go_at_call 36;refine (cb _).mono ?_;rintro e r2 ⟨rfl,hw2⟩;obtain rfl:=hw2.symm)|(go_at_call 37;refine (cw _ (below_trans bw b1)).mono ?_;rintro e r3 ⟨rfl,b3⟩;have b13:=below_trans b1 b3;obtain ⟨s0,s1,s2,s3,s4,s5,s6,s7,s8,s9⟩:=K _ b13)|(go_at_call 38;refine (cc _ (below_trans bw b13)).mono ?_;rintro e r4 ⟨rfl,b4⟩;have b14:=below_trans b13 b4;obtain ⟨t0,t1,t2,t3,t4,t5,t6,t7,t8,t9⟩:=K _ b14))
          go_ret
          exact ⟨rfl,below_trans bw b14⟩
         ·rw[Bool.true_and] at hR
          cases FI
          ·have hF:R=false:=by rw[←hR,Bool.false_and]
           subst hF
           clear hR
           go_enter Tryz.func21,Tryz.ntmps21
           go_wp2_with (first|(go_at_call 35;refine (ct _ bw).mono ?_;rintro e r1 ⟨rfl,b1⟩;obtain ⟨p0,p1,p2,p3,p4,p5,p6,p7,p8,p9⟩:=K _ b1)|(go_at_call 36;refine (cb _).mono ?_;rintro e r2 ⟨rfl,hw2⟩;obtain rfl:=hw2.symm)|(go_at_call 37;refine (cw _ (below_trans bw b1)).mono ?_;rintro e r3 ⟨rfl,b3⟩;have b13:=below_trans b1 b3;obtain ⟨s0,s1,s2,s3,s4,s5,s6,s7,s8,s9⟩:=K _ b13)|(go_at_call 38;refine (cc _ (below_trans bw b13)).mono ?_;rintro e r4 ⟨rfl,b4⟩;have b14:=below_trans b13 b4;obtain ⟨t0,t1,t2,t3,t4,t5,t6,t7,t8,t9⟩:=K _ b14)|(go_at_call 39;refine (ci _ (below_trans bw b14)).mono ?_;rintro e r5 ⟨rfl,b5⟩;have b15:=below_trans b14 b5;obtain ⟨u0,u1,u2,u3,u4,u5,u6,u7,u8,u9⟩:=K _ b15))
           go_ret
           exact ⟨rfl,below_trans bw b15⟩
          ·rw[Bool.true_and] at hR
           subst hR
           go_enter Tryz.func21,Tryz.ntmps21
           go_wp2_with (first|(go_at_call 35;refine (ct _ bw).mono ?_;rintro e r1 ⟨rfl,b1⟩;obtain ⟨p0,p1,p2,p3,p4,p5,p6,p7,p8,p9⟩:=K _ b1)|(go_at_call 36;refine (cb _).mono ?_;rintro e r2 ⟨rfl,hw2⟩;obtain rfl:=hw2.symm)|(go_at_call 37;refine (cw _ (below_trans bw b1)).mono ?_;rintro e r3 ⟨rfl,b3⟩;have b13:=below_trans b1 b3;obtain ⟨s0,s1,s2,s3,s4,s5,s6,s7,s8,s9⟩:=K _ b13)|(go_at_call 38;refine (cc _ (below_trans bw b13)).mono ?_;rintro e r4 ⟨rfl,b4⟩;have b14:=below_trans b13 b4;obtain ⟨t0,t1,t2,t3,t4,t5,t6,t7,t8,t9⟩:=K _ b14)|(go_at_call 39;refine (ci _ (below_trans bw b14)).mono ?_;rintro e r5 ⟨rfl,b5⟩;have b15:=below_trans b14 b5;obtain ⟨u0,u1,u2,u3,u4,u5,u6,u7,u8,u9⟩:=K _ b15)|(go_at_call 40;refine (ca _ (below_trans bw b15)).mono ?_;rintro e r6 ⟨rfl,hw6⟩;obtain rfl:=hw6.symm))
           go_ret
           exact ⟨rfl,below_trans bw b15⟩
def OwA (base g n cap:Nat) (w:World) (rs:List (List Value)):Prop:=(∀r∈rs,r.length=5)∧rs.length=n∧w.ownsRow base 51 5 (.slice (some ⟨g,0,none⟩) n cap) n rs.flatten
theorem OwA.cell {base g n cap:Nat} {w:World} {rs:List (List Value)} (h:OwA base g n cap w rs) (i j:Nat) (hi:i < n) (hj:j < 5) (u:Value) (hu:(rs.getD i [])[j]? =some u):w.cell? ⟨g,i*5+j,none⟩=some u:=
 own_cell h.2.2 (i*5+j) u (by rw[flat_get rs 5 i j h.1 (by rw[h.2.1];exact hi) hj];exact hu)
theorem OwA.free {base g n cap:Nat} {w:World} {rs:List (List Value)} (h:OwA base g n cap w rs) (j:Nat):w.frozen? ⟨g,j,none⟩=false:=h.2.2.frozenAt j
theorem OwA.kept {base g n cap:Nat} {T:TypeId} {w w':World} {rs:List (List Value)} (h:OwA base g n cap w rs) (k:Kept T w w') (hne:¬51=T):OwA base g n cap w' rs:=⟨h.1,h.2.1,own_kept k hne h.2.2⟩
theorem OwA.below {base g n cap:Nat} {w w':World} {rs:List (List Value)} (h:OwA base g n cap w rs) (k:Below w.heap.size w w'):OwA base g n cap w' rs:=h.kept (T:=5) (Kept.below k) (by decide)
theorem set_getD {α:Type} (rs:List (List α)) (i:Nat) (r:List α) (h:i < rs.length):(rs.set i r).getD i []=r:=by
 rw[List.getD_eq_getElem?_getD,List.getElem?_set_self h]
 rfl
theorem OwA.set {base g n cap:Nat} {w:World} {rs:List (List Value)} {i:Nat} {r:List Value} (h:OwA base g n cap w (rs.set i r)) (hi:i < n) (j:Nat) (hj:j < 5) (u:Value):OwA base g n cap (w.setCell ⟨g,i*5+j,none⟩ u) (rs.set i (r.set j u))∧Kept 51 w (w.setCell ⟨g,i*5+j,none⟩ u):=by
 obtain ⟨h1,h2,h3⟩:=h
 have hl:i < (rs.set i r).length:=by rw[h2];exact hi
 have hl2:i < rs.length:=by simpa using hl
 obtain ⟨s1,s2⟩:=h3.stored (i*5+j) u
 rw[flat_set (rs.set i r) 5 i j u h1 hl hj,set_getD rs i r hl2,List.set_set] at s1
 refine ⟨⟨fun q hq=> ?_,by simpa using h2,s1⟩,Kept.own (v:= .slice (some ⟨g,0,none⟩) n cap) h3 s2⟩
 obtain ⟨m,hm,rfl⟩:=List.getElem_of_mem hq
 rw[List.getElem_set]
 split
 ·rw[List.length_set]
  exact h1 r (List.mem_iff_getElem.2 ⟨i,hl,by simp⟩)
 ·rename_i e
  have e2:(rs.set i r)[m]'(by simpa using hm)=rs[m]'(by simpa using hm):=by rw[List.getElem_set,if_neg e]
  rw[←e2]
  exact h1 _ (List.getElem_mem _)
def PrI (base gb:Nat) (wo:World) (vP:Value) (Ps:List Pp) (prow:List (List Value)) (k:Nat) (w:World):Prop:=
 ∃prs:List (List Value),prs.length=Ps.length∧(∀r∈prs,r.length=2)∧w.ownsRow gb 92 2 vP Ps.length prs.flatten∧(∀j (h:j < Ps.length),j < k→propO gb w (prs.getD j []) Ps[j])∧(∀j,k≤j→prs.getD j []=prow.getD j [])
def NdI (base g cap:Nat) (t:List Nd) (rows:List (List Value)) (i:Nat) (w:World):Prop:=
 ∃rs:List (List Value),OwA base g t.length cap w rs∧(∀j (h:j < t.length),j < i→nodO base w (rs.getD j []) t[j])∧SepR (rs.take i)∧(∀j,i≤j→rs.getD j []=rows.getD j [])
set_option maxHeartbeats 4000000 in
set_option maxRecDepth 100000 in
theorem w_p8copyS (v:Value) (t:List Nd) (w:World) (h:RdT w v t) (hz:t.length*96≤140737488355328) (hs:∀x∈t,sizN x):
  Calls Tryz.prog 62 #[v] w fun e w'=>∃v1,e= .returned v1∧OwnTS w.heap.size w' v1 t∧Below w.heap.size w w':=by
 obtain ⟨rows,hr1,hr2,hr3⟩:=h
 have hone:∀r∈rows,∀u∈r,u.oneCell'=true:=by
  intro r hr u hu
  obtain ⟨i,hi,rfl⟩:=List.getElem_of_mem hr
  obtain ⟨vu,vp,vc,e,g1,g2,g3⟩:=hr3 i (by omega)
  rw[List.getD_eq_getElem?_getD,List.getElem?_eq_getElem hi] at e
  simp only[Option.getD_some] at e
  rw[e] at hu
  obtain ⟨a1,c1,rfl⟩:=rd_slice g1
  obtain ⟨a2,c2,rfl⟩:=slr_slice g2
  obtain ⟨a3,c3,rfl⟩:=rd_slice g3
  simp at hu
  rcases hu with rfl|rfl|rfl|rfl|rfl <;> rfl
 have cN:=w_pcloneN v rows w hr1 hone (by rw[hr2];exact hz)
 rw[hr2] at cN
 by_cases h0:t.length=0
 ·have ht:t=[]:=List.eq_nil_of_length_eq_zero h0
  subst ht
  have hn:rows=[]:=List.eq_nil_of_length_eq_zero (by simpa using hr2)
  subst hn
  go_enter Tryz.func62,Tryz.ntmps62
  go_wp2_with (go_at_call 91;refine cN.mono ?_;rintro e w1 ⟨v1,rfl,o1,b1⟩;obtain ⟨ao,ac,rfl⟩:=own_form o1)
  go_rounds 1
  go_ret
  exact ⟨_,rfl,⟨[],rfl,by simp,o1,fun i hi=>by simp at hi,fun i j g h1 h2=>by simp at h2⟩,b1⟩
 ·have hrl:∀r∈rows,r.length=5:=by
   intro r hr
   obtain ⟨i,hi,rfl⟩:=List.getElem_of_mem hr
   obtain ⟨vu,vp,vc,e,g1,g2,g3⟩:=hr3 i (by omega)
   rw[List.getD_eq_getElem?_getD,List.getElem?_eq_getElem hi] at e
   simp only[Option.getD_some] at e
   rw[e]
   rfl
  have ht0:0 < t.length:=by omega
  have hzI:(t.length:Int)*96≤140737488355328:=by omega
  clear h0 hr1 hone
  go_enter Tryz.func62,Tryz.ntmps62
  go_wp2_with (go_at_call 91;refine cN.mono ?_;rintro e w1 ⟨v1,rfl,o1,b1⟩;obtain ⟨g,cap,rfl⟩:=own_some o1 ht0)
  have hgb:=(o1.lt g rfl).1
  have N0:NdI w.heap.size g cap t rows 0 w1:=⟨rows,⟨hrl,hr2,o1⟩,fun j h hj=>by omega,fun i j g h1 h2=>by simp at h2,fun j hj=>rfl⟩
  clear cN o1 hrl hr2
  go_loopw [11] (fun I wx=>∃(i:Nat),(i:Int)≤t.length∧I= .int .i64 i∧NdI w.heap.size g cap t rows i wx∧Below w.heap.size w wx) (fun I _=>(t.length - intOf I).toNat)
  case atStart=>exact ⟨0,by omega,rfl,N0,b1⟩
  case round=>
   clear N0 b1
   obtain ⟨i,hi,rfl,hN,hb⟩:=hrel
   by_cases hlt:(i:Int) < t.length
   ·have hil:i < t.length:=by omega
    obtain ⟨rs,hA,hno,hsep,hrest⟩:=hN
    obtain ⟨W0,rfl⟩:∃W0,W0=wr:=⟨_,rfl⟩
    obtain ⟨vu,vp,vc,hrow,ru,rp,rc⟩:=hr3 i hil
    have hri:=hrest i (Nat.le_refl _)
    rw[hrow] at hri
    obtain ⟨s1,s2,s3,s4⟩:=hs _ (List.getElem_mem hil)
    have rpR:=rp
    obtain ⟨prow,hp1,hp2,hp3⟩:=rp
    have hpo:∀r∈prow,∀u∈r,u.oneCell'=true:=by
     intro r hr u hu
     obtain ⟨m,hm,rfl⟩:=List.getElem_of_mem hr
     obtain ⟨vd,e,g1⟩:=hp3 m (by omega)
     rw[List.getD_eq_getElem?_getD,List.getElem?_eq_getElem hm] at e
     simp only[Option.getD_some] at e
     rw[e] at hu
     obtain ⟨a1,c1,rfl⟩:=rd_slice g1
     simp at hu
     rcases hu with rfl|rfl <;> rfl
    have hpl:∀r∈prow,r.length=2:=by
     intro r hr
     obtain ⟨m,hm,rfl⟩:=List.getElem_of_mem hr
     obtain ⟨vd,e,g1⟩:=hp3 m (by omega)
     rw[List.getD_eq_getElem?_getD,List.getElem?_eq_getElem hm] at e
     simp only[Option.getD_some] at e
     rw[e]
     rfl
    obtain ⟨ua,uq,rfl⟩:=rd_slice ru
    obtain ⟨pa,pq,rfl⟩:=slr_slice rpR
    obtain ⟨ca,cq,rfl⟩:=rd_slice rc
    obtain ⟨P,hP⟩:∃P,t[i].2.2.1=P:=⟨_,rfl⟩
    obtain ⟨nm,hnm⟩:∃nm,strOfNums t[i].1=nm:=⟨_,rfl⟩
    obtain ⟨Ps,hPs⟩:∃Ps,t[i].2.2.2.1=Ps:=⟨_,rfl⟩
    rw[hP,hnm] at hri
    rw[hPs] at hri hp2 s3 s4 hp1
    simp only[hPs] at hp3
    have hrsl:i < rs.length:=by rw[hA.2.1];exact hil
    have hset:rs.set i [.string nm, .slice ua t[i].2.1.length uq, .int .i64 P, .slice pa Ps.length pq, .slice ca t[i].2.2.2.2.length cq]=rs:=by
     rw[←hri,List.getD_eq_getElem?_getD,List.getElem?_eq_getElem hrsl]
     simp
    have hA0:OwA w.heap.size g t.length cap W0 (rs.set i [.string nm, .slice ua t[i].2.1.length uq, .int .i64 P, .slice pa Ps.length pq, .slice ca t[i].2.2.2.2.length cq]):=by rw[hset];exact hA
    have HA:=hid hA
    have cu:=fun W (g:Below w.heap.size w W)=>w_pclone32 _ _ W (ru.below g) s1
    have cc:=fun W (g:Below w.heap.size w W)=>w_pclone32 _ _ W (rc.below g) s2
    have cp:=fun W (g:Below w.heap.size w W)=>w_pcloneP _ prow W (hp1.below g) hpo (by rw[hp2];exact s3)
    simp only[hp2] at cp
    have hix:=idx_node g t.length cap i hil
    have c1:=hA0.cell i 1 hil (by decide) _ (by rw[set_getD rs i _ hrsl];rfl)
    have hPm:(Ps.length:Int)*40≤140737488355328:=by omega
    clear hset hri hA hrow s1 s2 s3
    go_upto_region 7 with (go_at_call 57;refine (cu _ hb).mono ?_;rintro e w2 ⟨vU,rfl,oU,bU⟩;obtain ⟨uo,uc,rfl⟩:=own_form oU;have y1:=below_cell bU c1;have y2:=(hA0.below bU).free (i*5+1))
    obtain ⟨hA3,k3⟩:=(hA0.below bU).set hil 1 (by decide) (.slice uo t[i].2.1.length uc)
    have hA3:OwA w.heap.size g t.length cap _ (rs.set i [.string nm, .slice uo t[i].2.1.length uc, .int .i64 P, .slice pa Ps.length pq, .slice ca t[i].2.2.2.2.length cq]):=hA3
    have oU3:=own_kept k3 (by decide) oU
    have B3:=below_set (below_trans hb bU) g (i*5+1) (.slice uo t[i].2.1.length uc) hgb
    have G3:=gb_set (gb_below (gb_refl W0 (some g)) bU) (i*5+1) (.slice uo t[i].2.1.length uc)
    generalize w2.setCell ⟨g,i*5+1,none⟩ (.slice uo t[i].2.1.length uc)=w3 at hA3 oU3 B3 G3 k3 ⊢
    have c4:=hA3.cell i 4 hil (by decide) _ (by rw[set_getD rs i _ hrsl];rfl)
    clear y1 y2 c1 hA0 oU bU k3 cu
    go_upto_region 8 with (go_at_call 57;refine (cc _ B3).mono ?_;rintro e w4 ⟨vC,rfl,oC,bC⟩;obtain ⟨co,ccap,rfl⟩:=own_form oC;have y1:=below_cell bC c4;have y2:=(hA3.below bC).free (i*5+4))
    obtain ⟨hA5,k5⟩:=(hA3.below bC).set hil 4 (by decide) (.slice co t[i].2.2.2.2.length ccap)
    have hA5:OwA w.heap.size g t.length cap _ (rs.set i [.string nm, .slice uo t[i].2.1.length uc, .int .i64 P, .slice pa Ps.length pq, .slice co t[i].2.2.2.2.length ccap]):=hA5
    have oC5:=own_le G3.size (own_kept k5 (by decide) oC)
    have oU5:=own_kept k5 (by decide) (own_below oU3 bC)
    have B5:=below_set (below_trans B3 bC) g (i*5+4) (.slice co t[i].2.2.2.2.length ccap) hgb
    have G5:=gb_set (gb_below G3 bC) (i*5+4) (.slice co t[i].2.2.2.2.length ccap)
    generalize w4.setCell ⟨g,i*5+4,none⟩ (.slice co t[i].2.2.2.2.length ccap)=w5 at hA5 oC5 oU5 B5 G5 k5 ⊢
    have c3:=hA5.cell i 3 hil (by decide) _ (by rw[set_getD rs i _ hrsl];rfl)
    clear y1 y2 c4 hA3 oC oU3 bC k5 cc B3 G3
    go_upto_region 9 with (go_at_call 92;refine (cp _ B5).mono ?_;rintro e w6 ⟨vP,rfl,oP,bP⟩;obtain ⟨po,pcap,rfl⟩:=own_form oP;have y1:=below_cell bP c3;have y2:=(hA5.below bP).free (i*5+3))
    obtain ⟨hA7,k7⟩:=(hA5.below bP).set hil 3 (by decide) (.slice po Ps.length pcap)
    have hA7:OwA w.heap.size g t.length cap _ (rs.set i [.string nm, .slice uo t[i].2.1.length uc, .int .i64 P, .slice po Ps.length pcap, .slice co t[i].2.2.2.2.length ccap]):=hA7
    have oP7:=own_le G5.size (own_kept k7 (by decide) oP)
    have oC7:=own_kept k7 (by decide) (own_below oC5 bP)
    have oU7:=own_kept k7 (by decide) (own_below oU5 bP)
    have B7:=below_set (below_trans B5 bP) g (i*5+3) (.slice po Ps.length pcap) hgb
    have G7:=gb_set (gb_below G5 bP) (i*5+3) (.slice po Ps.length pcap)
    generalize w6.setCell ⟨g,i*5+3,none⟩ (.slice po Ps.length pcap)=w7 at hA7 oP7 oC7 oU7 B7 G7 k7 ⊢
    have c3:=hA7.cell i 3 hil (by decide) _ (by rw[set_getD rs i _ hrsl];rfl)
    have PI0:PrI w.heap.size W0.heap.size w (.slice po Ps.length pcap) Ps prow 0 w7:=⟨prow,hp2,hpl,oP7,fun j h hj=>by omega,fun j hj=>rfl⟩
    clear y1 y2 hA5 oP oC5 oU5 bP k7 cp B5 G5 oP7
    have hsR:=hid hsep
    have hnoR:=hid hno
    have hrestR:=hid hrest
    have hgW:w.heap.size≤W0.heap.size:=hb.size
    clear hsep hno hrest
    go_wp2_with fail
    go_loopw [46] (fun K wx=>∃(k:Nat),(k:Int)≤Ps.length∧K= .int .i64 k∧PrI w.heap.size W0.heap.size w (.slice po Ps.length pcap) Ps prow k wx∧OwA w.heap.size g t.length cap wx (rs.set i [.string nm, .slice uo t[i].2.1.length uc, .int .i64 P, .slice po Ps.length pcap, .slice co t[i].2.2.2.2.length ccap])∧wx.ownsRow W0.heap.size 26 1 (.slice uo t[i].2.1.length uc) t[i].2.1.length (t[i].2.1.map (Value.int .u32))∧wx.ownsRow W0.heap.size 26 1 (.slice co t[i].2.2.2.2.length ccap) t[i].2.2.2.2.length (t[i].2.2.2.2.map (Value.int .u32))∧W0.grownBy wx (some g)∧Below w.heap.size w wx) (fun K _=>(Ps.length - intOf K).toNat)
    case atStart=>exact ⟨0,by omega,rfl,PI0,hA7,oU7,oC7,G7,B7⟩
    case round=>
     clear PI0 hA7 oU7 oC7 G7 B7 c3
     obtain ⟨k,hk,rfl,hPI,hA8,oU8,oC8,G8,B8⟩:=hrel
     by_cases hlk:(k:Int) < Ps.length
     ·have hkl:k < Ps.length:=by omega
      obtain ⟨prs,z1,z2,z3,z4,z5⟩:=hPI
      obtain ⟨gP,cP,hgP⟩:=own_some z3 (by omega)
      simp only[Value.slice.injEq] at hgP
      obtain ⟨rfl, -,rfl⟩:=hgP
      obtain ⟨vd,hpr,rd⟩:=hp3 k hkl
      have hpk:=z5 k (Nat.le_refl _)
      rw[hpr] at hpk
      obtain ⟨da,dq,rfl⟩:=rd_slice rd
      have cd:=fun W (g:Below w.heap.size w W)=>w_pclone8 _ _ W (rd.below g) (s4 _ (List.getElem_mem hkl))
      have c3:=hA8.cell i 3 hil (by decide) _ (by rw[set_getD rs i _ hrsl];rfl)
      have hip:=idx_prop gP Ps.length pcap k hkl
      have hold:prs.flatten[k*2+1]? =some (.slice da Ps[k].2.length dq):=by rw[flat_get prs 2 k 1 z2 (by omega) (by decide),hpk];rfl
      have cD:=own_cell z3 (k*2+1) _ hold
      have hne:gP≠g:=by
       intro e
       subst e
       rcases hA8.2.2.2 with ⟨hh,_⟩|⟨g',c',cur,hh,_,x1,_⟩
       ·simp at hh
       ·rcases z3.2 with ⟨hh2,_⟩|⟨g2',c2',cur2,hh2,_,x2,_⟩
        ·simp at hh2
        ·simp at hh hh2
         obtain ⟨rfl, -⟩:=hh
         obtain ⟨rfl, -⟩:=hh2
         rw[x1] at x2
         simp at x2
      have HS:Hid (∀W,Below wr.heap.size wr W→W.cell? ⟨g,i*5+3,none⟩=some (.slice (some ⟨gP,0,none⟩) Ps.length pcap)):=fun W q=>below_cell q c3
      have hrd:Hid (Below wr.heap.size wr wr.drew):=below_drewN (Below.refl _ _) 1
      have hbd:Hid (Below w.heap.size w wr.drew):=below_drewN B8 1
      have CD:=hid cd
      have T1:Hid (∀qD,Below wr.heap.size wr qD→qD.ownsRow W0.heap.size 92 2 (.slice (some ⟨gP,0,none⟩) Ps.length pcap) Ps.length prs.flatten):=fun qD q=>own_kept (T:=5) (Kept.below q) (by decide) z3
      have T2:Hid (∀qD,Below wr.heap.size wr qD→qD.cell? ⟨gP,k*2+1,none⟩=some (.slice da Ps[k].2.length dq)):=fun qD q=>below_cell q cD
      have T3:Hid (∀qD,Below wr.heap.size wr qD→qD.frozen? ⟨gP,k*2+1,none⟩=false):=fun qD q=>(T1.out qD q).frozenAt (k*2+1)
      have T4:Hid (∀qD,Below wr.heap.size wr qD→∀u,(qD.setCell ⟨gP,k*2+1,none⟩ u).cell? ⟨g,i*5+3,none⟩=some (.slice (some ⟨gP,0,none⟩) Ps.length pcap)):=fun qD q u=>by
       rw[World.cell?_setCell_far _ _ _ _ (by exact hne)]
       exact HS.out _ q
      have Z3:=hid z3
      clear cd z3 hold
      go_wp2_with fail
      go_region_with (go_at_call 58;refine (CD.out _ (by with_reducible exact hbd.out)).mono ?_;rintro e qD ⟨vD,rfl,oD,bD'⟩;obtain ⟨dd,dcap,rfl⟩:=own_form oD;have RD:Hid (Below wr.heap.size wr qD):=below_trans hrd.out bD';have y0:=HS.out qD RD.out;have y1:=T2.out qD RD.out;have y2:=T3.out qD RD.out;have OD:=hid oD;clear oD bD')
      all_goals (
       go_wp2_with fail
       have bD:=RD.out
       have z3':=T1.out qD bD
       obtain ⟨w8,hw8⟩:∃w8,qD.setCell ⟨gP,k*2+1,none⟩ (.slice dd Ps[k].2.length dcap)=w8:=⟨_,rfl⟩
       have gr:qD.grownBy w8 (some gP):=by rw[←hw8];exact (z3'.stored (k*2+1) _).2
       have kp:Kept 92 qD w8:=Kept.own z3' gr
       have hgP8:W0.heap.size≤gP:=(z3'.lt gP rfl).1
       have hset:=z3'.stored (k*2+1) (.slice dd Ps[k].2.length dcap)
       rw[flat_set prs 2 k 1 _ z2 (by omega) (by decide),hpk,hw8] at hset
       have PI9:PrI w.heap.size W0.heap.size w (.slice (some ⟨gP,0,none⟩) Ps.length pcap) Ps prow (k+1) w8:=by
        refine ⟨prs.set k [.string (strOfNums Ps[k].1), .slice dd Ps[k].2.length dcap],by simpa using z1,fun r hr=> ?_,hset.1,fun j hj hjk=> ?_,fun j hj=> ?_⟩
        ·rcases List.mem_or_eq_of_mem_set hr with hr|rfl
         ·exact z2 r hr
         ·rfl
        ·by_cases e:j=k
         ·subst e
          rw[set_getD prs j _ (by omega)]
          exact ⟨_,rfl,own_kept kp (by decide) (own_le (Nat.le_trans G8.size hrd.out.size) OD.out)⟩
         ·rw[List.getD_eq_getElem?_getD,List.getElem?_set_ne (fun e2=>e e2.symm),←List.getD_eq_getElem?_getD]
          exact propO_apt (by decide) _ _ _ _ kp (propO_below bD _ _ (z4 j hj (by omega)))
        ·rw[List.getD_eq_getElem?_getD,List.getElem?_set_ne (by omega),←List.getD_eq_getElem?_getD]
         exact z5 j (by omega)
       have hA9:=(hA8.below bD).kept kp (by decide)
       have oU9:=own_kept kp (by decide) (own_below oU8 bD)
       have oC9:=own_kept kp (by decide) (own_below oC8 bD)
       have G9:W0.grownBy w8 (some g):=by rw[←hw8];exact gb_new (gb_below G8 bD) hgP8 _ _
       have B9:Below w.heap.size w w8:=by rw[←hw8];exact below_set (below_trans B8 bD) gP _ _ (by omega)
       rw[hw8]
       go_roundw
       case rel=>exact ⟨k+1,by omega,by go_num,PI9,hA9,oU9,oC9,G9,B9⟩
       case measure=>simp[intOf];omega)
     ·have hkp:k=Ps.length:=by omega
      subst hkp
      obtain ⟨prs,z1,z2,z3,z4,z5⟩:=hPI
      have kN:Kept 51 W0 wr:=⟨some g,G8,fun q hq=>by
       cases hq
       obtain ⟨_,_,o⟩:=HA.out
       rcases o.2 with ⟨hh,_⟩|⟨g',c',cur,hh,_,x1,_⟩
       ·simp at hh
       ·simp at hh
        obtain ⟨rfl, -⟩:=hh
        exact ⟨cur,_,x1⟩⟩
      have hN9:NdI w.heap.size g cap t rows (i+1) wr:=by
       refine ⟨_,hA8,fun j hj hji=> ?_, ?_,fun j hj=> ?_⟩
       ·by_cases e:j=i
        ·subst e
         rw[set_getD rs j _ hrsl]
         exact ⟨_,_,_,by rw[hnm,hP],own_le hgW oU8,by rw[hPs];exact ⟨prs,z1,z2,own_le hgW z3,fun m hm=>propO_le hgW _ _ (z4 m hm hm)⟩,own_le hgW oC8⟩
        ·rw[List.getD_eq_getElem?_getD,List.getElem?_set_ne (fun e2=>e e2.symm),←List.getD_eq_getElem?_getD]
         exact nodO_apt (by decide) (by decide) (by decide) _ _ _ _ kN (hnoR.out j hj (by omega))
       ·have hl1:∀q,q < rs.length→((rs.set i [Value.string nm, .slice uo t[i].2.1.length uc, .int .i64 P, .slice po Ps.length pcap, .slice co t[i].2.2.2.2.length ccap]).take (i+1))=rs.take i++[[Value.string nm, .slice uo t[i].2.1.length uc, .int .i64 P, .slice po Ps.length pcap, .slice co t[i].2.2.2.2.length ccap]]:=by
         intro q hq
         rw[List.take_succ_eq_append_getElem (by simpa using hrsl),List.take_set_of_le (Nat.le_refl _)]
         simp
        rw[hl1 i hrsl]
        refine sep_snoc hsR.out fun j q hj hq hq2=> ?_
        have hji:j < i:=by simp at hj;omega
        have e1:(rs.take i).getD j []=rs.getD j []:=by rw[List.getD_eq_getElem?_getD,List.getElem?_take,if_pos hji,←List.getD_eq_getElem?_getD]
        rw[e1] at hq
        obtain ⟨vu9,vp9,vc9,hv9, -,op9, -⟩:=hnoR.out j (by omega) hji
        obtain ⟨cs9,o9⟩:=op9.row
        rw[hv9] at hq
        have a1:=(o9.lt q (by simpa using hq)).2
        have a2:=(z3.lt q (by simpa using hq2)).1
        omega
       ·rw[List.getD_eq_getElem?_getD,List.getElem?_set_ne (by omega),←List.getD_eq_getElem?_getD]
        exact hrestR.out j (by omega)
      go_wp2_with fail
      go_roundw
      case rel=>exact ⟨i+1,by omega,by go_num,hN9,B8⟩
      case measure=>simp[intOf];omega
   ·go_wp2_with fail
    go_ret
    have hit:i=t.length:=by omega
    subst hit
    obtain ⟨rs,⟨a1,a2,a3⟩,hno,hsep,hrest⟩:=hN
    rw[List.take_of_length_le (by omega)] at hsep
    exact ⟨_,rfl,⟨rs,a2,a1,a3,fun j hj=>hno j hj hj,hsep⟩,hb⟩
def eqI (x y:Iz):Bool:=decide (x=y)
theorem iz_ext (x y:Iz) (h1:x.1=y.1) (h2:x.2.1=y.2.1) (h3:x.2.2.1=y.2.2.1) (h4:x.2.2.2=y.2.2.2):x=y:=Prod.ext h1 (Prod.ext h2 (Prod.ext h3 h4))
set_option maxHeartbeats 4000000 in
set_option maxRecDepth 100000 in
theorem w_r9inst (x y:Iz) (n1 n2:ByteArray) (v1 v2:Value) (w:World) (e1:strOfNums x.2.2.1=n1) (e2:strOfNums y.2.2.1=n2) (hc1:Rd .u32 w v1 x.2.2.2) (hc2:Rd .u32 w v2 y.2.2.2) (bx:bytesL x.2.2.1) (by':bytesL y.2.2.1):
  Calls Tryz.prog 11 #[.agg #[.int .i64 x.1, .int .i64 x.2.1, .string n1,v1], .agg #[.int .i64 y.1, .int .i64 y.2.1, .string n2,v2]] w fun e w'=>e= .returned (.bool (eqI x y))∧Below w.heap.size w w':=by
 have hN:=str_eq8 n1 n2 _ _ bx by' e1 e2
 have yes:x=y→Hid (eqI x y=true):=fun h=>decide_eq_true h
 have no:¬x=y→Hid (eqI x y=false):=fun h=>decide_eq_false h
 have ext:=iz_ext x y
 obtain ⟨x1,x2,x3,x4⟩:=x
 obtain ⟨y1,y2,y3,y4⟩:=y
 obtain ⟨R,hR⟩:∃R,eqI (x1,x2,x3,x4) (y1,y2,y3,y4)=R:=⟨_,rfl⟩
 rw[hR]
 simp only[hR] at yes no
 simp only at hc1 hc2 hN ext e1 e2 bx by' ⊢
 obtain ⟨s1,s2,bw⟩:=two_boxes w #[.int .i64 x1, .int .i64 x2, .string n1,v1] #[.int .i64 y1, .int .i64 y2, .string n2,v2] 43
 have f0:=s1.cell 0 _ rfl
 have f1:=s1.cell 1 _ rfl
 have f2:=s1.cell 2 _ rfl
 have f3:=s1.cell 3 _ rfl
 have g0:=s2.cell 0 _ rfl
 have g1:=s2.cell 1 _ rfl
 have g2:=s2.cell 2 _ rfl
 have g3:=s2.cell 3 _ rfl
 have cu:=w_r3sameQ _ _ _ _ _ (hc1.below bw) (hc2.below bw)
 clear hR e1 e2
 by_cases h1:x1=y1
 ·have k1:(x1==y1)=true:=by simp[h1]
  by_cases h2:x2=y2
  ·have k2:(x2==y2)=true:=by simp[h2]
   by_cases h3:x3=y3
   ·rw[decide_eq_true h3] at hN
    by_cases h4:x4=y4
    ·rw[decide_eq_true h4] at cu
     have hf:=yes (ext h1 h2 h3 h4)
     clear yes no ext h1 h2 h3 h4
     go_enter Tryz.func11,Tryz.ntmps11
     go_wp2_with (go_at_call 9;refine cu.mono ?_;rintro e r1 ⟨rfl,d1⟩)
     go_ret
     exact ⟨ret_b hf.out.symm,below_trans bw (dr_below d1)⟩
    ·rw[decide_eq_false h4] at cu
     have hf:=no (fun g=>h4 (by cases g;rfl))
     clear yes no ext h1 h2 h3 h4
     go_enter Tryz.func11,Tryz.ntmps11
     go_wp2_with (go_at_call 9;refine cu.mono ?_;rintro e r1 ⟨rfl,d1⟩)
     go_ret
     exact ⟨ret_b hf.out.symm,below_trans bw (dr_below d1)⟩
   ·rw[decide_eq_false h3] at hN
    have hf:=no (fun g=>h3 (by cases g;rfl))
    clear yes no ext h1 h2 h3 cu
    go_enter Tryz.func11,Tryz.ntmps11
    go_wp2_with fail
    go_ret
    exact ⟨ret_b hf.out.symm,bw⟩
  ·have k2:(x2==y2)=false:=by simpa using h2
   have hf:=no (fun g=>h2 (by cases g;rfl))
   clear yes no ext h1 h2 cu
   go_enter Tryz.func11,Tryz.ntmps11
   go_wp2_with fail
   go_ret
   exact ⟨ret_b hf.out.symm,bw⟩
 ·have k1:(x1==y1)=false:=by simpa using h1
  have hf:=no (fun g=>h1 (by cases g;rfl))
  clear yes no ext h1 cu
  go_enter Tryz.func11,Tryz.ntmps11
  go_wp2_with fail
  go_ret
  exact ⟨ret_b hf.out.symm,bw⟩
theorem set10 {w:World} {b:Nat} {z0 z1 z2 z3 z4 z5 z6 z7 z8 z9:Value} {T:TypeId} (h:Stands w b #[z0,z1,z2,z3,z4,z5,z6,z7,z8,z9] T) (a0 a1 a2 a3 a4 a5 a6 a7 a8 a9:Value):
  Stands ((((((((((w.setCell ⟨b,0,none⟩ a0).setCell ⟨b,1,none⟩ a1).setCell ⟨b,2,none⟩ a2).setCell ⟨b,3,none⟩ a3).setCell ⟨b,4,none⟩ a4).setCell ⟨b,5,none⟩ a5).setCell ⟨b,6,none⟩ a6).setCell ⟨b,7,none⟩ a7).setCell ⟨b,8,none⟩ a8).setCell ⟨b,9,none⟩ a9) b #[a0,a1,a2,a3,a4,a5,a6,a7,a8,a9] T∧∀Q:World→Prop,(∀u u',Kept T u u'→Q u→Q u')→Q w→Q ((((((((((w.setCell ⟨b,0,none⟩ a0).setCell ⟨b,1,none⟩ a1).setCell ⟨b,2,none⟩ a2).setCell ⟨b,3,none⟩ a3).setCell ⟨b,4,none⟩ a4).setCell ⟨b,5,none⟩ a5).setCell ⟨b,6,none⟩ a6).setCell ⟨b,7,none⟩ a7).setCell ⟨b,8,none⟩ a8).setCell ⟨b,9,none⟩ a9):=by
 have h0:=h.set 0 a0
 have h1:=h0.set 1 a1
 have h2:=h1.set 2 a2
 have h3:=h2.set 3 a3
 have h4:=h3.set 4 a4
 have h5:=h4.set 5 a5
 have h6:=h5.set 6 a6
 have h7:=h6.set 7 a7
 have h8:=h7.set 8 a8
 have h9:=h8.set 9 a9
 exact ⟨by simpa only[List.setIfInBounds_toArray,List.set_cons_zero,List.set_cons_succ] using h9,fun Q hQ q=>hQ _ _ (set_kept h8 9 a9) (hQ _ _ (set_kept h7 8 a8) (hQ _ _ (set_kept h6 7 a7) (hQ _ _ (set_kept h5 6 a6) (hQ _ _ (set_kept h4 5 a5) (hQ _ _ (set_kept h3 4 a4) (hQ _ _ (set_kept h2 3 a3) (hQ _ _ (set_kept h1 2 a2) (hQ _ _ (set_kept h0 1 a1) (hQ _ _ (set_kept h 0 a0) (q))))))))))⟩
theorem OwnT8.kept {base:Nat} {T:TypeId} {w w':World} {v:Value} {t:List Nd} (h:OwnT8 base w v t) (k:Kept T w w') (h8:¬5=T) (h32:¬26=T) (hp:¬92=T) (hn:¬51=T):OwnT8 base w' v t:=OwnR.kept h k hn (nodO_apt h8 h32 hp)
end Go.Proofs.YtlokhciaaepenaaGreatDoor
