import Derived.Test.YtlokhciaaepenaaGreatDoorB20
set_option linter.unusedVariables false
set_option linter.unusedSimpArgs false
set_option maxRecDepth 100000
namespace Go.Proofs.YtlokhciaaepenaaGreatDoor
open Go.ChangeShapes Go.WideShapes Go.ChangeAt Go.RowKit
theorem ptr_inj {b o g q:Nat} {w:World} (h:Result.ok (α:=Value) (.pointer (some ⟨b,o,none⟩)) w= .ok (.pointer (some ⟨g,q,none⟩)) w):b=g∧o=q:=by
 injection h with h _
 injection h with h
 injection h with h
 injection h with h1 h2
 exact ⟨h1,h2⟩
theorem slc_inj {a b:Option Addr} {n p q:Nat} (h:Value.slice a n p= .slice b n q):a=b∧p=q:=by
 injection h with h1 _ h2
 exact ⟨h1,h2⟩
theorem own_ge {w:World} {base:Nat} {e:TypeId} {sz g n cap:Nat} {cs:List Value} (o:w.ownsRow base e sz (.slice (some ⟨g,0,none⟩) n cap) n cs):base≤g:=by
 obtain ⟨hl,o⟩:=o
 rcases o with ⟨h,_⟩|⟨g',cap',cur,h,hb,hg,_⟩
 ·cases h
 ·have:g=g':=by simpa using (slc_inj h).1
  omega
theorem own_cell_kept {T e:TypeId} {w w':World} (k:Kept T w w') {base sz n:Nat} {v:Value} {cs:List Value} (hne:¬e=T) (o:w.ownsRow base e sz v n cs) (j:Nat) {g cap:Nat} (hv:v= .slice (some ⟨g,0,none⟩) n cap:=by rfl):w'.cell? ⟨g,j,none⟩=w.cell? ⟨g,j,none⟩:=by
 subst hv
 obtain ⟨row,gr,hr⟩:=k
 obtain ⟨hl,o⟩:=o
 rcases o with ⟨h,_⟩|⟨g',cap',cur,h,hb,hg,_⟩
 ·cases h
 ·have hgg:g=g':=by simpa using (slc_inj h).1
  subst hgg
  have:w'.heap[g]? =w.heap[g]? :=gr.block g (Array.getElem?_eq_some_iff.1 hg).1 (by
   intro he
   obtain ⟨cur2,fr,h2⟩:=hr g he.symm
   rw[hg] at h2
   injection h2 with h2
   injection h2 with _ h2 _
   exact hne h2)
  simp[World.cell?,this]
theorem below_ins {w w':World} {g:Nat} (h:Below w.heap.size w w') (hg:w.heap.size≤g) (k:Nat) (a0 a1 a2 a3:Value):Below w.heap.size w ((((w'.setCell ⟨g,k*4,none⟩ a0).setCell ⟨g,k*4+1,none⟩ a1).setCell ⟨g,k*4+2,none⟩ a2).setCell ⟨g,k*4+3,none⟩ a3):=
 below_set (below_set (below_set (below_set h g _ a0 hg) g _ a1 hg) g _ a2 hg) g _ a3 hg
theorem info_iz:∃i,Tryz.prog.info? 43=some i∧i.zero=some (.agg #[.int .i64 0, .int .i64 0, .string ⟨#[]⟩, .slice none 0 0])∧i.size=4∧i.bytes=56:=by
 obtain ⟨i,h1,h2⟩:=Option.map_eq_some_iff.1 infoIz
 injection h2 with h2 h3
 injection h3 with h3 h4
 exact ⟨i,h1,h2,h3,h4⟩
theorem iz_one:∀u∈[Value.int .i64 0, .int .i64 0, .string ⟨#[]⟩, .slice none 0 0],u.oneCell'=true:=by
 intro u hu
 simp at hu
 rcases hu with rfl|rfl|rfl <;> rfl
theorem izO_nil {base:Nat} {w:World}:insO base w [.int .i64 0, .int .i64 0, .string ⟨#[]⟩, .slice none 0 0] (0,0,[],[]):=⟨.slice none 0 0,rfl,World.ownsRow_nil _ _ _ _⟩
theorem cel_at {t:List Nd} {n:Int} {j:Nat} (hj:n=j) (h:j < t.length):cel t n=(t[j]).2.2.2.2:=by
 unfold cel
 rw[hj,Int.toNat_natCast,List.getD_eq_getElem?_getD,List.getElem?_eq_getElem h]
 rfl
set_option maxHeartbeats 4000000 in
set_option maxRecDepth 100000 in
theorem w_pkadd {W0:World} {b:Nat} {v:Mv} {m:Mc} {o:ByteArray} {n was:Int} (st:List Int) (j:Nat) (hjl:j < m.tree.length) (par:Int) (a:ByteArray) (ha:strOfNums st=a) (w:World) (h:Kpr W0.heap.size b w v m o n was) (hb:W0.heap.size≤b) (hB:Below W0.heap.size W0 w) (hz:∀x∈m.tree,sizN x) (hl:m.insts.length≤16):
  Calls Tryz.prog 31 #[.pointer (some ⟨b,0,none⟩), .agg #[.int .i64 (j:Int), .string a], .int .i64 par] w fun e w'=>(addI m.insts ((j:Int),par,st,cel m.tree (j:Int))=none∧e= .returned (.tuple #[.int .i64 (-1), .int .i64 22])∨∃l2 k v',addI m.insts ((j:Int),par,st,cel m.tree (j:Int))=some (l2,k)∧e= .returned (.tuple #[.int .i64 (k:Nat), .int .i64 0])∧Kpr W0.heap.size b w' v' {m with insts:=l2} o n was)∧Below W0.heap.size W0 w':=by
 have eg:∀args w,(callFunc 65 args).run Tryz.prog w= .ok (.enter 65 args) w:=enters_of Tryz.func65 (by kernel_rfl) rfl
 rw[cel_at rfl hjl]
 obtain ⟨sa,sq,ma,mq,wa,wq,ca,cq,ta,tq,ia,iq,rfl⟩:=h.own.form
 have bx:=box_below w (.cells #[.int .i64 (j:Int), .string a] 77)
 have zs:=stands_new w #[.int .i64 (j:Int), .string a] 77
 have kp:=h.below bx
 have ri:=kp.own.read.insts
 have ask:AskI (w.alloc (.cells #[.int .i64 (j:Int), .string a] 77)) 65 #[] (fun x=>decide (x.1= -1)) m.insts:=fun W ar vc x g _ _ hc=>w_paskfree x.1 x.2.1 ar vc x.2.2.2 W hc
 have f7:(w.alloc (.cells #[.int .i64 (j:Int), .string a] 77)).cell? ⟨b,7,none⟩=some (.slice ia m.insts.length iq):=kp.box.cell 7 _ rfl
 have cI:=w_pindexI _ m.insts _ #[] _ _ eg ri ask
 have hli:=slr_len ri uI (P:=Tryz.prog)
 simp only at hli
 clear ask ri h
 cases hf:m.insts.findIdx? (fun x=>decide (x.1= -1)) with
 |some i=>
  rw[hf] at cI
  simp only[fdI] at cI
  have hil:i < m.insts.length:=by
   rw[List.findIdx?_eq_some_iff_getElem] at hf
   exact hf.1
  have hA:Hid (∀x:Iz,addI m.insts x=some (m.insts.set i x,i)):=fun x=>by unfold addI freI;rw[hf]
  clear hf
  go_enter Tryz.func31,Tryz.ntmps31
  go_upto_region 7 with (first|(go_at_call 64;refine cI.mono ?_;rintro e w1 ⟨rfl,b1⟩)|fail)
  have kp1:=kp.below b1
  have zs1:=zs.below b1
  have HB1:=below_trans hB (below_trans bx b1)
  clear kp zs f7 cI bx b1 hB hli
  have hkk:i < m.insts.length:=hil
  have rT:RdT w1 (.slice ta m.tree.length tq) m.tree:=kp1.own.read.tree
  obtain ⟨bn,on,nm,vu,vp,vc,rn,n0,n1,n2,n3,n4,en,hu,hp,hc⟩:=nod_at rT j hjl
  have oT:OwnT8 W0.heap.size w1 (.slice ta m.tree.length tq) m.tree:=kp1.own.tree
  obtain ⟨tcs,htr⟩:=OwnR.row oT
  obtain ⟨gt,tcap,et⟩:=own_some htr (by omega)
  obtain ⟨rfl,rfl⟩:=slc_inj et
  have oI:OwI W0.heap.size w1 (.slice ia m.insts.length iq) m.insts:=kp1.own.insts
  obtain ⟨ics,hir⟩:=OwnR.row oI
  obtain ⟨g,icap,ei⟩:=own_some hir (by omega)
  obtain ⟨rfl,rfl⟩:=slc_inj ei
  obtain ⟨en1,en2⟩:=ptr_inj ((idx_node gt m.tree.length tq j hjl w1).symm.trans (rn w1))
  subst en1;subst en2
  obtain ⟨ac,cc,rfl⟩:=rd_slice hc
  have CC:=hid (fun W (q:Below w1.heap.size w1 W)=>w_pclone32 _ _ W (hc.below q) (hz _ (List.getElem_mem hjl)).2.1)
  have HBG:Hid (W0.heap.size≤g):=own_ge hir
  have KP:=hid kp1
  have ZS:=hid zs1
  have HB1:=hid HB1
  have HK:=hid hkk
  have S0:Hid (∀W,Below w1.heap.size w1 W→(W.cell? ⟨b,5,none⟩=some (.slice (some ⟨gt,0,none⟩) m.tree.length tq)∧W.cell? ⟨b,7,none⟩=some (.slice (some ⟨g,0,none⟩) m.insts.length iq)∧W.cell? ⟨w.heap.size,0,none⟩=some (.int .i64 (j:Int))∧W.cell? ⟨w.heap.size,1,none⟩=some (.string a)∧W.cell? ⟨gt,j*5+4,none⟩=some (.slice ac (m.tree[j]).2.2.2.2.length cc))):=fun W q=>⟨(KP.out.box.below q).cell 5 _ rfl,(KP.out.box.below q).cell 7 _ rfl,(ZS.out.below q).cell 0 _ rfl,(ZS.out.below q).cell 1 _ rfl,below_cell q n4⟩
  have CI:=hid (idx_ins g m.insts.length iq i hkk)
  have ci:=CI.out
  have ct:∀w',(Instr.indexAt 27 (.slice (some ⟨gt,0,none⟩) m.tree.length tq) (.int .i64 (j:Int))).run Tryz.prog w'= .ok (.pointer (some ⟨gt,j*5,none⟩)) w':=rn
  clear rT oT oI en hu hp hc n0 n1 n2 n3 n4 rn et ei htr hir kp1 zs1 tcs ics
  refine wp_region_held_drew (S:=fun W=>W.cell? ⟨b,5,none⟩=some (.slice (some ⟨gt,0,none⟩) m.tree.length tq)∧W.cell? ⟨b,7,none⟩=some (.slice (some ⟨g,0,none⟩) m.insts.length iq)∧W.cell? ⟨w.heap.size,0,none⟩=some (.int .i64 (j:Int))∧W.cell? ⟨w.heap.size,1,none⟩=some (.string a)∧W.cell? ⟨gt,j*5+4,none⟩=some (.slice ac (m.tree[j]).2.2.2.2.length cc)) (by kernel_rfl) (S0.out _ (bdr0 _)) (fun hHeld=> ?_)
  refine wpAnyH_take (i:=0) (v:= ?v1) rfl (by kernel_rfl) (by kernel_rfl) (by kernel_rfl) (fun _ _ _ h=>h) (Or.inl ⟨by kernel_rfl, ?h1⟩) hHeld ?r1
  case h1=>intro W hSw;(try dsimp only at hSw);obtain ⟨t0,t1,t2,t3,t4⟩:=hSw;go_simp;try with_reducible rfl
  simp only[Act.put,List.setIfInBounds_toArray,List.set_cons_zero,List.set_cons_succ]
  refine wpAnyH_take (i:=1) (v:= ?v2) rfl (by kernel_rfl) (by kernel_rfl) (by kernel_rfl) (fun _ _ _ h=>h) (Or.inl ⟨by kernel_rfl, ?h2⟩) hHeld ?r2
  case h2=>intro W hSw;(try dsimp only at hSw);obtain ⟨t0,t1,t2,t3,t4⟩:=hSw;go_simp;try with_reducible rfl
  simp only[Act.put,List.setIfInBounds_toArray,List.set_cons_zero,List.set_cons_succ]
  refine wpAnyH_take (i:=2) (v:= ?v3) rfl (by kernel_rfl) (by kernel_rfl) (by kernel_rfl) (fun _ _ _ h=>h) (Or.inl ⟨by kernel_rfl, ?h3⟩) hHeld ?r3
  case h3=>intro W hSw;(try dsimp only at hSw);obtain ⟨t0,t1,t2,t3,t4⟩:=hSw;go_simp;try with_reducible rfl
  simp only[Act.put,List.setIfInBounds_toArray,List.set_cons_zero,List.set_cons_succ]
  refine wpAnyH_take (i:=3) (v:= ?v4) rfl (by kernel_rfl) (by kernel_rfl) (by kernel_rfl) (fun _ _ _ h=>h) (Or.inl ⟨by kernel_rfl, ?h4⟩) hHeld ?r4
  case h4=>intro W hSw;(try dsimp only at hSw);obtain ⟨t0,t1,t2,t3,t4⟩:=hSw;go_simp;try with_reducible rfl
  simp only[Act.put,List.setIfInBounds_toArray,List.set_cons_zero,List.set_cons_succ]
  refine wpAnyH_take (i:=4) (v:= ?v5) rfl (by kernel_rfl) (by kernel_rfl) (by kernel_rfl) (fun _ _ _ h=>h) (Or.inl ⟨by kernel_rfl, ?h5⟩) hHeld ?r5
  case h5=>intro W hSw;(try dsimp only at hSw);obtain ⟨t0,t1,t2,t3,t4⟩:=hSw;go_simp;try with_reducible rfl
  simp only[Act.put,List.setIfInBounds_toArray,List.set_cons_zero,List.set_cons_succ]
  refine wpAnyH_take (i:=5) (v:= ?v6) rfl (by kernel_rfl) (by kernel_rfl) (by kernel_rfl) (fun _ _ _ h=>h) (Or.inl ⟨by kernel_rfl, ?h6⟩) hHeld ?r6
  case h6=>intro W hSw;(try dsimp only at hSw);obtain ⟨t0,t1,t2,t3,t4⟩:=hSw;go_simp;try with_reducible rfl
  simp only[Act.put,List.setIfInBounds_toArray,List.set_cons_zero,List.set_cons_succ]
  refine wpAnyH_take (i:=6) (v:= ?v7) rfl (by kernel_rfl) (by kernel_rfl) (by kernel_rfl) (fun _ _ _ h=>h) (Or.inl ⟨by kernel_rfl, ?h7⟩) hHeld ?r7
  case h7=>intro W hSw;(try dsimp only at hSw);obtain ⟨t0,t1,t2,t3,t4⟩:=hSw;go_simp;try with_reducible rfl
  simp only[Act.put,List.setIfInBounds_toArray,List.set_cons_zero,List.set_cons_succ]
  refine wpAnyH_take (i:=7) (v:= ?v8) rfl (by kernel_rfl) (by kernel_rfl) (by kernel_rfl) (fun _ _ _ h=>h) (Or.inl ⟨by kernel_rfl, ?h8⟩) hHeld ?r8
  case h8=>intro W hSw;(try dsimp only at hSw);obtain ⟨t0,t1,t2,t3,t4⟩:=hSw;go_simp;try with_reducible rfl
  simp only[Act.put,List.setIfInBounds_toArray,List.set_cons_zero,List.set_cons_succ]
  refine wpAnyH_take (i:=8) (v:= ?v9) rfl (by kernel_rfl) (by kernel_rfl) (by kernel_rfl) (fun _ _ _ h=>h) (Or.inl ⟨by kernel_rfl, ?h9⟩) hHeld ?r9
  case h9=>intro W hSw;(try dsimp only at hSw);obtain ⟨t0,t1,t2,t3,t4⟩:=hSw;go_simp;try with_reducible rfl
  simp only[Act.put,List.setIfInBounds_toArray,List.set_cons_zero,List.set_cons_succ]
  refine wpAnyH_take (i:=9) (v:= ?v10) rfl (by kernel_rfl) (by kernel_rfl) (by kernel_rfl) (fun _ _ _ h=>h) (Or.inl ⟨by kernel_rfl, ?h10⟩) hHeld ?r10
  case h10=>intro W hSw;(try dsimp only at hSw);obtain ⟨t0,t1,t2,t3,t4⟩:=hSw;go_simp;try with_reducible rfl
  simp only[Act.put,List.setIfInBounds_toArray,List.set_cons_zero,List.set_cons_succ]
  refine wpAnyH_take (i:=10) (v:= ?v11) rfl (by kernel_rfl) (by kernel_rfl) (by kernel_rfl) (fun _ _ _ h=>h) (Or.inl ⟨by kernel_rfl, ?h11⟩) hHeld ?r11
  case h11=>intro W hSw;(try dsimp only at hSw);obtain ⟨t0,t1,t2,t3,t4⟩:=hSw;go_simp;try with_reducible rfl
  simp only[Act.put,List.setIfInBounds_toArray,List.set_cons_zero,List.set_cons_succ]
  refine wpAnyH_take (i:=11) (v:= ?v12) rfl (by kernel_rfl) (by kernel_rfl) (by kernel_rfl) (fun _ _ _ h=>h) (Or.inl ⟨by kernel_rfl, ?h12⟩) hHeld ?r12
  case h12=>intro W hSw;(try dsimp only at hSw);obtain ⟨t0,t1,t2,t3,t4⟩:=hSw;go_simp;try with_reducible rfl
  simp only[Act.put,List.setIfInBounds_toArray,List.set_cons_zero,List.set_cons_succ]
  refine wpAnyH_take (i:=12) (v:= ?v13) rfl (by kernel_rfl) (by kernel_rfl) (by kernel_rfl) (fun _ _ _ h=>h) (Or.inl ⟨by kernel_rfl, ?h13⟩) hHeld ?r13
  case h13=>intro W hSw;(try dsimp only at hSw);obtain ⟨t0,t1,t2,t3,t4⟩:=hSw;go_simp;try with_reducible rfl
  simp only[Act.put,List.setIfInBounds_toArray,List.set_cons_zero,List.set_cons_succ]
  refine wpAnyH_take (i:=13) (v:= ?v14) rfl (by kernel_rfl) (by kernel_rfl) (by kernel_rfl) (fun _ _ _ h=>h) (Or.inl ⟨by kernel_rfl, ?h14⟩) hHeld ?r14
  case h14=>intro W hSw;(try dsimp only at hSw);obtain ⟨t0,t1,t2,t3,t4⟩:=hSw;go_simp;try with_reducible rfl
  simp only[Act.put,List.setIfInBounds_toArray,List.set_cons_zero,List.set_cons_succ]
  refine wpAnyH_take (i:=14) (v:= ?v15) rfl (by kernel_rfl) (by kernel_rfl) (by kernel_rfl) (fun _ _ _ h=>h) (Or.inl ⟨by kernel_rfl, ?h15⟩) hHeld ?r15
  case h15=>intro W hSw;(try dsimp only at hSw);obtain ⟨t0,t1,t2,t3,t4⟩:=hSw;go_simp;try with_reducible rfl
  simp only[Act.put,List.setIfInBounds_toArray,List.set_cons_zero,List.set_cons_succ]
  refine wpAnyH_take (i:=15) (v:= ?v16) rfl (by kernel_rfl) (by kernel_rfl) (by kernel_rfl) (fun _ _ _ h=>h) (Or.inl ⟨by kernel_rfl, ?h16⟩) hHeld ?r16
  case h16=>intro W hSw;(try dsimp only at hSw);obtain ⟨t0,t1,t2,t3,t4⟩:=hSw;go_simp;try with_reducible rfl
  simp only[Act.put,List.setIfInBounds_toArray,List.set_cons_zero,List.set_cons_succ]
  refine wpAnyH_take (i:=16) (v:= ?v17) rfl (by kernel_rfl) (by kernel_rfl) (by kernel_rfl) (fun _ _ _ h=>h) (Or.inl ⟨by kernel_rfl, ?h17⟩) hHeld ?r17
  case h17=>intro W hSw;(try dsimp only at hSw);obtain ⟨t0,t1,t2,t3,t4⟩:=hSw;go_simp;try with_reducible rfl
  simp only[Act.put,List.setIfInBounds_toArray,List.set_cons_zero,List.set_cons_succ]
  refine wpAnyH_take (i:=17) (v:= ?v18) rfl (by kernel_rfl) (by kernel_rfl) (by kernel_rfl) (fun _ _ _ h=>h) (Or.inl ⟨by kernel_rfl, ?h18⟩) hHeld ?r18
  case h18=>intro W hSw;(try dsimp only at hSw);obtain ⟨t0,t1,t2,t3,t4⟩:=hSw;go_simp;try with_reducible rfl
  simp only[Act.put,List.setIfInBounds_toArray,List.set_cons_zero,List.set_cons_succ]
  refine wpAnyH_take (i:=18) (v:= ?v19) rfl (by kernel_rfl) (by kernel_rfl) (by kernel_rfl) (fun _ _ _ h=>h) (Or.inl ⟨by kernel_rfl, ?h19⟩) hHeld ?r19
  case h19=>intro W hSw;(try dsimp only at hSw);obtain ⟨t0,t1,t2,t3,t4⟩:=hSw;go_simp;try with_reducible rfl
  simp only[Act.put,List.setIfInBounds_toArray,List.set_cons_zero,List.set_cons_succ]
  refine wpAnyH_take (i:=19) (v:= ?v20) rfl (by kernel_rfl) (by kernel_rfl) (by kernel_rfl) (fun _ _ _ h=>h) (Or.inl ⟨by kernel_rfl, ?h20⟩) hHeld ?r20
  case h20=>intro W hSw;(try dsimp only at hSw);obtain ⟨t0,t1,t2,t3,t4⟩:=hSw;go_simp;try with_reducible rfl
  simp only[Act.put,List.setIfInBounds_toArray,List.set_cons_zero,List.set_cons_succ]
  refine wpAnyH_take (i:=20) (v:= ?v21) rfl (by kernel_rfl) (by kernel_rfl) (by kernel_rfl) (fun _ _ _ h=>h) (Or.inl ⟨by kernel_rfl, ?h21⟩) hHeld ?r21
  case h21=>intro W hSw;(try dsimp only at hSw);obtain ⟨t0,t1,t2,t3,t4⟩:=hSw;go_simp;try with_reducible rfl
  simp only[Act.put,List.setIfInBounds_toArray,List.set_cons_zero,List.set_cons_succ]
  refine wpAnyH_ready (rs:=[21]) (by kernel_rfl) (by simp) ?_
  refine AllReadyH.cons rfl (fun K hK=> ?_) AllReadyH.nil
  go_simp
  go_wp2_with (first|(go_at_call 57;refine (CC.out _ (bdr0 _)).mono ?_;rintro e w9 ⟨v9,rfl,o9,b9⟩;obtain ⟨ad,cd,rfl⟩:=own_form o9;have b9:=below_trans (bdr0 _) b9;have kp9:=KP.out.below b9;have I9:OwI W0.heap.size w9 (.slice (some ⟨g,0,none⟩) m.insts.length iq) m.insts:=kp9.own.insts;have T9:OwnT8 W0.heap.size w9 (.slice (some ⟨gt,0,none⟩) m.tree.length tq) m.tree:=kp9.own.tree;have S9:=hid (S0.out _ b9);obtain ⟨b7,o7,a7,v7,r7,y0,y1,y2,y3,ff7⟩:=ins_at (OwnR.read (by decide) I9 insO_R) i HK.out;obtain ⟨e7,e8⟩:=ptr_inj ((CI.out w9).symm.trans (r7 w9));subst e7;subst e8;obtain ⟨cs7,hr7⟩:=OwnR.row I9;have yf:∀j,w9.frozen? ⟨g,j,none⟩=false:=fun j=>hr7.frozenAt j;obtain ⟨p1,p2⟩:=ins_put I9 i HK.out ((j:Int),par,st,(m.tree[j]).2.2.2.2) (.slice ad (m.tree[j]).2.2.2.2.length cd) (own_le (Nat.le_trans HB1.out.size (bdr0 _).size) o9) a ha;have P1:=hid (OwM.grewI kp9.own p2 p1);have P2:=hid p2;have P3:=hid (stands_kept p2 (by decide) kp9.box);have P4:=hid (stands_kept p2 (by decide) (ZS.out.below b9));have P5:=hid (below_ins (below_trans HB1.out b9) HBG.out i (.int .i64 (j:Int)) (.int .i64 par) (.string a) (.slice ad (m.tree[j]).2.2.2.2.length cd));have P6:=hid (own_cell_kept p2 (by decide) (Classical.choose_spec (OwnR.row T9)) (j*5+4));clear p1 p2 ff7 r7 hr7 b9 I9 T9))
  refine hK.out _ _ (S9.out) (fun hHeld=> ?_)
  clear hK K
  (try simp only[Act.put,List.setIfInBounds_toArray,List.set_cons_zero,List.set_cons_succ])
  refine wpAnyH_take (i:=22) (v:= ?v22) rfl (by kernel_rfl) (by kernel_rfl) (by kernel_rfl) (fun _ _ _ h=>h) (Or.inl ⟨by kernel_rfl, ?h22⟩) hHeld ?r22
  case h22=>intro W hSw;(try dsimp only at hSw);obtain ⟨t0,t1,t2,t3,t4⟩:=hSw;go_simp;try with_reducible rfl
  simp only[Act.put,List.setIfInBounds_toArray,List.set_cons_zero,List.set_cons_succ]
  refine wpAnyH_take (i:=23) (v:= ?v23) rfl (by kernel_rfl) (by kernel_rfl) (by kernel_rfl) (fun _ _ _ h=>h) (Or.inl ⟨by kernel_rfl, ?h23⟩) hHeld ?r23
  case h23=>intro W hSw;(try dsimp only at hSw);obtain ⟨t0,t1,t2,t3,t4⟩:=hSw;go_simp;try with_reducible rfl
  simp only[Act.put,List.setIfInBounds_toArray,List.set_cons_zero,List.set_cons_succ]
  refine wpAnyH_ready (rs:=[24]) (by kernel_rfl) (by simp) ?_
  refine AllReadyH.cons rfl (fun K hK=> ?_) AllReadyH.nil
  go_simp
  refine hK.out _ _ (⟨P3.out.cell 5 _ rfl,P3.out.cell 7 _ rfl,P4.out.cell 0 _ rfl,P4.out.cell 1 _ rfl,P6.out.trans S9.out.2.2.2.2⟩) (fun hHeld=> ?_)
  clear hK K
  (try simp only[Act.put,List.setIfInBounds_toArray,List.set_cons_zero,List.set_cons_succ])
  refine wpAnyH_done (by kernel_rfl) ?_ _
  go_wp2_with fail
  go_ret2
  exact ⟨Or.inr ⟨_,_,_,hA.out _,rfl,P3.out,P1.out⟩,P5.out⟩
 |none=>
  rw[hf] at cI
  simp only[fdI] at cI
  by_cases h16:m.insts.length=16
  ·have hA:Hid (∀x:Iz,addI m.insts x=none):=fun x=>by unfold addI freI;rw[hf];simp only[h16,if_true]
   have hq16:((m.insts.length:Int)==16)=true:=by rw[h16];rfl
   clear hf h16
   go_enter Tryz.func31,Tryz.ntmps31
   go_wp2_with (first|(go_at_call 64;refine cI.mono ?_;rintro e w1 ⟨rfl,b1⟩;have f71:=below_cell b1 f7)|fail)
   go_ret2
   exact ⟨Or.inl ⟨hA.out _,rfl⟩,below_trans hB (below_trans bx b1)⟩
  ·have hlt:m.insts.length < 16:=by omega
   have hq16:((m.insts.length:Int)==16)=false:=by rw[beq_eq_false_iff_ne];omega
   have hA:Hid (∀x:Iz,addI m.insts x=some (m.insts++[x],m.insts.length)):=fun x=>by unfold addI freI;rw[hf];simp only[if_neg h16]
   obtain ⟨i4,hi4,hz4,hs4,hb4⟩:=info_iz
   clear hf h16
   go_enter Tryz.func31,Tryz.ntmps31
   go_upto_region 6 with (first|(go_at_call 64;refine cI.mono ?_;rintro e w1 ⟨rfl,b1⟩;have f71:=below_cell b1 f7)|fail)
   have kpA:=(kp.below b1).below (box_below w1 (.cells #[.int .i64 0, .int .i64 0, .string ⟨#[]⟩, .slice none 0 0] 43))
   have zsA:=(zs.below b1).below (box_below w1 (.cells #[.int .i64 0, .int .i64 0, .string ⟨#[]⟩, .slice none 0 0] 43))
   have HBA:=below_trans hB (below_trans bx (below_trans b1 (box_below w1 (.cells #[.int .i64 0, .int .i64 0, .string ⟨#[]⟩, .slice none 0 0] 43))))
   obtain ⟨rows,r1,r2,r3,r4⟩:OwI W0.heap.size (w1.alloc (.cells #[.int .i64 0, .int .i64 0, .string ⟨#[]⟩, .slice none 0 0] 43)) (.slice ia m.insts.length iq) m.insts:=kpA.own.insts
   clear kp zs f7 cI bx hB
   go_upto_region 7 with (first
    |(at_builtin;refine wpList_append_row rfl _ _ 28 rfl W0.heap.size 43 i4 _ 4 56 Tryz.underlying28 hi4 hz4 hs4 hb4 rfl (by decide) _ m.insts.length _ rfl r3 w1.heap.size [.int .i64 0, .int .i64 0, .string ⟨#[]⟩, .slice none 0 0] rfl rfl (alloc_row w1 [.int .i64 0, .int .i64 0, .string ⟨#[]⟩, .slice none 0 0] 43) iz_one (by unfold maxLen;omega) (by omega) HBA.size ?_;intro v7 w7 o7 g7;obtain ⟨i7,c7,rfl⟩:=own_form o7;have kk:=Kept.own r3 g7;have st7:=stands_kept kk (by decide) kpA.box;have y7:=st7.cell 7 _ rfl;have yf:=st7.free 7)
    |fail)
   have kb:=set_kept st7 7 (.slice i7 (m.insts.length+1) c7)
   have stB:=st7.set 7 (.slice i7 (m.insts.length+1) c7)
   have ownB:=OwM.kept (OwM.grewI kpA.own kk (OwnR.snoc (insO_apt (by decide)) r1 r2 r3 r4 rfl izO_nil o7 g7)) kb (by decide) (by decide) (by decide) (by decide) (by decide) (by decide) (by decide) (by decide)
   have zs1:=stands_kept kb (by decide) (stands_kept kk (by decide) zsA)
   have HB1:=below_set (below_grown HBA g7 (fun k hk=>(r3.lt k hk).1)) b 7 (.slice i7 (m.insts.length+1) c7) hb
   generalize w7.setCell ⟨b,7,none⟩ (.slice i7 (m.insts.length+1) c7)=wB at stB ownB zs1 HB1 ⊢
   have hset:Hid (∀x:Iz,(m.insts++[(0,0,[],[])]).set m.insts.length x=m.insts++[x]):=fun x=>by simp
   have hll:(m.insts++[((0,0,[],[]):Iz)]).length=m.insts.length+1:=by simp
   obtain ⟨l1,hl1⟩:∃l1,m.insts++[((0,0,[],[]):Iz)]=l1:=⟨_,rfl⟩
   rw[hl1] at hset hll ownB
   rw[←hll] at stB ownB
   have kp1:Kpr W0.heap.size b wB ⟨.slice sa m.stack.length sq, .slice ma m.mem.length mq, .slice wa m.words.length wq, .slice ca m.codes.length cq, .slice ta m.tree.length tq, .slice i7 l1.length c7⟩ {m with insts:=l1} o n was:=⟨stB,ownB⟩
   have hlk:m.insts.length < l1.length:=by omega
   clear stB ownB kb st7 kk kpA zsA HBA r1 r2 r3 r4 o7 g7 y7 yf hl1 hll b1 f71 hli
   have hkk:m.insts.length < l1.length:=hlk
   have rT:RdT wB (.slice ta m.tree.length tq) m.tree:=kp1.own.read.tree
   obtain ⟨bn,on,nm,vu,vp,vc,rn,n0,n1,n2,n3,n4,en,hu,hp,hc⟩:=nod_at rT j hjl
   have oT:OwnT8 W0.heap.size wB (.slice ta m.tree.length tq) m.tree:=kp1.own.tree
   obtain ⟨tcs,htr⟩:=OwnR.row oT
   obtain ⟨gt,tcap,et⟩:=own_some htr (by omega)
   obtain ⟨rfl,rfl⟩:=slc_inj et
   have oI:OwI W0.heap.size wB (.slice i7 l1.length c7) l1:=kp1.own.insts
   obtain ⟨ics,hir⟩:=OwnR.row oI
   obtain ⟨g,icap,ei⟩:=own_some hir (by omega)
   obtain ⟨rfl,rfl⟩:=slc_inj ei
   obtain ⟨en1,en2⟩:=ptr_inj ((idx_node gt m.tree.length tq j hjl wB).symm.trans (rn wB))
   subst en1;subst en2
   obtain ⟨ac,cc,rfl⟩:=rd_slice hc
   have CC:=hid (fun W (q:Below wB.heap.size wB W)=>w_pclone32 _ _ W (hc.below q) (hz _ (List.getElem_mem hjl)).2.1)
   have HBG:Hid (W0.heap.size≤g):=own_ge hir
   have KP:=hid kp1
   have ZS:=hid zs1
   have HB1:=hid HB1
   have HK:=hid hkk
   have S0:Hid (∀W,Below wB.heap.size wB W→(W.cell? ⟨b,5,none⟩=some (.slice (some ⟨gt,0,none⟩) m.tree.length tq)∧W.cell? ⟨b,7,none⟩=some (.slice (some ⟨g,0,none⟩) l1.length c7)∧W.cell? ⟨w.heap.size,0,none⟩=some (.int .i64 (j:Int))∧W.cell? ⟨w.heap.size,1,none⟩=some (.string a)∧W.cell? ⟨gt,j*5+4,none⟩=some (.slice ac (m.tree[j]).2.2.2.2.length cc))):=fun W q=>⟨(KP.out.box.below q).cell 5 _ rfl,(KP.out.box.below q).cell 7 _ rfl,(ZS.out.below q).cell 0 _ rfl,(ZS.out.below q).cell 1 _ rfl,below_cell q n4⟩
   have CI:=hid (idx_ins g l1.length c7 m.insts.length hkk)
   have ci:=CI.out
   have ct:∀w',(Instr.indexAt 27 (.slice (some ⟨gt,0,none⟩) m.tree.length tq) (.int .i64 (j:Int))).run Tryz.prog w'= .ok (.pointer (some ⟨gt,j*5,none⟩)) w':=rn
   clear rT oT oI en hu hp hc n0 n1 n2 n3 n4 rn et ei htr hir kp1 zs1 tcs ics
   refine wp_region_held_drew (S:=fun W=>W.cell? ⟨b,5,none⟩=some (.slice (some ⟨gt,0,none⟩) m.tree.length tq)∧W.cell? ⟨b,7,none⟩=some (.slice (some ⟨g,0,none⟩) l1.length c7)∧W.cell? ⟨w.heap.size,0,none⟩=some (.int .i64 (j:Int))∧W.cell? ⟨w.heap.size,1,none⟩=some (.string a)∧W.cell? ⟨gt,j*5+4,none⟩=some (.slice ac (m.tree[j]).2.2.2.2.length cc)) (by kernel_rfl) (S0.out _ (bdr0 _)) (fun hHeld=> ?_)
   refine wpAnyH_take (i:=0) (v:= ?v24) rfl (by kernel_rfl) (by kernel_rfl) (by kernel_rfl) (fun _ _ _ h=>h) (Or.inl ⟨by kernel_rfl, ?h24⟩) hHeld ?r24
   case h24=>intro W hSw;(try dsimp only at hSw);obtain ⟨t0,t1,t2,t3,t4⟩:=hSw;go_simp;try with_reducible rfl
   simp only[Act.put,List.setIfInBounds_toArray,List.set_cons_zero,List.set_cons_succ]
   refine wpAnyH_take (i:=1) (v:= ?v25) rfl (by kernel_rfl) (by kernel_rfl) (by kernel_rfl) (fun _ _ _ h=>h) (Or.inl ⟨by kernel_rfl, ?h25⟩) hHeld ?r25
   case h25=>intro W hSw;(try dsimp only at hSw);obtain ⟨t0,t1,t2,t3,t4⟩:=hSw;go_simp;try with_reducible rfl
   simp only[Act.put,List.setIfInBounds_toArray,List.set_cons_zero,List.set_cons_succ]
   refine wpAnyH_take (i:=2) (v:= ?v26) rfl (by kernel_rfl) (by kernel_rfl) (by kernel_rfl) (fun _ _ _ h=>h) (Or.inl ⟨by kernel_rfl, ?h26⟩) hHeld ?r26
   case h26=>intro W hSw;(try dsimp only at hSw);obtain ⟨t0,t1,t2,t3,t4⟩:=hSw;go_simp;try with_reducible rfl
   simp only[Act.put,List.setIfInBounds_toArray,List.set_cons_zero,List.set_cons_succ]
   refine wpAnyH_take (i:=3) (v:= ?v27) rfl (by kernel_rfl) (by kernel_rfl) (by kernel_rfl) (fun _ _ _ h=>h) (Or.inl ⟨by kernel_rfl, ?h27⟩) hHeld ?r27
   case h27=>intro W hSw;(try dsimp only at hSw);obtain ⟨t0,t1,t2,t3,t4⟩:=hSw;go_simp;try with_reducible rfl
   simp only[Act.put,List.setIfInBounds_toArray,List.set_cons_zero,List.set_cons_succ]
   refine wpAnyH_take (i:=4) (v:= ?v28) rfl (by kernel_rfl) (by kernel_rfl) (by kernel_rfl) (fun _ _ _ h=>h) (Or.inl ⟨by kernel_rfl, ?h28⟩) hHeld ?r28
   case h28=>intro W hSw;(try dsimp only at hSw);obtain ⟨t0,t1,t2,t3,t4⟩:=hSw;go_simp;try with_reducible rfl
   simp only[Act.put,List.setIfInBounds_toArray,List.set_cons_zero,List.set_cons_succ]
   refine wpAnyH_take (i:=5) (v:= ?v29) rfl (by kernel_rfl) (by kernel_rfl) (by kernel_rfl) (fun _ _ _ h=>h) (Or.inl ⟨by kernel_rfl, ?h29⟩) hHeld ?r29
   case h29=>intro W hSw;(try dsimp only at hSw);obtain ⟨t0,t1,t2,t3,t4⟩:=hSw;go_simp;try with_reducible rfl
   simp only[Act.put,List.setIfInBounds_toArray,List.set_cons_zero,List.set_cons_succ]
   refine wpAnyH_take (i:=6) (v:= ?v30) rfl (by kernel_rfl) (by kernel_rfl) (by kernel_rfl) (fun _ _ _ h=>h) (Or.inl ⟨by kernel_rfl, ?h30⟩) hHeld ?r30
   case h30=>intro W hSw;(try dsimp only at hSw);obtain ⟨t0,t1,t2,t3,t4⟩:=hSw;go_simp;try with_reducible rfl
   simp only[Act.put,List.setIfInBounds_toArray,List.set_cons_zero,List.set_cons_succ]
   refine wpAnyH_take (i:=7) (v:= ?v31) rfl (by kernel_rfl) (by kernel_rfl) (by kernel_rfl) (fun _ _ _ h=>h) (Or.inl ⟨by kernel_rfl, ?h31⟩) hHeld ?r31
   case h31=>intro W hSw;(try dsimp only at hSw);obtain ⟨t0,t1,t2,t3,t4⟩:=hSw;go_simp;try with_reducible rfl
   simp only[Act.put,List.setIfInBounds_toArray,List.set_cons_zero,List.set_cons_succ]
   refine wpAnyH_take (i:=8) (v:= ?v32) rfl (by kernel_rfl) (by kernel_rfl) (by kernel_rfl) (fun _ _ _ h=>h) (Or.inl ⟨by kernel_rfl, ?h32⟩) hHeld ?r32
   case h32=>intro W hSw;(try dsimp only at hSw);obtain ⟨t0,t1,t2,t3,t4⟩:=hSw;go_simp;try with_reducible rfl
   simp only[Act.put,List.setIfInBounds_toArray,List.set_cons_zero,List.set_cons_succ]
   refine wpAnyH_take (i:=9) (v:= ?v33) rfl (by kernel_rfl) (by kernel_rfl) (by kernel_rfl) (fun _ _ _ h=>h) (Or.inl ⟨by kernel_rfl, ?h33⟩) hHeld ?r33
   case h33=>intro W hSw;(try dsimp only at hSw);obtain ⟨t0,t1,t2,t3,t4⟩:=hSw;go_simp;try with_reducible rfl
   simp only[Act.put,List.setIfInBounds_toArray,List.set_cons_zero,List.set_cons_succ]
   refine wpAnyH_take (i:=10) (v:= ?v34) rfl (by kernel_rfl) (by kernel_rfl) (by kernel_rfl) (fun _ _ _ h=>h) (Or.inl ⟨by kernel_rfl, ?h34⟩) hHeld ?r34
   case h34=>intro W hSw;(try dsimp only at hSw);obtain ⟨t0,t1,t2,t3,t4⟩:=hSw;go_simp;try with_reducible rfl
   simp only[Act.put,List.setIfInBounds_toArray,List.set_cons_zero,List.set_cons_succ]
   refine wpAnyH_take (i:=11) (v:= ?v35) rfl (by kernel_rfl) (by kernel_rfl) (by kernel_rfl) (fun _ _ _ h=>h) (Or.inl ⟨by kernel_rfl, ?h35⟩) hHeld ?r35
   case h35=>intro W hSw;(try dsimp only at hSw);obtain ⟨t0,t1,t2,t3,t4⟩:=hSw;go_simp;try with_reducible rfl
   simp only[Act.put,List.setIfInBounds_toArray,List.set_cons_zero,List.set_cons_succ]
   refine wpAnyH_take (i:=12) (v:= ?v36) rfl (by kernel_rfl) (by kernel_rfl) (by kernel_rfl) (fun _ _ _ h=>h) (Or.inl ⟨by kernel_rfl, ?h36⟩) hHeld ?r36
   case h36=>intro W hSw;(try dsimp only at hSw);obtain ⟨t0,t1,t2,t3,t4⟩:=hSw;go_simp;try with_reducible rfl
   simp only[Act.put,List.setIfInBounds_toArray,List.set_cons_zero,List.set_cons_succ]
   refine wpAnyH_take (i:=13) (v:= ?v37) rfl (by kernel_rfl) (by kernel_rfl) (by kernel_rfl) (fun _ _ _ h=>h) (Or.inl ⟨by kernel_rfl, ?h37⟩) hHeld ?r37
   case h37=>intro W hSw;(try dsimp only at hSw);obtain ⟨t0,t1,t2,t3,t4⟩:=hSw;go_simp;try with_reducible rfl
   simp only[Act.put,List.setIfInBounds_toArray,List.set_cons_zero,List.set_cons_succ]
   refine wpAnyH_take (i:=14) (v:= ?v38) rfl (by kernel_rfl) (by kernel_rfl) (by kernel_rfl) (fun _ _ _ h=>h) (Or.inl ⟨by kernel_rfl, ?h38⟩) hHeld ?r38
   case h38=>intro W hSw;(try dsimp only at hSw);obtain ⟨t0,t1,t2,t3,t4⟩:=hSw;go_simp;try with_reducible rfl
   simp only[Act.put,List.setIfInBounds_toArray,List.set_cons_zero,List.set_cons_succ]
   refine wpAnyH_take (i:=15) (v:= ?v39) rfl (by kernel_rfl) (by kernel_rfl) (by kernel_rfl) (fun _ _ _ h=>h) (Or.inl ⟨by kernel_rfl, ?h39⟩) hHeld ?r39
   case h39=>intro W hSw;(try dsimp only at hSw);obtain ⟨t0,t1,t2,t3,t4⟩:=hSw;go_simp;try with_reducible rfl
   simp only[Act.put,List.setIfInBounds_toArray,List.set_cons_zero,List.set_cons_succ]
   refine wpAnyH_take (i:=16) (v:= ?v40) rfl (by kernel_rfl) (by kernel_rfl) (by kernel_rfl) (fun _ _ _ h=>h) (Or.inl ⟨by kernel_rfl, ?h40⟩) hHeld ?r40
   case h40=>intro W hSw;(try dsimp only at hSw);obtain ⟨t0,t1,t2,t3,t4⟩:=hSw;go_simp;try with_reducible rfl
   simp only[Act.put,List.setIfInBounds_toArray,List.set_cons_zero,List.set_cons_succ]
   refine wpAnyH_take (i:=17) (v:= ?v41) rfl (by kernel_rfl) (by kernel_rfl) (by kernel_rfl) (fun _ _ _ h=>h) (Or.inl ⟨by kernel_rfl, ?h41⟩) hHeld ?r41
   case h41=>intro W hSw;(try dsimp only at hSw);obtain ⟨t0,t1,t2,t3,t4⟩:=hSw;go_simp;try with_reducible rfl
   simp only[Act.put,List.setIfInBounds_toArray,List.set_cons_zero,List.set_cons_succ]
   refine wpAnyH_take (i:=18) (v:= ?v42) rfl (by kernel_rfl) (by kernel_rfl) (by kernel_rfl) (fun _ _ _ h=>h) (Or.inl ⟨by kernel_rfl, ?h42⟩) hHeld ?r42
   case h42=>intro W hSw;(try dsimp only at hSw);obtain ⟨t0,t1,t2,t3,t4⟩:=hSw;go_simp;try with_reducible rfl
   simp only[Act.put,List.setIfInBounds_toArray,List.set_cons_zero,List.set_cons_succ]
   refine wpAnyH_take (i:=19) (v:= ?v43) rfl (by kernel_rfl) (by kernel_rfl) (by kernel_rfl) (fun _ _ _ h=>h) (Or.inl ⟨by kernel_rfl, ?h43⟩) hHeld ?r43
   case h43=>intro W hSw;(try dsimp only at hSw);obtain ⟨t0,t1,t2,t3,t4⟩:=hSw;go_simp;try with_reducible rfl
   simp only[Act.put,List.setIfInBounds_toArray,List.set_cons_zero,List.set_cons_succ]
   refine wpAnyH_take (i:=20) (v:= ?v44) rfl (by kernel_rfl) (by kernel_rfl) (by kernel_rfl) (fun _ _ _ h=>h) (Or.inl ⟨by kernel_rfl, ?h44⟩) hHeld ?r44
   case h44=>intro W hSw;(try dsimp only at hSw);obtain ⟨t0,t1,t2,t3,t4⟩:=hSw;go_simp;try with_reducible rfl
   simp only[Act.put,List.setIfInBounds_toArray,List.set_cons_zero,List.set_cons_succ]
   refine wpAnyH_ready (rs:=[21]) (by kernel_rfl) (by simp) ?_
   refine AllReadyH.cons rfl (fun K hK=> ?_) AllReadyH.nil
   go_simp
   go_wp2_with (first|(go_at_call 57;refine (CC.out _ (bdr0 _)).mono ?_;rintro e w9 ⟨v9,rfl,o9,b9⟩;obtain ⟨ad,cd,rfl⟩:=own_form o9;have b9:=below_trans (bdr0 _) b9;have kp9:=KP.out.below b9;have I9:OwI W0.heap.size w9 (.slice (some ⟨g,0,none⟩) l1.length c7) l1:=kp9.own.insts;have T9:OwnT8 W0.heap.size w9 (.slice (some ⟨gt,0,none⟩) m.tree.length tq) m.tree:=kp9.own.tree;have S9:=hid (S0.out _ b9);obtain ⟨b7,o7,a7,v7,r7,y0,y1,y2,y3,ff7⟩:=ins_at (OwnR.read (by decide) I9 insO_R) m.insts.length HK.out;obtain ⟨e7,e8⟩:=ptr_inj ((CI.out w9).symm.trans (r7 w9));subst e7;subst e8;obtain ⟨cs7,hr7⟩:=OwnR.row I9;have yf:∀j,w9.frozen? ⟨g,j,none⟩=false:=fun j=>hr7.frozenAt j;obtain ⟨p1,p2⟩:=ins_put I9 m.insts.length HK.out ((j:Int),par,st,(m.tree[j]).2.2.2.2) (.slice ad (m.tree[j]).2.2.2.2.length cd) (own_le (Nat.le_trans HB1.out.size (bdr0 _).size) o9) a ha;have P1:=hid (OwM.grewI kp9.own p2 p1);have P2:=hid p2;have P3:=hid (stands_kept p2 (by decide) kp9.box);have P4:=hid (stands_kept p2 (by decide) (ZS.out.below b9));have P5:=hid (below_ins (below_trans HB1.out b9) HBG.out m.insts.length (.int .i64 (j:Int)) (.int .i64 par) (.string a) (.slice ad (m.tree[j]).2.2.2.2.length cd));have P6:=hid (own_cell_kept p2 (by decide) (Classical.choose_spec (OwnR.row T9)) (j*5+4));clear p1 p2 ff7 r7 hr7 b9 I9 T9))
   refine hK.out _ _ (S9.out) (fun hHeld=> ?_)
   clear hK K
   (try simp only[Act.put,List.setIfInBounds_toArray,List.set_cons_zero,List.set_cons_succ])
   refine wpAnyH_take (i:=22) (v:= ?v45) rfl (by kernel_rfl) (by kernel_rfl) (by kernel_rfl) (fun _ _ _ h=>h) (Or.inl ⟨by kernel_rfl, ?h45⟩) hHeld ?r45
   case h45=>intro W hSw;(try dsimp only at hSw);obtain ⟨t0,t1,t2,t3,t4⟩:=hSw;go_simp;try with_reducible rfl
   simp only[Act.put,List.setIfInBounds_toArray,List.set_cons_zero,List.set_cons_succ]
   refine wpAnyH_take (i:=23) (v:= ?v46) rfl (by kernel_rfl) (by kernel_rfl) (by kernel_rfl) (fun _ _ _ h=>h) (Or.inl ⟨by kernel_rfl, ?h46⟩) hHeld ?r46
   case h46=>intro W hSw;(try dsimp only at hSw);obtain ⟨t0,t1,t2,t3,t4⟩:=hSw;go_simp;try with_reducible rfl
   simp only[Act.put,List.setIfInBounds_toArray,List.set_cons_zero,List.set_cons_succ]
   refine wpAnyH_ready (rs:=[24]) (by kernel_rfl) (by simp) ?_
   refine AllReadyH.cons rfl (fun K hK=> ?_) AllReadyH.nil
   go_simp
   refine hK.out _ _ (⟨P3.out.cell 5 _ rfl,P3.out.cell 7 _ rfl,P4.out.cell 0 _ rfl,P4.out.cell 1 _ rfl,P6.out.trans S9.out.2.2.2.2⟩) (fun hHeld=> ?_)
   clear hK K
   (try simp only[Act.put,List.setIfInBounds_toArray,List.set_cons_zero,List.set_cons_succ])
   refine wpAnyH_done (by kernel_rfl) ?_ _
   go_wp2_with fail
   go_ret2
   exact ⟨Or.inr ⟨_,_,_,hA.out _,rfl,P3.out,by have q:=P1.out;rw[hset.out] at q;exact q⟩,P5.out⟩
end Go.Proofs.YtlokhciaaepenaaGreatDoor
