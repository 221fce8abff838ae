import Derived.Test.YtlokhciaaepenaaGreatDoorB19
set_option linter.unusedVariables false
set_option linter.unusedSimpArgs false
set_option maxRecDepth 100000
namespace Go.Proofs.YtlokhciaaepenaaGreatDoor
open Go.ChangeShapes Go.WideShapes Go.ChangeAt Go.RowKit
theorem cells12 {w:World} {b:Nat} {z0 z1 z2 z3 z4 z5 z6 z7 z8 z9 za zb:Value} {T:TypeId} (h:Stands w b #[z0,z1,z2,z3,z4,z5,z6,z7,z8,z9,za,zb] T):w.cell? ⟨b,0,none⟩=some z0∧w.cell? ⟨b,1,none⟩=some z1∧w.cell? ⟨b,2,none⟩=some z2∧w.cell? ⟨b,3,none⟩=some z3∧w.cell? ⟨b,4,none⟩=some z4∧w.cell? ⟨b,5,none⟩=some z5∧w.cell? ⟨b,6,none⟩=some z6∧w.cell? ⟨b,7,none⟩=some z7∧w.cell? ⟨b,8,none⟩=some z8∧w.cell? ⟨b,9,none⟩=some z9:=
 ⟨h.cell 0 _ rfl,h.cell 1 _ rfl,h.cell 2 _ rfl,h.cell 3 _ rfl,h.cell 4 _ rfl,h.cell 5 _ rfl,h.cell 6 _ rfl,h.cell 7 _ rfl,h.cell 8 _ rfl,h.cell 9 _ rfl⟩
set_option maxHeartbeats 4000000 in
set_option maxRecDepth 100000 in
theorem w_pkmethod {base b:Nat} {v:Mv} {m:Mc} {o:ByteArray} {n was:Int} (i:Nat) (s:ByteArray) (w:World) (h:Kpr base b w v m o n was) (hi:i < m.insts.length) (hby:∀x∈m.words,bytesL x.1) (hno:∀x∈m.words,¬x.1=L s):
  Calls Tryz.prog 45 #[.pointer (some ⟨b,0,none⟩), .int .i64 i, .string s] w fun e w'=>e= .returned (.tuple #[.int .i64 0, .bool false])∧Below w.heap.size w w':=by
 obtain ⟨sa,sq,ma,mq,wa,wq,ca,cq,ta,tq,ia,iq,rfl⟩:=h.own.form
 obtain ⟨bi,oi,ar,vc,rs,f0,ff⟩:=ins_at h.own.read.insts i hi
 clear ff
 simp only at rs
 obtain ⟨X,hX⟩:∃X,(m.insts[i]).1=X:=⟨_,rfl⟩
 rw[hX] at f0
 have CM:=hid (fun W (g:Below w.heap.size w W)=>by
  have q:=w_p9method' ⟨.slice sa m.stack.length sq, .slice ma m.mem.length mq, .slice wa m.words.length wq, .slice ca m.codes.length cq, .slice ta m.tree.length tq, .slice ia m.insts.length iq⟩ m o s X W (h.own.read.below g).words hby
  rw[mth_none hno] at q
  simpa only[Mv.cs,fnI,Option.isSome] using q)
 have s0:Stands w b #[.slice sa m.stack.length sq, .slice ma m.mem.length mq, .slice wa m.words.length wq, .slice ca m.codes.length cq, .int .u32 m.base, .slice ta m.tree.length tq, .int .i64 m.node, .slice ia m.insts.length iq, .int .i64 m.self, .string o, .int .i64 n, .int .i64 was] 62:=h.box
 have S0:Hid (∀W,Below w.heap.size w W→(W.cell? ⟨b,0,none⟩=some (.slice sa m.stack.length sq)∧W.cell? ⟨b,1,none⟩=some (.slice ma m.mem.length mq)∧W.cell? ⟨b,2,none⟩=some (.slice wa m.words.length wq)∧W.cell? ⟨b,3,none⟩=some (.slice ca m.codes.length cq)∧W.cell? ⟨b,4,none⟩=some (.int .u32 m.base)∧W.cell? ⟨b,5,none⟩=some (.slice ta m.tree.length tq)∧W.cell? ⟨b,6,none⟩=some (.int .i64 m.node)∧W.cell? ⟨b,7,none⟩=some (.slice ia m.insts.length iq)∧W.cell? ⟨b,8,none⟩=some (.int .i64 m.self)∧W.cell? ⟨b,9,none⟩=some (.string o)∧W.cell? ⟨bi,oi,none⟩=some (.int .i64 X))):=fun W g=>by
  obtain ⟨q0,q1,q2,q3,q4,q5,q6,q7,q8,q9⟩:=cells12 (s0.below g)
  exact ⟨q0,q1,q2,q3,q4,q5,q6,q7,q8,q9,below_cell g f0⟩
 clear hX f0 s0 h hi hby hno
 go_enter Tryz.func45,Tryz.ntmps45
 go_upto_region 1 with fail
 refine wp_region_held_drew (S:=fun W=>W.cell? ⟨b,0,none⟩=some (.slice sa m.stack.length sq)∧W.cell? ⟨b,1,none⟩=some (.slice ma m.mem.length mq)∧W.cell? ⟨b,2,none⟩=some (.slice wa m.words.length wq)∧W.cell? ⟨b,3,none⟩=some (.slice ca m.codes.length cq)∧W.cell? ⟨b,4,none⟩=some (.int .u32 m.base)∧W.cell? ⟨b,5,none⟩=some (.slice ta m.tree.length tq)∧W.cell? ⟨b,6,none⟩=some (.int .i64 m.node)∧W.cell? ⟨b,7,none⟩=some (.slice ia m.insts.length iq)∧W.cell? ⟨b,8,none⟩=some (.int .i64 m.self)∧W.cell? ⟨b,9,none⟩=some (.string o)∧W.cell? ⟨bi,oi,none⟩=some (.int .i64 X)) (by kernel_rfl) (S0.out _ (bdr0 _)) (fun hHeld=> ?_)
 refine wpAnyH_take (i:=0) (v:= ?v1) rfl (by kernel_rfl) (by kernel_rfl) (by kernel_rfl) (fun _ _ _ h=>h) (Or.inl ⟨by kernel_rfl, ?h1⟩) hHeld ?r1
 case h1=>intro W hSw;(try dsimp only at hSw);obtain ⟨t0,t1,t2,t3,t4,t5,t6,t7,t8,t9,t10⟩:=hSw;go_simp;try with_reducible rfl
 simp only[Act.put,List.setIfInBounds_toArray,List.set_cons_zero,List.set_cons_succ]
 refine wpAnyH_take (i:=1) (v:= ?v2) rfl (by kernel_rfl) (by kernel_rfl) (by kernel_rfl) (fun _ _ _ h=>h) (Or.inl ⟨by kernel_rfl, ?h2⟩) hHeld ?r2
 case h2=>intro W hSw;(try dsimp only at hSw);obtain ⟨t0,t1,t2,t3,t4,t5,t6,t7,t8,t9,t10⟩:=hSw;go_simp;try with_reducible rfl
 simp only[Act.put,List.setIfInBounds_toArray,List.set_cons_zero,List.set_cons_succ]
 refine wpAnyH_take (i:=2) (v:= ?v3) rfl (by kernel_rfl) (by kernel_rfl) (by kernel_rfl) (fun _ _ _ h=>h) (Or.inl ⟨by kernel_rfl, ?h3⟩) hHeld ?r3
 case h3=>intro W hSw;(try dsimp only at hSw);obtain ⟨t0,t1,t2,t3,t4,t5,t6,t7,t8,t9,t10⟩:=hSw;go_simp;try with_reducible rfl
 simp only[Act.put,List.setIfInBounds_toArray,List.set_cons_zero,List.set_cons_succ]
 refine wpAnyH_take (i:=3) (v:= ?v4) rfl (by kernel_rfl) (by kernel_rfl) (by kernel_rfl) (fun _ _ _ h=>h) (Or.inl ⟨by kernel_rfl, ?h4⟩) hHeld ?r4
 case h4=>intro W hSw;(try dsimp only at hSw);obtain ⟨t0,t1,t2,t3,t4,t5,t6,t7,t8,t9,t10⟩:=hSw;go_simp;try with_reducible rfl
 simp only[Act.put,List.setIfInBounds_toArray,List.set_cons_zero,List.set_cons_succ]
 refine wpAnyH_take (i:=4) (v:= ?v5) rfl (by kernel_rfl) (by kernel_rfl) (by kernel_rfl) (fun _ _ _ h=>h) (Or.inl ⟨by kernel_rfl, ?h5⟩) hHeld ?r5
 case h5=>intro W hSw;(try dsimp only at hSw);obtain ⟨t0,t1,t2,t3,t4,t5,t6,t7,t8,t9,t10⟩:=hSw;go_simp;try with_reducible rfl
 simp only[Act.put,List.setIfInBounds_toArray,List.set_cons_zero,List.set_cons_succ]
 refine wpAnyH_take (i:=5) (v:= ?v6) rfl (by kernel_rfl) (by kernel_rfl) (by kernel_rfl) (fun _ _ _ h=>h) (Or.inl ⟨by kernel_rfl, ?h6⟩) hHeld ?r6
 case h6=>intro W hSw;(try dsimp only at hSw);obtain ⟨t0,t1,t2,t3,t4,t5,t6,t7,t8,t9,t10⟩:=hSw;go_simp;try with_reducible rfl
 simp only[Act.put,List.setIfInBounds_toArray,List.set_cons_zero,List.set_cons_succ]
 refine wpAnyH_take (i:=6) (v:= ?v7) rfl (by kernel_rfl) (by kernel_rfl) (by kernel_rfl) (fun _ _ _ h=>h) (Or.inl ⟨by kernel_rfl, ?h7⟩) hHeld ?r7
 case h7=>intro W hSw;(try dsimp only at hSw);obtain ⟨t0,t1,t2,t3,t4,t5,t6,t7,t8,t9,t10⟩:=hSw;go_simp;try with_reducible rfl
 simp only[Act.put,List.setIfInBounds_toArray,List.set_cons_zero,List.set_cons_succ]
 refine wpAnyH_take (i:=7) (v:= ?v8) rfl (by kernel_rfl) (by kernel_rfl) (by kernel_rfl) (fun _ _ _ h=>h) (Or.inl ⟨by kernel_rfl, ?h8⟩) hHeld ?r8
 case h8=>intro W hSw;(try dsimp only at hSw);obtain ⟨t0,t1,t2,t3,t4,t5,t6,t7,t8,t9,t10⟩:=hSw;go_simp;try with_reducible rfl
 simp only[Act.put,List.setIfInBounds_toArray,List.set_cons_zero,List.set_cons_succ]
 refine wpAnyH_take (i:=8) (v:= ?v9) rfl (by kernel_rfl) (by kernel_rfl) (by kernel_rfl) (fun _ _ _ h=>h) (Or.inl ⟨by kernel_rfl, ?h9⟩) hHeld ?r9
 case h9=>intro W hSw;(try dsimp only at hSw);obtain ⟨t0,t1,t2,t3,t4,t5,t6,t7,t8,t9,t10⟩:=hSw;go_simp;try with_reducible rfl
 simp only[Act.put,List.setIfInBounds_toArray,List.set_cons_zero,List.set_cons_succ]
 refine wpAnyH_take (i:=9) (v:= ?v10) rfl (by kernel_rfl) (by kernel_rfl) (by kernel_rfl) (fun _ _ _ h=>h) (Or.inl ⟨by kernel_rfl, ?h10⟩) hHeld ?r10
 case h10=>intro W hSw;(try dsimp only at hSw);obtain ⟨t0,t1,t2,t3,t4,t5,t6,t7,t8,t9,t10⟩:=hSw;go_simp;try with_reducible rfl
 simp only[Act.put,List.setIfInBounds_toArray,List.set_cons_zero,List.set_cons_succ]
 refine wpAnyH_take (i:=10) (v:= ?v11) rfl (by kernel_rfl) (by kernel_rfl) (by kernel_rfl) (fun _ _ _ h=>h) (Or.inl ⟨by kernel_rfl, ?h11⟩) hHeld ?r11
 case h11=>intro W hSw;(try dsimp only at hSw);obtain ⟨t0,t1,t2,t3,t4,t5,t6,t7,t8,t9,t10⟩:=hSw;go_simp;try with_reducible rfl
 simp only[Act.put,List.setIfInBounds_toArray,List.set_cons_zero,List.set_cons_succ]
 refine wpAnyH_take (i:=11) (v:= ?v12) rfl (by kernel_rfl) (by kernel_rfl) (by kernel_rfl) (fun _ _ _ h=>h) (Or.inl ⟨by kernel_rfl, ?h12⟩) hHeld ?r12
 case h12=>intro W hSw;(try dsimp only at hSw);obtain ⟨t0,t1,t2,t3,t4,t5,t6,t7,t8,t9,t10⟩:=hSw;go_simp;try with_reducible rfl
 simp only[Act.put,List.setIfInBounds_toArray,List.set_cons_zero,List.set_cons_succ]
 refine wpAnyH_take (i:=12) (v:= ?v13) rfl (by kernel_rfl) (by kernel_rfl) (by kernel_rfl) (fun _ _ _ h=>h) (Or.inl ⟨by kernel_rfl, ?h13⟩) hHeld ?r13
 case h13=>intro W hSw;(try dsimp only at hSw);obtain ⟨t0,t1,t2,t3,t4,t5,t6,t7,t8,t9,t10⟩:=hSw;go_simp;try with_reducible rfl
 simp only[Act.put,List.setIfInBounds_toArray,List.set_cons_zero,List.set_cons_succ]
 refine wpAnyH_take (i:=13) (v:= ?v14) rfl (by kernel_rfl) (by kernel_rfl) (by kernel_rfl) (fun _ _ _ h=>h) (Or.inl ⟨by kernel_rfl, ?h14⟩) hHeld ?r14
 case h14=>intro W hSw;(try dsimp only at hSw);obtain ⟨t0,t1,t2,t3,t4,t5,t6,t7,t8,t9,t10⟩:=hSw;go_simp;try with_reducible rfl
 simp only[Act.put,List.setIfInBounds_toArray,List.set_cons_zero,List.set_cons_succ]
 refine wpAnyH_ready (rs:=[14]) (by kernel_rfl) (by simp) ?_
 refine AllReadyH.cons rfl (fun K hK=> ?_) AllReadyH.nil
 go_simp
 go_wp2_with (first|(go_at_call 79;refine (CM.out _ (bdr0 _)).mono ?_;rintro e w9 ⟨rfl,b9⟩;have B9:=hid b9;clear b9))
 refine hK.out _ _ (S0.out _ (below_trans (bdr0 _) B9.out)) (fun hHeld=> ?_)
 clear hK K
 (try simp only[Act.put,List.setIfInBounds_toArray,List.set_cons_zero,List.set_cons_succ])
 refine wpAnyH_take (i:=15) (v:= ?v15) rfl (by kernel_rfl) (by kernel_rfl) (by kernel_rfl) (fun _ _ _ h=>h) (Or.inl ⟨by kernel_rfl, ?h15⟩) hHeld ?r15
 case h15=>intro W hSw;(try dsimp only at hSw);obtain ⟨t0,t1,t2,t3,t4,t5,t6,t7,t8,t9,t10⟩:=hSw;go_simp;try with_reducible rfl
 simp only[Act.put,List.setIfInBounds_toArray,List.set_cons_zero,List.set_cons_succ]
 refine wpAnyH_take (i:=16) (v:= ?v16) rfl (by kernel_rfl) (by kernel_rfl) (by kernel_rfl) (fun _ _ _ h=>h) (Or.inl ⟨by kernel_rfl, ?h16⟩) hHeld ?r16
 case h16=>intro W hSw;(try dsimp only at hSw);obtain ⟨t0,t1,t2,t3,t4,t5,t6,t7,t8,t9,t10⟩:=hSw;go_simp;try with_reducible rfl
 simp only[Act.put,List.setIfInBounds_toArray,List.set_cons_zero,List.set_cons_succ]
 refine wpAnyH_ready (rs:=[17]) (by kernel_rfl) (by simp) ?_
 refine AllReadyH.cons rfl (fun K hK=> ?_) AllReadyH.nil
 go_simp
 refine hK.out _ _ (S0.out _ (below_trans (bdr0 _) B9.out)) (fun hHeld=> ?_)
 clear hK K
 (try simp only[Act.put,List.setIfInBounds_toArray,List.set_cons_zero,List.set_cons_succ])
 refine wpAnyH_ready (rs:=[18]) (by kernel_rfl) (by simp) ?_
 refine AllReadyH.cons rfl (fun K hK=> ?_) AllReadyH.nil
 go_simp
 refine hK.out _ _ (S0.out _ (below_trans (bdr0 _) B9.out)) (fun hHeld=> ?_)
 clear hK K
 (try simp only[Act.put,List.setIfInBounds_toArray,List.set_cons_zero,List.set_cons_succ])
 refine wpAnyH_done (by kernel_rfl) ?_ _
 go_wp2_with fail
 go_ret2
 exact ⟨rfl,below_trans (bdr0 _) B9.out⟩
set_option maxHeartbeats 1000000 in
set_option maxRecDepth 100000 in
theorem w_pkopen {base b:Nat} {v:Mv} {m:Mc} {o:ByteArray} {n was:Int} (i:Nat) (w:World) (h:Kpr base b w v m o n was) (hi:i < m.insts.length) (hby:∀x∈m.words,bytesL x.1) (hno:∀x∈m.words,¬x.1=[111,112,101,110]):
  Calls Tryz.prog 32 #[.pointer (some ⟨b,0,none⟩), .int .i64 i] w fun e w'=>e= .returned (.int .i64 0)∧Below w.heap.size w w':=by
 have cM:=w_pkmethod i ⟨#[111,112,101,110]⟩ w h hi hby hno
 clear h hby hno
 go_enter Tryz.func32,Tryz.ntmps32
 go_wp2_with (first|(go_at_call 45;refine cM.mono ?_;rintro e w1 ⟨rfl,b1⟩)|fail)
 go_ret
 exact ⟨rfl,b1⟩
set_option maxHeartbeats 1000000 in
set_option maxRecDepth 100000 in
theorem w_pkstood {base b:Nat} {v:Mv} {m:Mc} {o:ByteArray} {n was:Int} (i:Int) (w:World) (h:Kpr base b w v m o n was):
  Calls Tryz.prog 24 #[.pointer (some ⟨b,0,none⟩), .int .i64 i] w fun e w'=>e= .returned (.bool (m.insts.any (fun x=>decide (x.2.1=i))))∧Below w.heap.size w w':=by
 have hmf:∀(fn:Fn) (first cap:Array Value) (w:World),(Instr.makeFunc fn first cap).run Tryz.prog w= .ok (.func fn first cap) w:=fun _ _ _ _=>rfl
 have eg:∀args w,(callFunc 44 args).run Tryz.prog w= .ok (.enter 44 args) w:=enters_of Tryz.func44 (by kernel_rfl) rfl
 obtain ⟨sa,sq,ma,mq,wa,wq,ca,cq,ta,tq,ia,iq,rfl⟩:=h.own.form
 have bx:=box_below w (.cells #[.int .i64 i] 3)
 have z0:=(stands_new w #[.int .i64 i] 3).cell 0 _ rfl
 have f7:(w.alloc (.cells #[.int .i64 i] 3)).cell? ⟨b,7,none⟩=some (.slice ia m.insts.length iq):=(h.box.below bx).cell 7 _ rfl
 have ri:=(h.own.read.below bx).insts
 have ask:AskI (w.alloc (.cells #[.int .i64 i] 3)) 44 #[.pointer (some ⟨w.heap.size,0,none⟩)] (fun x=>decide (x.2.1=i)) m.insts:=by
  intro W ar vc x g _ _ hc
  exact w_paskon x.1 x.2.1 i ar vc x.2.2.2 w.heap.size W hc (below_cell g z0)
 have cC:=w_pcontainsI _ m.insts _ _ _ _ eg ri ask
 obtain ⟨R,hR⟩:∃R,m.insts.any (fun x=>decide (x.2.1=i))=R:=⟨_,rfl⟩
 rw[hR] at cC ⊢
 clear ask ri h hR z0
 go_enter Tryz.func24,Tryz.ntmps24
 go_wp2_with (first|(go_at_call 43;refine cC.mono ?_;rintro e w1 ⟨rfl,b1⟩)|fail)
 go_ret
 exact ⟨rfl,below_trans bx b1⟩
end Go.Proofs.YtlokhciaaepenaaGreatDoor
