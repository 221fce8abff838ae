import Derived.Test.YtkkehbdahniiaaaGreatDoorB5
set_option linter.unusedVariables false
set_option linter.unusedSimpArgs false
set_option maxRecDepth 100000
namespace Go.Proofs.YtkkehbdahniiaaaGreatDoor
open Go.ChangeShapes Go.WideShapes Go.ChangeAt Go.RowKit
theorem infoLp:(Tryz.prog.info? 171).map (fun i=>(i.zero,i.size,i.bytes))=some (some (.agg #[.int .i64 0, .int .i64 0, .int .i64 0]),3,24):=by kernel_rfl
set_option maxHeartbeats 4000000 in
set_option maxRecDepth 100000 in
theorem fw_openLoop {base q:Nat} {X:Cx} {w:World} {V:Rv} {s:Rst} (h:RowM base q X w V s) (bd:Bnd s) (C:Int) (ok:okQ (cdT C) true=true):
  Calls Tryz.prog 115 #[.pointer (some ⟨q,0,none⟩), .int .i64 C] w fun e w'=>e= .returned (.tuple #[])∧RowP base q X w V w' {lay1 s (cdT C) with lp:=s.lp++[((brn s C).1,(brn s C).2,s.sz+szT (cdT C))]}:=by
 have z4:=bd.lpl
 have z1:=bd.tk
 have z2:=bd.s0
 have z3:=bd.s1
 have kz:=szC C ok
 have hbv:brV (brn s C)= .agg #[.int .i64 (brn s C).1, .int .i64 (brn s C).2]:=rfl
 obtain ⟨nb,hnb⟩:∃b,brn s C=b:=⟨_,rfl⟩
 rw[hnb] at hbv
 obtain ⟨n1,n2⟩:=nb
 have HBR:=hid hnb
 simp only at hbv
 obtain ⟨i9,hi9,hz9,hz8,hz7⟩:=info_parts infoLp
 have cb:=fw_branch h C ok (by omega) z2 (by omega)
 rw[HBR.out,hbv] at cb
 have H:=hid h
 clear h bd
 go_enter Tryz.func115,Tryz.ntmps115
 go_upto_region 1 with (go_at_call 111;refine cb.mono ?_;rintro e w4 ⟨rfl,vt4,h4,n4⟩)
 have st4:=stands_new w4 #[.int .i64 n1, .int .i64 n2] 158
 have c4:=box_below w4 (.cells #[.int .i64 n1, .int .i64 n2] 158)
 have H4:=hid (h4.below c4)
 have N4:=hid (n4.trans (Nxt.below _ c4))
 have HB4:=hid (h4.new (Nat.le_refl w4.heap.size))
 generalize w4.alloc (.cells #[.int .i64 n1, .int .i64 n2] 158)=W4 at st4 c4 H4 N4 ⊢
 have S4:=hid st4
 clear h4 n4 st4 c4
 obtain ⟨Z,hZ⟩:∃Z,s.sz+szT (cdT C)=Z:=⟨_,rfl⟩
 have cD:Below W4.heap.size W4 W4.drew:=below_drewN (Below.refl _ W4) 1
 have c5:=below_trans cD (box_below W4.drew (.cells #[.int .i64 n1, .int .i64 n2, .int .i64 Z] 171))
 have H5:=hid (H4.out.below c5)
 have N5:=hid (N4.out.trans (Nxt.below _ c5))
 have hnew:=alloc_row W4.drew [Value.int .i64 n1, .int .i64 n2, .int .i64 Z] 171
 have SD:=S4.out.below cD
 have S5:=hid (S4.out.below c5)
 have HD:=H4.out.below cD
 have K1:Hid (W4.drew.cell? ⟨q,1,none⟩=some (.int .i64 Z)∧W4.drew.cell? ⟨w4.heap.size,0,none⟩=some (.int .i64 n1)∧W4.drew.cell? ⟨w4.heap.size,1,none⟩=some (.int .i64 n2)):=hid ⟨(HD.st.cell 1 _ rfl).trans (congrArg (fun z=>some (Value.int .i64 z)) hZ),SD.cell 0 _ rfl,SD.cell 1 _ rfl⟩
 have K2:Hid ((W4.drew.alloc (.cells #[.int .i64 n1, .int .i64 n2, .int .i64 Z] 171)).cell? ⟨q,1,none⟩=some (.int .i64 Z)∧(W4.drew.alloc (.cells #[.int .i64 n1, .int .i64 n2, .int .i64 Z] 171)).cell? ⟨w4.heap.size,0,none⟩=some (.int .i64 n1)∧(W4.drew.alloc (.cells #[.int .i64 n1, .int .i64 n2, .int .i64 Z] 171)).cell? ⟨w4.heap.size,1,none⟩=some (.int .i64 n2)):=hid ⟨(H5.out.st.cell 1 _ rfl).trans (congrArg (fun z=>some (Value.int .i64 z)) hZ),S5.out.cell 0 _ rfl,S5.out.cell 1 _ rfl⟩
 have one:∀u∈[Value.int .i64 n1, .int .i64 n2, .int .i64 Z],u.oneCell'=true:=fun u hu=>by simp at hu;rcases hu with rfl|rfl|rfl <;> rfl
 have o5:OwLp base _ V.l s.lp:=H5.out.lp
 unfold OwLp at o5
 have hsX:=H5.out.hs
 have f4a:=HD.st.cell 4 _ rfl
 have f4b:=H5.out.st.cell 4 _ rfl
 have f4c:=(H4.out.below (box_below W4 (.cells #[.int .i64 n1, .int .i64 n2, .int .i64 Z] 171))).st.cell 4 _ rfl
 clear cD c5 SD HD
 refine wp_region_held_drew (S:=fun W=>W.cell? ⟨q,1,none⟩=some (.int .i64 Z)∧W.cell? ⟨w4.heap.size,0,none⟩=some (.int .i64 n1)∧W.cell? ⟨w4.heap.size,1,none⟩=some (.int .i64 n2)) (by kernel_rfl) (K1.out) (fun hHeld=> ?_)
 refine wpAnyH_take (i:=0) (v:= ?v13) rfl (by kernel_rfl) (by kernel_rfl) (by kernel_rfl) (fun _ _ _ h=>h) (Or.inl ⟨by kernel_rfl, ?h13⟩) hHeld ?r13
 case h13=>intro W hSw;(try dsimp only at hSw);obtain ⟨s0,s1,s2⟩:=hSw;go_simp;try with_reducible rfl
 simp only[Act.put,List.setIfInBounds_toArray,List.set_cons_zero,List.set_cons_succ]
 refine wpAnyH_take (i:=1) (v:= ?v14) rfl (by kernel_rfl) (by kernel_rfl) (by kernel_rfl) (fun _ _ _ h=>h) (Or.inl ⟨by kernel_rfl, ?h14⟩) hHeld ?r14
 case h14=>intro W hSw;(try dsimp only at hSw);obtain ⟨s0,s1,s2⟩:=hSw;go_simp;try with_reducible rfl
 simp only[Act.put,List.setIfInBounds_toArray,List.set_cons_zero,List.set_cons_succ]
 refine wpAnyH_take (i:=2) (v:= ?v15) rfl (by kernel_rfl) (by kernel_rfl) (by kernel_rfl) (fun _ _ _ h=>h) (Or.inl ⟨by kernel_rfl, ?h15⟩) hHeld ?r15
 case h15=>intro W hSw;(try dsimp only at hSw);obtain ⟨s0,s1,s2⟩:=hSw;go_simp;try with_reducible rfl
 simp only[Act.put,List.setIfInBounds_toArray,List.set_cons_zero,List.set_cons_succ]
 refine wpAnyH_take (i:=3) (v:= ?v16) rfl (by kernel_rfl) (by kernel_rfl) (by kernel_rfl) (fun _ _ _ h=>h) (Or.inl ⟨by kernel_rfl, ?h16⟩) hHeld ?r16
 case h16=>intro W hSw;(try dsimp only at hSw);obtain ⟨s0,s1,s2⟩:=hSw;go_simp;try with_reducible rfl
 simp only[Act.put,List.setIfInBounds_toArray,List.set_cons_zero,List.set_cons_succ]
 refine wpAnyH_take (i:=5) (v:= ?v17) rfl (by kernel_rfl) (by kernel_rfl) (by kernel_rfl) (fun _ _ _ h=>h) (Or.inl ⟨by kernel_rfl, ?h17⟩) hHeld ?r17
 case h17=>intro W hSw;(try dsimp only at hSw);obtain ⟨s0,s1,s2⟩:=hSw;go_simp;try with_reducible rfl
 simp only[Act.put,List.setIfInBounds_toArray,List.set_cons_zero,List.set_cons_succ]
 refine wpAnyH_take (i:=6) (v:= ?v18) rfl (by kernel_rfl) (by kernel_rfl) (by kernel_rfl) (fun _ _ _ h=>h) (Or.inl ⟨by kernel_rfl, ?h18⟩) hHeld ?r18
 case h18=>intro W hSw;(try dsimp only at hSw);obtain ⟨s0,s1,s2⟩:=hSw;go_simp;try with_reducible rfl
 simp only[Act.put,List.setIfInBounds_toArray,List.set_cons_zero,List.set_cons_succ]
 refine wpAnyH_take (i:=7) (v:= ?v19) rfl (by kernel_rfl) (by kernel_rfl) (by kernel_rfl) (fun _ _ _ h=>h) (Or.inl ⟨by kernel_rfl, ?h19⟩) hHeld ?r19
 case h19=>intro W hSw;(try dsimp only at hSw);obtain ⟨s0,s1,s2⟩:=hSw;go_simp;try with_reducible rfl
 simp only[Act.put,List.setIfInBounds_toArray,List.set_cons_zero,List.set_cons_succ]
 refine wpAnyH_take (i:=8) (v:= ?v20) rfl (by kernel_rfl) (by kernel_rfl) (by kernel_rfl) (fun _ _ _ h=>h) (Or.inl ⟨by kernel_rfl, ?h20⟩) hHeld ?r20
 case h20=>intro W hSw;(try dsimp only at hSw);obtain ⟨s0,s1,s2⟩:=hSw;go_simp;try with_reducible rfl
 simp only[Act.put,List.setIfInBounds_toArray,List.set_cons_zero,List.set_cons_succ]
 refine wpAnyH_take (i:=9) (v:= ?v21) rfl (by kernel_rfl) (by kernel_rfl) (by kernel_rfl) (fun _ _ _ h=>h) (Or.inl ⟨by kernel_rfl, ?h21⟩) hHeld ?r21
 case h21=>intro W hSw;(try dsimp only at hSw);obtain ⟨s0,s1,s2⟩:=hSw;go_simp;try with_reducible rfl
 simp only[Act.put,List.setIfInBounds_toArray,List.set_cons_zero,List.set_cons_succ]
 refine wpAnyH_take (i:=10) (v:= ?v22) rfl (by kernel_rfl) (by kernel_rfl) (by kernel_rfl) (fun _ _ _ h=>h) (Or.inl ⟨by kernel_rfl, ?h22⟩) hHeld ?r22
 case h22=>intro W hSw;(try dsimp only at hSw);obtain ⟨s0,s1,s2⟩:=hSw;go_simp;try with_reducible rfl
 simp only[Act.put,List.setIfInBounds_toArray,List.set_cons_zero,List.set_cons_succ]
 refine wpAnyH_ready (rs:=[4,11]) (by kernel_rfl) (by simp) ?_
 refine AllReadyH.cons rfl (fun K hK=> ?_) (AllReadyH.cons rfl (fun K hK=> ?_) AllReadyH.nil)
 ·go_simp
  refine hK.out _ _ (K1.out) (fun hHeld=> ?_)
  clear hK K
  (try simp only[Act.put,List.setIfInBounds_toArray,List.set_cons_zero,List.set_cons_succ])
  refine wpAnyH_ready (rs:=[11]) (by kernel_rfl) (by simp) ?_
  refine AllReadyH.cons rfl (fun K hK=> ?_) AllReadyH.nil
  go_simp
  refine hK.out _ _ (K2.out) (fun hHeld=> ?_)
  clear hK K
  (try simp only[Act.put,List.setIfInBounds_toArray,List.set_cons_zero,List.set_cons_succ])
  refine wpAnyH_ready (rs:=[12]) (by kernel_rfl) (by simp) ?_
  refine AllReadyH.cons rfl (fun K hK=> ?_) AllReadyH.nil
  (refine step_append_at rfl (.tmp 12) (.tmp 19) 56 rfl base 171 i9 _ 3 24 Tryz.underlying56 hi9 hz9 hz8 hz7 rfl (by decide) V.l s.lp.length _ rfl o5 W4.heap.size 1 1 [.int .i64 n1, .int .i64 n2, .int .i64 Z] rfl rfl hnew one (by unfold maxLen;omega) (by omega) hsX ?_;intro v9 w9 ho9 hg9 hl9;obtain ⟨a9,c9,rfl⟩:=own_form ho9;have so9:=stands_kept (Kept.own H5.out.lp hg9) (by decide) H5.out.st;have u4:=so9.cell 4 _ rfl;have uf4:=so9.free 4;have st9:=S5.out.grown hg9 (stands_apart S5.out o5 (by decide));have K5:Hid (w9.cell? ⟨q,1,none⟩=some (.int .i64 Z)∧w9.cell? ⟨w4.heap.size,0,none⟩=some (.int .i64 n1)∧w9.cell? ⟨w4.heap.size,1,none⟩=some (.int .i64 n2)):=hid ⟨(so9.cell 1 _ rfl).trans (congrArg (fun z=>some (Value.int .i64 z)) hZ),st9.cell 0 _ rfl,st9.cell 1 _ rfl⟩;have so10:=so9.set 4 (.slice a9 (s.lp.length+1) c9);have st10:=st9.other 4 (.slice a9 (s.lp.length+1) c9) (fun e=>HB4.out (Or.inl e));have K6:Hid ((w9.setCell ⟨q,4,none⟩ (.slice a9 (s.lp.length+1) c9)).cell? ⟨q,1,none⟩=some (.int .i64 Z)∧(w9.setCell ⟨q,4,none⟩ (.slice a9 (s.lp.length+1) c9)).cell? ⟨w4.heap.size,0,none⟩=some (.int .i64 n1)∧(w9.setCell ⟨q,4,none⟩ (.slice a9 (s.lp.length+1) c9)).cell? ⟨w4.heap.size,1,none⟩=some (.int .i64 n2)):=hid ⟨(so10.cell 1 _ rfl).trans (congrArg (fun z=>some (Value.int .i64 z)) hZ),st10.cell 0 _ rfl,st10.cell 1 _ rfl⟩;have oA:OwLp base w9 (.slice a9 (s.lp.length+1) c9) (s.lp++[(n1,n2,Z)]):=(by unfold OwLp;rw[List.length_append,List.flatMap_append];exact ho9);have RG:=hid (H5.out.growL (v0:=V.l) rfl hg9 oA hl9);clear ho9 so9 st9 oA so10 st10)
  refine hK.out _ _ (K5.out) (fun hHeld=> ?_)
  clear hK K
  (try simp only[Act.put,List.setIfInBounds_toArray,List.set_cons_zero,List.set_cons_succ])
  refine wpAnyH_take (i:=13) (v:= ?v23) rfl (by kernel_rfl) (by kernel_rfl) (by kernel_rfl) (fun _ _ _ h=>h) (Or.inl ⟨by kernel_rfl, ?h23⟩) hHeld ?r23
  case h23=>intro W hSw;(try dsimp only at hSw);obtain ⟨s0,s1,s2⟩:=hSw;go_simp;try with_reducible rfl
  simp only[Act.put,List.setIfInBounds_toArray,List.set_cons_zero,List.set_cons_succ]
  refine wpAnyH_take (i:=14) (v:= ?v24) rfl (by kernel_rfl) (by kernel_rfl) (by kernel_rfl) (fun _ _ _ h=>h) (Or.inl ⟨by kernel_rfl, ?h24⟩) hHeld ?r24
  case h24=>intro W hSw;(try dsimp only at hSw);obtain ⟨s0,s1,s2⟩:=hSw;go_simp;try with_reducible rfl
  simp only[Act.put,List.setIfInBounds_toArray,List.set_cons_zero,List.set_cons_succ]
  refine wpAnyH_ready (rs:=[15]) (by kernel_rfl) (by simp) ?_
  refine AllReadyH.cons rfl (fun K hK=> ?_) AllReadyH.nil
  go_simp
  refine hK.out _ _ (K6.out) (fun hHeld=> ?_)
  clear hK K
  (try simp only[Act.put,List.setIfInBounds_toArray,List.set_cons_zero,List.set_cons_succ])
  refine wpAnyH_done (by kernel_rfl) ?_ _
  (try simp only[Exit.then])
  go_wp2_with fail
  go_end0
  exact ⟨rfl,_,by first|exact RG.out.1|(rw[hZ];exact RG.out.1)|(rw[HBR.out,hZ];exact RG.out.1),N5.out.trans RG.out.2⟩
 ·go_simp
  refine hK.out _ _ (K2.out) (fun hHeld=> ?_)
  clear hK K
  (try simp only[Act.put,List.setIfInBounds_toArray,List.set_cons_zero,List.set_cons_succ])
  refine wpAnyH_ready (rs:=[4]) (by kernel_rfl) (by simp) ?_
  refine AllReadyH.cons rfl (fun K hK=> ?_) AllReadyH.nil
  go_simp
  refine hK.out _ _ (K2.out) (fun hHeld=> ?_)
  clear hK K
  (try simp only[Act.put,List.setIfInBounds_toArray,List.set_cons_zero,List.set_cons_succ])
  refine wpAnyH_ready (rs:=[12]) (by kernel_rfl) (by simp) ?_
  refine AllReadyH.cons rfl (fun K hK=> ?_) AllReadyH.nil
  (refine step_append_at rfl (.tmp 12) (.tmp 19) 56 rfl base 171 i9 _ 3 24 Tryz.underlying56 hi9 hz9 hz8 hz7 rfl (by decide) V.l s.lp.length _ rfl o5 W4.heap.size 1 1 [.int .i64 n1, .int .i64 n2, .int .i64 Z] rfl rfl hnew one (by unfold maxLen;omega) (by omega) hsX ?_;intro v9 w9 ho9 hg9 hl9;obtain ⟨a9,c9,rfl⟩:=own_form ho9;have so9:=stands_kept (Kept.own H5.out.lp hg9) (by decide) H5.out.st;have u4:=so9.cell 4 _ rfl;have uf4:=so9.free 4;have st9:=S5.out.grown hg9 (stands_apart S5.out o5 (by decide));have K5:Hid (w9.cell? ⟨q,1,none⟩=some (.int .i64 Z)∧w9.cell? ⟨w4.heap.size,0,none⟩=some (.int .i64 n1)∧w9.cell? ⟨w4.heap.size,1,none⟩=some (.int .i64 n2)):=hid ⟨(so9.cell 1 _ rfl).trans (congrArg (fun z=>some (Value.int .i64 z)) hZ),st9.cell 0 _ rfl,st9.cell 1 _ rfl⟩;have so10:=so9.set 4 (.slice a9 (s.lp.length+1) c9);have st10:=st9.other 4 (.slice a9 (s.lp.length+1) c9) (fun e=>HB4.out (Or.inl e));have K6:Hid ((w9.setCell ⟨q,4,none⟩ (.slice a9 (s.lp.length+1) c9)).cell? ⟨q,1,none⟩=some (.int .i64 Z)∧(w9.setCell ⟨q,4,none⟩ (.slice a9 (s.lp.length+1) c9)).cell? ⟨w4.heap.size,0,none⟩=some (.int .i64 n1)∧(w9.setCell ⟨q,4,none⟩ (.slice a9 (s.lp.length+1) c9)).cell? ⟨w4.heap.size,1,none⟩=some (.int .i64 n2)):=hid ⟨(so10.cell 1 _ rfl).trans (congrArg (fun z=>some (Value.int .i64 z)) hZ),st10.cell 0 _ rfl,st10.cell 1 _ rfl⟩;have oA:OwLp base w9 (.slice a9 (s.lp.length+1) c9) (s.lp++[(n1,n2,Z)]):=(by unfold OwLp;rw[List.length_append,List.flatMap_append];exact ho9);have RG:=hid (H5.out.growL (v0:=V.l) rfl hg9 oA hl9);clear ho9 so9 st9 oA so10 st10)
  refine hK.out _ _ (K5.out) (fun hHeld=> ?_)
  clear hK K
  (try simp only[Act.put,List.setIfInBounds_toArray,List.set_cons_zero,List.set_cons_succ])
  refine wpAnyH_take (i:=13) (v:= ?v25) rfl (by kernel_rfl) (by kernel_rfl) (by kernel_rfl) (fun _ _ _ h=>h) (Or.inl ⟨by kernel_rfl, ?h25⟩) hHeld ?r25
  case h25=>intro W hSw;(try dsimp only at hSw);obtain ⟨s0,s1,s2⟩:=hSw;go_simp;try with_reducible rfl
  simp only[Act.put,List.setIfInBounds_toArray,List.set_cons_zero,List.set_cons_succ]
  refine wpAnyH_take (i:=14) (v:= ?v26) rfl (by kernel_rfl) (by kernel_rfl) (by kernel_rfl) (fun _ _ _ h=>h) (Or.inl ⟨by kernel_rfl, ?h26⟩) hHeld ?r26
  case h26=>intro W hSw;(try dsimp only at hSw);obtain ⟨s0,s1,s2⟩:=hSw;go_simp;try with_reducible rfl
  simp only[Act.put,List.setIfInBounds_toArray,List.set_cons_zero,List.set_cons_succ]
  refine wpAnyH_ready (rs:=[15]) (by kernel_rfl) (by simp) ?_
  refine AllReadyH.cons rfl (fun K hK=> ?_) AllReadyH.nil
  go_simp
  refine hK.out _ _ (K6.out) (fun hHeld=> ?_)
  clear hK K
  (try simp only[Act.put,List.setIfInBounds_toArray,List.set_cons_zero,List.set_cons_succ])
  refine wpAnyH_done (by kernel_rfl) ?_ _
  (try simp only[Exit.then])
  go_wp2_with fail
  go_end0
  exact ⟨rfl,_,by first|exact RG.out.1|(rw[hZ];exact RG.out.1)|(rw[HBR.out,hZ];exact RG.out.1),N5.out.trans RG.out.2⟩
set_option maxHeartbeats 4000000 in
set_option maxRecDepth 100000 in
theorem fw_closeLoop {base q:Nat} {X:Cx} {w:World} {V:Rv} {s:Rst} (h:RowM base q X w V s) (bd:Bnd s) (C:Int) (ok:okQ (cdT C) true=true):
  Calls Tryz.prog 116 #[.pointer (some ⟨q,0,none⟩), .int .i64 C] w (ActQ base q X w V (match s.lp.getLast? with
  |none=>none
  |some l=>some (led (led (lay1 {s with lp:=s.lp.dropLast} (cdT C)) l.2.2 [brn s C]) (s.sz+szT (cdT C)) [(l.1,l.2.1)]))):=by
 have f4:=h.st.cell 4 _ rfl
 rcases hl:s.lp.getLast? with _|l
 ·have hn:s.lp=[]:=List.getLast?_eq_none_iff.1 hl
  have o:=h.lp
  rw[hn] at o
  have cn:=fw_newL0 _ _ o
  have hs:=h.hs
  clear h o bd hl hn
  go_enter Tryz.func116,Tryz.ntmps116
  go_wp2_with (first|(go_at_call 129;refine cn.mono ?_;rintro e w1 ⟨rfl,b1⟩)|fail)
  go_ret
  exact ⟨rfl,(below_trans b1 (box_below _ _)).mono hs⟩
 ·have hp0:0 < s.lp.length:=by obtain ⟨h1,_⟩:=last_get hl;omega
  obtain ⟨g,cap,hV⟩:=own_some h.lp hp0
  have o:=h.lp
  rw[hV] at o f4
  have cn:=fw_newL s.lp l w o hl
  have bok:=bd.lp l (last_mem hl)
  obtain ⟨l1,l2,l3⟩:=l
  unfold lpV at cn
  simp only at cn bok ⊢
  have z1:=bd.tk
  have z2:=bd.s0
  have z3:=bd.s1
  have kz:=szC C ok
  have hbv:brV (brn s C)= .agg #[.int .i64 (brn s C).1, .int .i64 (brn s C).2]:=rfl
  obtain ⟨nb,hnb⟩:∃b,brn s C=b:=⟨_,rfl⟩
  rw[hnb] at hbv
  obtain ⟨n1,n2⟩:=nb
  have HBR:=hid hnb
  simp only at hbv
  have BI:=hid (br_in (s':=lay1 {s with lp:=s.lp.dropLast} (cdT C)) ok bd rfl)
  rw[HBR.out] at BI
  have H:=hid h
  have HV:=hid hV
  have BO:=hid bok.1
  have t3:=bok.2
  clear h o bd hl hV bok
  go_enter Tryz.func116,Tryz.ntmps116
  go_upto_region 2 with (go_at_call 129;refine cn.mono ?_;rintro e w1 ⟨rfl,c1⟩)
  have st1:=stands_new w1 #[.int .i64 l1, .int .i64 l2, .int .i64 l3] 171
  have c2:=below_trans c1 (box_below w1 (.cells #[.int .i64 l1, .int .i64 l2, .int .i64 l3] 171))
  have H1:=hid (H.out.below c2)
  have N1:Hid (Nxt q w V _ V):=hid (Nxt.below V c2)
  have B1:w.heap.size≤w1.heap.size:=c1.size
  generalize w1.alloc (.cells #[.int .i64 l1, .int .i64 l2, .int .i64 l3] 171)=W1 at st1 c2 H1 N1 ⊢
  have HB1:=hid (H.out.new B1)
  have L1:=heap_lt' st1
  have S1:=hid st1
  clear st1 c2 B1
  have f4':=H1.out.st.cell 4 _ rfl
  have fr4:=H1.out.st.free 4
  obtain ⟨h2,n2⟩:=H1.out.popL HV.out
  have N2:=hid (N1.out.trans n2)
  have S2:=hid (S1.out.other 4 (.slice (some ⟨g,0,none⟩) (s.lp.length - 1) cap) (fun e=>HB1.out (Or.inl e)))
  have HB2:=hid (n2.notin HB1.out L1)
  have H2:=hid h2
  have L2:=heap_lt' S2.out
  clear h2 n2
  go_upto_region 5 with fail
  generalize W1.setCell ⟨q,4,none⟩ (.slice (some ⟨g,0,none⟩) (s.lp.length - 1) cap)=W2 at H2 N2 S2 L2 ⊢
  have cD:Below W2.heap.size W2 W2.drew:=below_drewN (Below.refl _ W2) 1
  have HD:=hid (H2.out.below cD)
  have ND:=hid (N2.out.trans (Nxt.below _ cD))
  have SD:=hid (S2.out.below cD)
  have LD:=heap_lt' SD.out
  have cb:=fw_branch HD.out C ok (by show s.tk.length≤1000000;omega) z2 (by show s.sz≤1000000;omega)
  have hb2:brV (brn {s with lp:=s.lp.dropLast} C)= .agg #[.int .i64 n1, .int .i64 n2]:=hbv ▸ congrArg brV HBR.out
  rw[hb2] at cb
  have K1:=hid (SD.out.cell 2 _ rfl)
  clear cD
  refine wp_region_held_drew (S:=fun W=>W.cell? ⟨w1.heap.size,2,none⟩=some (.int .i64 l3)) (by kernel_rfl) (K1.out) (fun hHeld=> ?_)
  refine wpAnyH_take (i:=0) (v:= ?v27) rfl (by kernel_rfl) (by kernel_rfl) (by kernel_rfl) (fun _ _ _ h=>h) (Or.inl ⟨by kernel_rfl, ?h27⟩) hHeld ?r27
  case h27=>intro W hSw;(try dsimp only at hSw);obtain s0:=hSw;go_simp;try with_reducible rfl
  simp only[Act.put,List.setIfInBounds_toArray,List.set_cons_zero,List.set_cons_succ]
  refine wpAnyH_take (i:=1) (v:= ?v28) rfl (by kernel_rfl) (by kernel_rfl) (by kernel_rfl) (fun _ _ _ h=>h) (Or.inl ⟨by kernel_rfl, ?h28⟩) hHeld ?r28
  case h28=>intro W hSw;(try dsimp only at hSw);obtain s0:=hSw;go_simp;try with_reducible rfl
  simp only[Act.put,List.setIfInBounds_toArray,List.set_cons_zero,List.set_cons_succ]
  refine wpAnyH_take (i:=2) (v:= ?v29) rfl (by kernel_rfl) (by kernel_rfl) (by kernel_rfl) (fun _ _ _ h=>h) (Or.inl ⟨by kernel_rfl, ?h29⟩) hHeld ?r29
  case h29=>intro W hSw;(try dsimp only at hSw);obtain s0:=hSw;go_simp;try with_reducible rfl
  simp only[Act.put,List.setIfInBounds_toArray,List.set_cons_zero,List.set_cons_succ]
  refine wpAnyH_take (i:=3) (v:= ?v30) rfl (by kernel_rfl) (by kernel_rfl) (by kernel_rfl) (fun _ _ _ h=>h) (Or.inl ⟨by kernel_rfl, ?h30⟩) hHeld ?r30
  case h30=>intro W hSw;(try dsimp only at hSw);obtain s0:=hSw;go_simp;try with_reducible rfl
  simp only[Act.put,List.setIfInBounds_toArray,List.set_cons_zero,List.set_cons_succ]
  refine wpAnyH_take (i:=4) (v:= ?v31) rfl (by kernel_rfl) (by kernel_rfl) (by kernel_rfl) (fun _ _ _ h=>h) (Or.inl ⟨by kernel_rfl, ?h31⟩) hHeld ?r31
  case h31=>intro W hSw;(try dsimp only at hSw);obtain s0:=hSw;go_simp;try with_reducible rfl
  simp only[Act.put,List.setIfInBounds_toArray,List.set_cons_zero,List.set_cons_succ]
  refine wpAnyH_ready (rs:=[5]) (by kernel_rfl) (by simp) ?_
  refine AllReadyH.cons rfl (fun K hK=> ?_) AllReadyH.nil
  go_simp
  go_wp2_with (first|(go_at_call 111;refine cb.mono ?_;rintro e W4 ⟨rfl,vt4,h4,n4⟩;have st4:=SD.out.frm n4.fr HB2.out;have K2:=hid (st4.cell 2 _ rfl);have c5:=box_below W4 (.cells #[.int .i64 n1, .int .i64 n2] 158);have K3:=hid ((st4.below c5).cell 2 _ rfl);have cL:=fw_lead (h4.below c5) l3 (.slice (some ⟨W4.heap.size,0,none⟩) 1 1) [(n1,n2)] (fun W k=>br_one (b:=(n1,n2)) (stands_kept k (by decide) (stands_new W4 _ _))) BI.out (by unfold lay1;simp) (by omega) (by omega);have N5:=hid ((ND.out.trans n4).trans (Nxt.below _ c5));have S5:=hid (st4.below c5);have HB5:=hid (n4.notin HB2.out LD);have L5a:=heap_lt' S5.out;clear h4 n4 st4 c5))
  refine hK.out _ _ (K2.out) (fun hHeld=> ?_)
  clear hK K
  (try simp only[Act.put,List.setIfInBounds_toArray,List.set_cons_zero,List.set_cons_succ])
  refine wpAnyH_ready (rs:=[6]) (by kernel_rfl) (by simp) ?_
  refine AllReadyH.cons rfl (fun K hK=> ?_) AllReadyH.nil
  go_simp
  refine hK.out _ _ (K3.out) (fun hHeld=> ?_)
  clear hK K
  (try simp only[Act.put,List.setIfInBounds_toArray,List.set_cons_zero,List.set_cons_succ])
  refine wpAnyH_ready (rs:=[7]) (by kernel_rfl) (by simp) ?_
  refine AllReadyH.cons rfl (fun K hK=> ?_) AllReadyH.nil
  go_simp
  go_wp2_with (first|(go_at_call 127;refine cL.mono ?_;rintro e W6 ⟨rfl,h6,n6⟩;have H6:=hid h6;have N6:=hid (N5.out.trans n6);have S6:=hid (S5.out.frm n6.fr HB5.out);have K4:=hid (S6.out.cell 2 _ rfl);have HB6:=hid (n6.notin HB5.out L5a);clear h6 n6))
  refine hK.out _ _ (K4.out) (fun hHeld=> ?_)
  clear hK K
  (try simp only[Act.put,List.setIfInBounds_toArray,List.set_cons_zero,List.set_cons_succ])
  refine wpAnyH_done (by kernel_rfl) ?_ _
  (try simp only[Exit.then])
  clear K1 K2 K3 K4 cL
  go_upto_region 6 with fail
  obtain ⟨Z,hZ⟩:∃Z,s.sz+szT (cdT C)=Z:=⟨_,rfl⟩
  have f1:W6.cell? ⟨q,1,none⟩=some (.int .i64 Z):=(H6.out.st.cell 1 _ rfl).trans (congrArg (fun z=>some (Value.int .i64 z)) hZ)
  have g0:=S6.out.cell 0 _ rfl
  have g1:=S6.out.cell 1 _ rfl
  have c4:Below W6.heap.size W6 W6.drew:=below_drewN (Below.refl _ W6) 1
  have c5:=below_trans c4 (box_below W6.drew (.cells #[.int .i64 l1, .int .i64 l2] 158))
  have cL:=fw_lead (H6.out.below c5) Z (.slice (some ⟨W6.heap.size,0,none⟩) 1 1) [(l1,l2)] (fun W k=>br_one (b:=(l1,l2)) (stands_kept k (by decide) (stands_new W6.drew _ _))) (fun x hx=>by have:=lead_in (t:=cdT C) BO.out x hx;rw[show ((led (lay1 {s with lp:=s.lp.dropLast} (cdT C)) l3 [(n1,n2)]).tk.length:Int)=((s.tk++[cdT C]).length:Nat) from by rw[show (led (lay1 {s with lp:=s.lp.dropLast} (cdT C)) l3 [(n1,n2)]).tk.length=(lay1 {s with lp:=s.lp.dropLast} (cdT C)).tk.length from ledL_len _ _ _];rfl];exact this) (by rw[show (led (lay1 {s with lp:=s.lp.dropLast} (cdT C)) l3 [(n1,n2)]).tk.length=(lay1 {s with lp:=s.lp.dropLast} (cdT C)).tk.length from ledL_len _ _ _];unfold lay1;simp) (by omega) (by omega)
  have N5:=hid (N6.out.trans (Nxt.below _ c5))
  have SA:=hid (S6.out.below c5)
  have L5:=heap_lt' SA.out
  have K1:=hid (And.intro (below_cell c4 f1) (And.intro (below_cell c4 g0) (below_cell c4 g1)))
  have K2:=hid (And.intro (below_cell c5 f1) (And.intro (below_cell c5 g0) (below_cell c5 g1)))
  clear c4 c5
  refine wp_region_held_drew (S:=fun W=>W.cell? ⟨q,1,none⟩=some (.int .i64 Z)∧W.cell? ⟨w1.heap.size,0,none⟩=some (.int .i64 l1)∧W.cell? ⟨w1.heap.size,1,none⟩=some (.int .i64 l2)) (by kernel_rfl) (K1.out) (fun hHeld=> ?_)
  refine wpAnyH_take (i:=0) (v:= ?v32) rfl (by kernel_rfl) (by kernel_rfl) (by kernel_rfl) (fun _ _ _ h=>h) (Or.inl ⟨by kernel_rfl, ?h32⟩) hHeld ?r32
  case h32=>intro W hSw;(try dsimp only at hSw);obtain ⟨s0,s1,s2⟩:=hSw;go_simp;try with_reducible rfl
  simp only[Act.put,List.setIfInBounds_toArray,List.set_cons_zero,List.set_cons_succ]
  refine wpAnyH_take (i:=1) (v:= ?v33) rfl (by kernel_rfl) (by kernel_rfl) (by kernel_rfl) (fun _ _ _ h=>h) (Or.inl ⟨by kernel_rfl, ?h33⟩) hHeld ?r33
  case h33=>intro W hSw;(try dsimp only at hSw);obtain ⟨s0,s1,s2⟩:=hSw;go_simp;try with_reducible rfl
  simp only[Act.put,List.setIfInBounds_toArray,List.set_cons_zero,List.set_cons_succ]
  refine wpAnyH_take (i:=2) (v:= ?v34) rfl (by kernel_rfl) (by kernel_rfl) (by kernel_rfl) (fun _ _ _ h=>h) (Or.inl ⟨by kernel_rfl, ?h34⟩) hHeld ?r34
  case h34=>intro W hSw;(try dsimp only at hSw);obtain ⟨s0,s1,s2⟩:=hSw;go_simp;try with_reducible rfl
  simp only[Act.put,List.setIfInBounds_toArray,List.set_cons_zero,List.set_cons_succ]
  refine wpAnyH_take (i:=3) (v:= ?v35) rfl (by kernel_rfl) (by kernel_rfl) (by kernel_rfl) (fun _ _ _ h=>h) (Or.inl ⟨by kernel_rfl, ?h35⟩) hHeld ?r35
  case h35=>intro W hSw;(try dsimp only at hSw);obtain ⟨s0,s1,s2⟩:=hSw;go_simp;try with_reducible rfl
  simp only[Act.put,List.setIfInBounds_toArray,List.set_cons_zero,List.set_cons_succ]
  refine wpAnyH_take (i:=4) (v:= ?v36) rfl (by kernel_rfl) (by kernel_rfl) (by kernel_rfl) (fun _ _ _ h=>h) (Or.inl ⟨by kernel_rfl, ?h36⟩) hHeld ?r36
  case h36=>intro W hSw;(try dsimp only at hSw);obtain ⟨s0,s1,s2⟩:=hSw;go_simp;try with_reducible rfl
  simp only[Act.put,List.setIfInBounds_toArray,List.set_cons_zero,List.set_cons_succ]
  refine wpAnyH_take (i:=5) (v:= ?v37) rfl (by kernel_rfl) (by kernel_rfl) (by kernel_rfl) (fun _ _ _ h=>h) (Or.inl ⟨by kernel_rfl, ?h37⟩) hHeld ?r37
  case h37=>intro W hSw;(try dsimp only at hSw);obtain ⟨s0,s1,s2⟩:=hSw;go_simp;try with_reducible rfl
  simp only[Act.put,List.setIfInBounds_toArray,List.set_cons_zero,List.set_cons_succ]
  refine wpAnyH_take (i:=6) (v:= ?v38) rfl (by kernel_rfl) (by kernel_rfl) (by kernel_rfl) (fun _ _ _ h=>h) (Or.inl ⟨by kernel_rfl, ?h38⟩) hHeld ?r38
  case h38=>intro W hSw;(try dsimp only at hSw);obtain ⟨s0,s1,s2⟩:=hSw;go_simp;try with_reducible rfl
  simp only[Act.put,List.setIfInBounds_toArray,List.set_cons_zero,List.set_cons_succ]
  refine wpAnyH_ready (rs:=[7]) (by kernel_rfl) (by simp) ?_
  refine AllReadyH.cons rfl (fun K hK=> ?_) AllReadyH.nil
  go_simp
  refine hK.out _ _ (K2.out) (fun hHeld=> ?_)
  clear hK K
  (try simp only[Act.put,List.setIfInBounds_toArray,List.set_cons_zero,List.set_cons_succ])
  refine wpAnyH_ready (rs:=[8]) (by kernel_rfl) (by simp) ?_
  refine AllReadyH.cons rfl (fun K hK=> ?_) AllReadyH.nil
  go_simp
  go_wp2_with (first|(go_at_call 127;refine cL.mono ?_;rintro e w9 ⟨rfl,h9,n9⟩;have H9:=hid h9;have N9:=hid (N5.out.trans n9);have st9:=SA.out.frm n9.fr HB6.out;have K3:Hid (w9.cell? ⟨q,1,none⟩=some (.int .i64 Z)∧w9.cell? ⟨w1.heap.size,0,none⟩=some (.int .i64 l1)∧w9.cell? ⟨w1.heap.size,1,none⟩=some (.int .i64 l2)):=hid ⟨(h9.st.cell 1 _ rfl).trans (congrArg (fun z=>some (Value.int .i64 z)) hZ),st9.cell 0 _ rfl,st9.cell 1 _ rfl⟩;have HB9:=hid (n9.notin HB6.out L5);have S9:=hid st9;clear h9 n9 st9))
  refine hK.out _ _ (K3.out) (fun hHeld=> ?_)
  clear hK K
  (try simp only[Act.put,List.setIfInBounds_toArray,List.set_cons_zero,List.set_cons_succ])
  refine wpAnyH_done (by kernel_rfl) ?_ _
  (try simp only[Exit.then])
  go_wp2_with fail
  go_ret
  exact ⟨rfl,_,by first|exact H9.out|(rw[hZ];exact H9.out)|(rw[HBR.out,hZ];exact H9.out),N9.out⟩
set_option maxHeartbeats 4000000 in
set_option maxRecDepth 100000 in
theorem fw_leave {base q:Nat} {X:Cx} {w:World} {V:Rv} {s:Rst} (h:RowM base q X w V s) (bd:Bnd s):
  Calls Tryz.prog 117 #[.pointer (some ⟨q,0,none⟩)] w (ActQ base q X w V (match s.lp.getLast? with
  |none=>none
  |some l=>some (lay1 s (cdT 27)))):=by
 have f4:=h.st.cell 4 _ rfl
 rcases hl:s.lp.getLast? with _|l
 ·have hn:s.lp=[]:=List.getLast?_eq_none_iff.1 hl
  have o:=h.lp
  rw[hn] at o
  have cn:=fw_newL0 _ _ o
  have hs:=h.hs
  clear h o bd hl hn
  go_enter Tryz.func117,Tryz.ntmps117
  go_wp2_with (first|(go_at_call 129;refine cn.mono ?_;rintro e w1 ⟨rfl,b1⟩)|fail)
  go_ret
  exact ⟨rfl,(below_trans b1 (box_below _ _)).mono hs⟩
 ·have hp0:0 < s.lp.length:=by obtain ⟨h1,_⟩:=last_get hl;omega
  obtain ⟨g,cap,hV⟩:=own_some h.lp hp0
  have o:=h.lp
  rw[hV] at o f4
  have cn:=fw_newL s.lp l w o hl
  obtain ⟨l1,l2,l3⟩:=l
  unfold lpV at cn
  simp only at cn ⊢
  have z1:=bd.tk
  have z2:=bd.s0
  have z3:=bd.s1
  have H:=hid h
  clear h o bd hl hV
  go_enter Tryz.func117,Tryz.ntmps117
  go_upto_region 2 with (go_at_call 129;refine cn.mono ?_;rintro e w1 ⟨rfl,c1⟩)
  have st1:=stands_new w1 #[.int .i64 l1, .int .i64 l2, .int .i64 l3] 171
  have c2:=below_trans c1 (box_below w1 (.cells #[.int .i64 l1, .int .i64 l2, .int .i64 l3] 171))
  have H1:=hid (H.out.below c2)
  have N1:Hid (Nxt q w V _ V):=hid (Nxt.below V c2)
  have B1:w.heap.size≤w1.heap.size:=c1.size
  generalize w1.alloc (.cells #[.int .i64 l1, .int .i64 l2, .int .i64 l3] 171)=W1 at st1 c2 H1 N1 ⊢
  have HB1:=hid (H.out.new B1)
  have L1:=heap_lt' st1
  have S1:=hid st1
  clear st1 c2 B1
  have cb:=box_below W1 (.cells #[.int .i64 27] 3)
  have cl:=fw_codes (H1.out.below cb) 27 W1.heap.size (stands_new W1 _ _) (H1.out.new (Nat.le_refl _)) (by decide+kernel) (by show s.tk.length≤1000000;omega) z2 (by show s.sz≤1000000;omega)
  have S3:=hid (S1.out.below cb)
  have N3:=hid (N1.out.trans (Nxt.below _ cb))
  have L3:=Nat.lt_of_lt_of_le L1 cb.size
  go_upto_region 4 with (go_at_call 37;refine cl.mono ?_;rintro e W4 ⟨rfl,V4,h4,n4⟩)
  have S4:=hid (S3.out.frm n4.fr HB1.out)
  have N4:=hid (N3.out.trans n4)
  have HB4:=hid (n4.notin HB1.out L3)
  have L4:=heap_lt' S4.out
  have H4:=hid h4
  clear h4 n4 cl cb
  go_wp2_with fail
  go_ret
  exact ⟨rfl,_,H4.out,N4.out⟩
end Go.Proofs.YtkkehbdahniiaaaGreatDoor
