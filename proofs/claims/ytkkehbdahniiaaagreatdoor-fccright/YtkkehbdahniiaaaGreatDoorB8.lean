import Derived.Test.YtkkehbdahniiaaaGreatDoorProg
import Derived.Test.YtkkehbdahniiaaaGreatDoorB7
set_option linter.unusedVariables false
set_option linter.unusedSimpArgs false
set_option maxRecDepth 100000
namespace Go.Proofs.YtkkehbdahniiaaaGreatDoor
open Go.ChangeShapes Go.WideShapes Go.ChangeAt Go.RowKit
def errQ (r:Option Rst):Int:=match r with
 |none=>13
 |some _=>0
theorem ActQ.ret {base q:Nat} {X:Cx} {w:World} {V:Rv} {r:Option Rst} {e:Ending} {w':World} (h:ActQ base q X w V r e w'):e= .returned (.int .i64 (errQ r)):=by
 cases r with
 |none=>exact h.1
 |some s=>exact h.1
theorem infoJi:(Tryz.prog.info? 3).map (fun i=>(i.zero,i.size,i.bytes))=some (some (.int .i64 0),1,8):=by kernel_rfl
set_option maxHeartbeats 4000000 in
set_option maxRecDepth 100000 in
theorem fw_act2 {base q:Nat} {X:Cx} {w:World} {V:Rv} {s:Rst} (h:RowM base q X w V s) (bd:Bnd s):
  Calls Tryz.prog 105 #[.pointer (some ⟨q,0,none⟩), .int .i64 2] w (ActQ base q X w V (actR s 2)):=by
 have c:Calls Tryz.prog 112 #[.pointer (some ⟨q,0,none⟩)] w (ActQ base q X w V (actR s 2)):=by
  have c0:=fw_ahead h bd
  have e:actR s 2=_:=rfl
  unfold actR
  rw[if_neg (by decide),if_pos rfl]
  exact c0
 obtain ⟨R,hR⟩:∃R,actR s 2=R:=⟨_,rfl⟩
 rw[hR] at c ⊢
 clear h bd hR
 go_enter Tryz.func105,Tryz.ntmps105
 go_wp2_with (first|(go_at_call 112;refine c.mono ?_;rintro e w5 P5;obtain rfl:=P5.ret)|fail)
 go_ret
 exact P5
set_option maxHeartbeats 4000000 in
set_option maxRecDepth 100000 in
theorem fw_act3 {base q:Nat} {X:Cx} {w:World} {V:Rv} {s:Rst} (h:RowM base q X w V s) (bd:Bnd s):
  Calls Tryz.prog 105 #[.pointer (some ⟨q,0,none⟩), .int .i64 3] w (ActQ base q X w V (actR s 3)):=by
 have c:=fw_then h bd
 obtain ⟨R,hR⟩:∃R,actR s 3=R:=⟨_,rfl⟩
 rw[hR] at c ⊢
 clear h bd hR
 go_enter Tryz.func105,Tryz.ntmps105
 go_wp2_with (first|(go_at_call 113;refine c.mono ?_;rintro e w5 P5;obtain rfl:=P5.ret)|fail)
 go_ret
 exact P5
set_option maxHeartbeats 4000000 in
set_option maxRecDepth 100000 in
theorem fw_act5 {base q:Nat} {X:Cx} {w:World} {V:Rv} {s:Rst} (h:RowM base q X w V s) (bd:Bnd s):
  Calls Tryz.prog 105 #[.pointer (some ⟨q,0,none⟩), .int .i64 5] w (ActQ base q X w V (actR s 5)):=by
 have c:Calls Tryz.prog 114 #[.pointer (some ⟨q,0,none⟩), .int .i64 19] w (ActQ base q X w V (actR s 5)):=by
  have c0:=fw_back h bd 19 (by decide+kernel)
  have e:actR s 5=_:=rfl
  unfold actR
  rw[if_neg (by decide),if_neg (by decide),if_neg (by decide),if_neg (by decide),if_pos rfl]
  exact c0
 obtain ⟨R,hR⟩:∃R,actR s 5=R:=⟨_,rfl⟩
 rw[hR] at c ⊢
 clear h bd hR
 go_enter Tryz.func105,Tryz.ntmps105
 go_wp2_with (first|(go_at_call 114;refine c.mono ?_;rintro e w5 P5;obtain rfl:=P5.ret)|fail)
 go_ret
 exact P5
set_option maxHeartbeats 4000000 in
set_option maxRecDepth 100000 in
theorem fw_act6 {base q:Nat} {X:Cx} {w:World} {V:Rv} {s:Rst} (h:RowM base q X w V s) (bd:Bnd s):
  Calls Tryz.prog 105 #[.pointer (some ⟨q,0,none⟩), .int .i64 6] w (ActQ base q X w V (actR s 6)):=by
 have c:Calls Tryz.prog 114 #[.pointer (some ⟨q,0,none⟩), .int .i64 20] w (ActQ base q X w V (actR s 6)):=by
  have c0:=fw_back h bd 20 (by decide+kernel)
  have e:actR s 6=_:=rfl
  unfold actR
  rw[if_neg (by decide),if_neg (by decide),if_neg (by decide),if_neg (by decide),if_neg (by decide),if_pos rfl]
  exact c0
 obtain ⟨R,hR⟩:∃R,actR s 6=R:=⟨_,rfl⟩
 rw[hR] at c ⊢
 clear h bd hR
 go_enter Tryz.func105,Tryz.ntmps105
 go_wp2_with (first|(go_at_call 114;refine c.mono ?_;rintro e w5 P5;obtain rfl:=P5.ret)|fail)
 go_ret
 exact P5
set_option maxHeartbeats 4000000 in
set_option maxRecDepth 100000 in
theorem fw_act9 {base q:Nat} {X:Cx} {w:World} {V:Rv} {s:Rst} (h:RowM base q X w V s) (bd:Bnd s):
  Calls Tryz.prog 105 #[.pointer (some ⟨q,0,none⟩), .int .i64 9] w (ActQ base q X w V (actR s 9)):=by
 have c:Calls Tryz.prog 116 #[.pointer (some ⟨q,0,none⟩), .int .i64 21] w (ActQ base q X w V (actR s 9)):=by
  have c0:=fw_closeLoop h bd 21 (by decide+kernel)
  have e:actR s 9=_:=rfl
  unfold actR
  rw[if_neg (by decide),if_neg (by decide),if_neg (by decide),if_neg (by decide),if_neg (by decide),if_neg (by decide),if_neg (by decide),if_neg (by decide),if_pos rfl]
  exact c0
 obtain ⟨R,hR⟩:∃R,actR s 9=R:=⟨_,rfl⟩
 rw[hR] at c ⊢
 clear h bd hR
 go_enter Tryz.func105,Tryz.ntmps105
 go_wp2_with (first|(go_at_call 116;refine c.mono ?_;rintro e w5 P5;obtain rfl:=P5.ret)|fail)
 go_ret
 exact P5
set_option maxHeartbeats 4000000 in
set_option maxRecDepth 100000 in
theorem fw_act10 {base q:Nat} {X:Cx} {w:World} {V:Rv} {s:Rst} (h:RowM base q X w V s) (bd:Bnd s):
  Calls Tryz.prog 105 #[.pointer (some ⟨q,0,none⟩), .int .i64 10] w (ActQ base q X w V (actR s 10)):=by
 have c:Calls Tryz.prog 116 #[.pointer (some ⟨q,0,none⟩), .int .i64 22] w (ActQ base q X w V (actR s 10)):=by
  have c0:=fw_closeLoop h bd 22 (by decide+kernel)
  have e:actR s 10=_:=rfl
  unfold actR
  rw[if_neg (by decide),if_neg (by decide),if_neg (by decide),if_neg (by decide),if_neg (by decide),if_neg (by decide),if_neg (by decide),if_neg (by decide),if_neg (by decide),if_pos rfl]
  exact c0
 obtain ⟨R,hR⟩:∃R,actR s 10=R:=⟨_,rfl⟩
 rw[hR] at c ⊢
 clear h bd hR
 go_enter Tryz.func105,Tryz.ntmps105
 go_wp2_with (first|(go_at_call 116;refine c.mono ?_;rintro e w5 P5;obtain rfl:=P5.ret)|fail)
 go_ret
 exact P5
set_option maxHeartbeats 4000000 in
set_option maxRecDepth 100000 in
theorem fw_act11 {base q:Nat} {X:Cx} {w:World} {V:Rv} {s:Rst} (h:RowM base q X w V s) (bd:Bnd s):
  Calls Tryz.prog 105 #[.pointer (some ⟨q,0,none⟩), .int .i64 11] w (ActQ base q X w V (actR s 11)):=by
 have c:Calls Tryz.prog 117 #[.pointer (some ⟨q,0,none⟩)] w (ActQ base q X w V (actR s 11)):=by
  have c0:=fw_leave h bd
  have e:actR s 11=_:=rfl
  unfold actR
  rw[if_neg (by decide),if_neg (by decide),if_neg (by decide),if_neg (by decide),if_neg (by decide),if_neg (by decide),if_neg (by decide),if_neg (by decide),if_neg (by decide),if_neg (by decide),if_pos rfl]
  exact c0
 obtain ⟨R,hR⟩:∃R,actR s 11=R:=⟨_,rfl⟩
 rw[hR] at c ⊢
 clear h bd hR
 go_enter Tryz.func105,Tryz.ntmps105
 go_wp2_with (first|(go_at_call 117;refine c.mono ?_;rintro e w5 P5;obtain rfl:=P5.ret)|fail)
 go_ret
 exact P5
set_option maxHeartbeats 4000000 in
set_option maxRecDepth 100000 in
theorem fw_act13 {base q:Nat} {X:Cx} {w:World} {V:Rv} {s:Rst} (h:RowM base q X w V s) (bd:Bnd s):
  Calls Tryz.prog 105 #[.pointer (some ⟨q,0,none⟩), .int .i64 13] w (ActQ base q X w V (actR s 13)):=by
 have c:Calls Tryz.prog 118 #[.pointer (some ⟨q,0,none⟩)] w (ActQ base q X w V (actR s 13)):=by
  have c0:=fw_openOf h bd
  have e:actR s 13=_:=rfl
  unfold actR
  rw[if_neg (by decide),if_neg (by decide),if_neg (by decide),if_neg (by decide),if_neg (by decide),if_neg (by decide),if_neg (by decide),if_neg (by decide),if_neg (by decide),if_neg (by decide),if_neg (by decide),if_neg (by decide)]
  clear e
  revert c0
  rcases s.cs.getLast? with _|c
  ·exact id
  ·intro c0
   simp only[show (decide ((13:Int)=14))=false from rfl,show ((13:Int)=13)=True from by simp,show ((13:Int)=14)=False from by simp,if_true,if_false] at c0 ⊢
   exact c0
 obtain ⟨R,hR⟩:∃R,actR s 13=R:=⟨_,rfl⟩
 rw[hR] at c ⊢
 clear h bd hR
 go_enter Tryz.func105,Tryz.ntmps105
 go_wp2_with (first|(go_at_call 118;refine c.mono ?_;rintro e w5 P5;obtain rfl:=P5.ret)|fail)
 go_ret
 exact P5
set_option maxHeartbeats 4000000 in
set_option maxRecDepth 100000 in
theorem fw_act14 {base q:Nat} {X:Cx} {w:World} {V:Rv} {s:Rst} (h:RowM base q X w V s) (bd:Bnd s):
  Calls Tryz.prog 105 #[.pointer (some ⟨q,0,none⟩), .int .i64 14] w (ActQ base q X w V (actR s 14)):=by
 have c:Calls Tryz.prog 119 #[.pointer (some ⟨q,0,none⟩)] w (ActQ base q X w V (actR s 14)):=by
  have c0:=fw_closeOf h bd
  have e:actR s 14=_:=rfl
  unfold actR
  rw[if_neg (by decide),if_neg (by decide),if_neg (by decide),if_neg (by decide),if_neg (by decide),if_neg (by decide),if_neg (by decide),if_neg (by decide),if_neg (by decide),if_neg (by decide),if_neg (by decide),if_neg (by decide)]
  clear e
  revert c0
  rcases s.cs.getLast? with _|c
  ·exact id
  ·intro c0
   simp only[show (decide ((14:Int)=14))=true from rfl,show ((14:Int)=13)=False from by simp,show ((14:Int)=14)=True from by simp,if_true,if_false] at c0 ⊢
   exact c0
 obtain ⟨R,hR⟩:∃R,actR s 14=R:=⟨_,rfl⟩
 rw[hR] at c ⊢
 clear h bd hR
 go_enter Tryz.func105,Tryz.ntmps105
 go_wp2_with (first|(go_at_call 119;refine c.mono ?_;rintro e w5 P5;obtain rfl:=P5.ret)|fail)
 go_ret
 exact P5
set_option maxHeartbeats 4000000 in
set_option maxRecDepth 100000 in
theorem fw_act15 {base q:Nat} {X:Cx} {w:World} {V:Rv} {s:Rst} (h:RowM base q X w V s) (bd:Bnd s):
  Calls Tryz.prog 105 #[.pointer (some ⟨q,0,none⟩), .int .i64 15] w (ActQ base q X w V (actR s 15)):=by
 have c:Calls Tryz.prog 120 #[.pointer (some ⟨q,0,none⟩)] w (ActQ base q X w V (actR s 15)):=by
  have c0:=fw_closeCase h bd
  have e:actR s 15=_:=rfl
  unfold actR
  rw[if_neg (by decide),if_neg (by decide),if_neg (by decide),if_neg (by decide),if_neg (by decide),if_neg (by decide),if_neg (by decide),if_neg (by decide),if_neg (by decide),if_neg (by decide),if_neg (by decide),if_neg (by decide)]
  clear e
  revert c0
  rcases s.cs.getLast? with _|c
  ·exact id
  ·intro c0
   simp only[show (decide ((15:Int)=14))=false from rfl,show ((15:Int)=13)=False from by simp,show ((15:Int)=14)=False from by simp,if_true,if_false] at c0 ⊢
   exact c0
 obtain ⟨R,hR⟩:∃R,actR s 15=R:=⟨_,rfl⟩
 rw[hR] at c ⊢
 clear h bd hR
 go_enter Tryz.func105,Tryz.ntmps105
 go_wp2_with (first|(go_at_call 120;refine c.mono ?_;rintro e w5 P5;obtain rfl:=P5.ret)|fail)
 go_ret
 exact P5
set_option maxHeartbeats 4000000 in
set_option maxRecDepth 100000 in
theorem fw_act7 {base q:Nat} {X:Cx} {w:World} {V:Rv} {s:Rst} (h:RowM base q X w V s) (bd:Bnd s):
  Calls Tryz.prog 105 #[.pointer (some ⟨q,0,none⟩), .int .i64 7] w (ActQ base q X w V (actR s 7)):=by
 have c:=fw_openLoop h bd 23 (by decide+kernel)
 unfold actR
 rw[if_neg (by decide),if_neg (by decide),if_neg (by decide),if_neg (by decide),if_neg (by decide),if_neg (by decide),if_pos rfl]
 clear h bd
 go_enter Tryz.func105,Tryz.ntmps105
 go_wp2_with (first|(go_at_call 115;refine c.mono ?_;rintro e w5 ⟨rfl,P5⟩)|fail)
 go_ret
 exact ⟨rfl,P5⟩
set_option maxHeartbeats 4000000 in
set_option maxRecDepth 100000 in
theorem fw_act8 {base q:Nat} {X:Cx} {w:World} {V:Rv} {s:Rst} (h:RowM base q X w V s) (bd:Bnd s):
  Calls Tryz.prog 105 #[.pointer (some ⟨q,0,none⟩), .int .i64 8] w (ActQ base q X w V (actR s 8)):=by
 have c:=fw_openLoop h bd 24 (by decide+kernel)
 unfold actR
 rw[if_neg (by decide),if_neg (by decide),if_neg (by decide),if_neg (by decide),if_neg (by decide),if_neg (by decide),if_neg (by decide),if_pos rfl]
 clear h bd
 go_enter Tryz.func105,Tryz.ntmps105
 go_wp2_with (first|(go_at_call 115;refine c.mono ?_;rintro e w5 ⟨rfl,P5⟩)|fail)
 go_ret
 exact ⟨rfl,P5⟩
set_option maxHeartbeats 4000000 in
set_option maxRecDepth 100000 in
theorem fw_act1 {base q:Nat} {X:Cx} {w:World} {V:Rv} {s:Rst} (h:RowM base q X w V s) (bd:Bnd s):
  Calls Tryz.prog 105 #[.pointer (some ⟨q,0,none⟩), .int .i64 1] w (ActQ base q X w V (actR s 1)):=by
 unfold actR
 rw[if_pos rfl]
 have z4:=bd.ahl
 have z1:=bd.tk
 have z2:=bd.s0
 have z3:=bd.s1
 have kz:=szC 20 (by decide+kernel)
 have hbv:brV (brn s 20)= .agg #[.int .i64 (brn s 20).1, .int .i64 (brn s 20).2]:=rfl
 obtain ⟨nb,hnb⟩:∃b,brn s 20=b:=⟨_,rfl⟩
 rw[hnb] at hbv
 obtain ⟨n1,n2⟩:=nb
 have HBR:=hid hnb
 simp only at hbv
 obtain ⟨i9,hi9,hz9,hz8,hz7⟩:=info_parts infoBr
 have cD:Below w.heap.size w w.drew:=below_drewN (Below.refl _ w) 1
 have HD:=hid (h.below cD)
 have ND:=hid (Nxt.below (q:=q) V cD)
 have cb:=fw_branch HD.out 20 (by decide+kernel) (by omega) z2 (by omega)
 rw[HBR.out,hbv] at cb
 have f2:=h.st.cell 2 _ rfl
 clear cD bd h
 go_enter Tryz.func105,Tryz.ntmps105
 go_upto_region 3 with fail
 refine wp_region_held_drew (S:=fun W=>True) (by kernel_rfl) (trivial) (fun hHeld=> ?_)
 refine wpAnyH_take (i:=0) (v:= ?v61) rfl (by kernel_rfl) (by kernel_rfl) (by kernel_rfl) (fun _ _ _ h=>h) (Or.inl ⟨by kernel_rfl, ?h61⟩) hHeld ?r61
 case h61=>intro W hSw;(try dsimp only at hSw);obtain _:=hSw;go_simp;try with_reducible rfl
 simp only[Act.put,List.setIfInBounds_toArray,List.set_cons_zero,List.set_cons_succ]
 refine wpAnyH_take (i:=1) (v:= ?v62) rfl (by kernel_rfl) (by kernel_rfl) (by kernel_rfl) (fun _ _ _ h=>h) (Or.inl ⟨by kernel_rfl, ?h62⟩) hHeld ?r62
 case h62=>intro W hSw;(try dsimp only at hSw);obtain _:=hSw;go_simp;try with_reducible rfl
 simp only[Act.put,List.setIfInBounds_toArray,List.set_cons_zero,List.set_cons_succ]
 refine wpAnyH_take (i:=2) (v:= ?v63) rfl (by kernel_rfl) (by kernel_rfl) (by kernel_rfl) (fun _ _ _ h=>h) (Or.inl ⟨by kernel_rfl, ?h63⟩) hHeld ?r63
 case h63=>intro W hSw;(try dsimp only at hSw);obtain _:=hSw;go_simp;try with_reducible rfl
 simp only[Act.put,List.setIfInBounds_toArray,List.set_cons_zero,List.set_cons_succ]
 refine wpAnyH_take (i:=3) (v:= ?v64) rfl (by kernel_rfl) (by kernel_rfl) (by kernel_rfl) (fun _ _ _ h=>h) (Or.inl ⟨by kernel_rfl, ?h64⟩) hHeld ?r64
 case h64=>intro W hSw;(try dsimp only at hSw);obtain _:=hSw;go_simp;try with_reducible rfl
 simp only[Act.put,List.setIfInBounds_toArray,List.set_cons_zero,List.set_cons_succ]
 refine wpAnyH_take (i:=5) (v:= ?v65) rfl (by kernel_rfl) (by kernel_rfl) (by kernel_rfl) (fun _ _ _ h=>h) (Or.inl ⟨by kernel_rfl, ?h65⟩) hHeld ?r65
 case h65=>intro W hSw;(try dsimp only at hSw);obtain _:=hSw;go_simp;try with_reducible rfl
 simp only[Act.put,List.setIfInBounds_toArray,List.set_cons_zero,List.set_cons_succ]
 refine wpAnyH_ready (rs:=[4,6]) (by kernel_rfl) (by simp) ?_
 refine AllReadyH.cons rfl (fun K hK=> ?_) (AllReadyH.cons rfl (fun K hK=> ?_) AllReadyH.nil)
 ·go_simp
  refine hK.out _ _ (trivial) (fun hHeld=> ?_)
  clear hK K
  (try simp only[Act.put,List.setIfInBounds_toArray,List.set_cons_zero,List.set_cons_succ])
  refine wpAnyH_ready (rs:=[6]) (by kernel_rfl) (by simp) ?_
  refine AllReadyH.cons rfl (fun K hK=> ?_) AllReadyH.nil
  go_simp
  go_wp2_with (first|(go_at_call 111;refine cb.mono ?_;rintro e W4 ⟨rfl,vt4,h4,n4⟩;have c5:=box_below W4 (.cells #[.int .i64 n1, .int .i64 n2] 158);have H5:=hid (h4.below c5);have N5:=hid ((ND.out.trans n4).trans (Nxt.below _ c5));have f2b:=h4.st.cell 2 _ rfl;have f2c:=(h4.below c5).st.cell 2 _ rfl;have hnew:=alloc_row W4 [Value.int .i64 n1, .int .i64 n2] 158;clear h4 n4 c5))
  refine hK.out _ _ (trivial) (fun hHeld=> ?_)
  clear hK K
  (try simp only[Act.put,List.setIfInBounds_toArray,List.set_cons_zero,List.set_cons_succ])
  refine wpAnyH_ready (rs:=[7]) (by kernel_rfl) (by simp) ?_
  refine AllReadyH.cons rfl (fun K hK=> ?_) AllReadyH.nil
  go_simp
  refine hK.out _ _ (trivial) (fun hHeld=> ?_)
  clear hK K
  (try simp only[Act.put,List.setIfInBounds_toArray,List.set_cons_zero,List.set_cons_succ])
  refine wpAnyH_ready (rs:=[8]) (by kernel_rfl) (by simp) ?_
  refine AllReadyH.cons rfl (fun K hK=> ?_) AllReadyH.nil
  (have o5:OwB2 base _ V.a s.ah:=H5.out.ah;unfold OwB2 at o5;have hsX:=H5.out.hs;have one:∀u∈[Value.int .i64 n1, .int .i64 n2],u.oneCell'=true:=(fun u hu=>by simp at hu;rcases hu with rfl|rfl <;> rfl);refine step_append_at rfl (.tmp 12) (.tmp 15) 54 rfl base 158 i9 _ 2 16 Tryz.underlying54 hi9 hz9 hz8 hz7 rfl (by decide) V.a s.ah.length _ rfl o5 W4.heap.size 1 1 [.int .i64 n1, .int .i64 n2] rfl rfl hnew one (by unfold maxLen;omega) (by omega) hsX ?_;intro v9 w9 ho9 hg9 hl9;obtain ⟨a9,c9,rfl⟩:=own_form ho9;have so9:=stands_kept (Kept.own H5.out.ah hg9) (by decide) H5.out.st;have u2:=so9.cell 2 _ rfl;have uf2:=so9.free 2;have oA:OwB2 base w9 (.slice a9 (s.ah.length+1) c9) (s.ah++[(n1,n2)]):=(by unfold OwB2;rw[List.length_append,List.flatMap_append];exact ho9);have RG:=hid (H5.out.growA (v0:=V.a) rfl hg9 oA hl9);clear ho9 so9 oA o5)
  refine hK.out _ _ (trivial) (fun hHeld=> ?_)
  clear hK K
  (try simp only[Act.put,List.setIfInBounds_toArray,List.set_cons_zero,List.set_cons_succ])
  refine wpAnyH_take (i:=9) (v:= ?v66) rfl (by kernel_rfl) (by kernel_rfl) (by kernel_rfl) (fun _ _ _ h=>h) (Or.inl ⟨by kernel_rfl, ?h66⟩) hHeld ?r66
  case h66=>intro W hSw;(try dsimp only at hSw);obtain _:=hSw;go_simp;try with_reducible rfl
  simp only[Act.put,List.setIfInBounds_toArray,List.set_cons_zero,List.set_cons_succ]
  refine wpAnyH_take (i:=10) (v:= ?v67) rfl (by kernel_rfl) (by kernel_rfl) (by kernel_rfl) (fun _ _ _ h=>h) (Or.inl ⟨by kernel_rfl, ?h67⟩) hHeld ?r67
  case h67=>intro W hSw;(try dsimp only at hSw);obtain _:=hSw;go_simp;try with_reducible rfl
  simp only[Act.put,List.setIfInBounds_toArray,List.set_cons_zero,List.set_cons_succ]
  refine wpAnyH_ready (rs:=[11]) (by kernel_rfl) (by simp) ?_
  refine AllReadyH.cons rfl (fun K hK=> ?_) AllReadyH.nil
  go_simp
  refine hK.out _ _ (trivial) (fun hHeld=> ?_)
  clear hK K
  (try simp only[Act.put,List.setIfInBounds_toArray,List.set_cons_zero,List.set_cons_succ])
  refine wpAnyH_done (by kernel_rfl) ?_ _
  (try simp only[Exit.then])
  go_wp2_with fail
  go_ret
  exact ⟨rfl,_,by first|exact RG.out.1|(rw[HBR.out];exact RG.out.1),N5.out.trans RG.out.2⟩
 ·go_simp
  go_wp2_with (first|(go_at_call 111;refine cb.mono ?_;rintro e W4 ⟨rfl,vt4,h4,n4⟩;have c5:=box_below W4 (.cells #[.int .i64 n1, .int .i64 n2] 158);have H5:=hid (h4.below c5);have N5:=hid ((ND.out.trans n4).trans (Nxt.below _ c5));have f2b:=h4.st.cell 2 _ rfl;have f2c:=(h4.below c5).st.cell 2 _ rfl;have hnew:=alloc_row W4 [Value.int .i64 n1, .int .i64 n2] 158;clear h4 n4 c5))
  refine hK.out _ _ (trivial) (fun hHeld=> ?_)
  clear hK K
  (try simp only[Act.put,List.setIfInBounds_toArray,List.set_cons_zero,List.set_cons_succ])
  refine wpAnyH_ready (rs:=[4,7]) (by kernel_rfl) (by simp) ?_
  refine AllReadyH.cons rfl (fun K hK=> ?_) (AllReadyH.cons rfl (fun K hK=> ?_) AllReadyH.nil)
  ·go_simp
   refine hK.out _ _ (trivial) (fun hHeld=> ?_)
   clear hK K
   (try simp only[Act.put,List.setIfInBounds_toArray,List.set_cons_zero,List.set_cons_succ])
   refine wpAnyH_ready (rs:=[7]) (by kernel_rfl) (by simp) ?_
   refine AllReadyH.cons rfl (fun K hK=> ?_) AllReadyH.nil
   go_simp
   refine hK.out _ _ (trivial) (fun hHeld=> ?_)
   clear hK K
   (try simp only[Act.put,List.setIfInBounds_toArray,List.set_cons_zero,List.set_cons_succ])
   refine wpAnyH_ready (rs:=[8]) (by kernel_rfl) (by simp) ?_
   refine AllReadyH.cons rfl (fun K hK=> ?_) AllReadyH.nil
   (have o5:OwB2 base _ V.a s.ah:=H5.out.ah;unfold OwB2 at o5;have hsX:=H5.out.hs;have one:∀u∈[Value.int .i64 n1, .int .i64 n2],u.oneCell'=true:=(fun u hu=>by simp at hu;rcases hu with rfl|rfl <;> rfl);refine step_append_at rfl (.tmp 12) (.tmp 15) 54 rfl base 158 i9 _ 2 16 Tryz.underlying54 hi9 hz9 hz8 hz7 rfl (by decide) V.a s.ah.length _ rfl o5 W4.heap.size 1 1 [.int .i64 n1, .int .i64 n2] rfl rfl hnew one (by unfold maxLen;omega) (by omega) hsX ?_;intro v9 w9 ho9 hg9 hl9;obtain ⟨a9,c9,rfl⟩:=own_form ho9;have so9:=stands_kept (Kept.own H5.out.ah hg9) (by decide) H5.out.st;have u2:=so9.cell 2 _ rfl;have uf2:=so9.free 2;have oA:OwB2 base w9 (.slice a9 (s.ah.length+1) c9) (s.ah++[(n1,n2)]):=(by unfold OwB2;rw[List.length_append,List.flatMap_append];exact ho9);have RG:=hid (H5.out.growA (v0:=V.a) rfl hg9 oA hl9);clear ho9 so9 oA o5)
   refine hK.out _ _ (trivial) (fun hHeld=> ?_)
   clear hK K
   (try simp only[Act.put,List.setIfInBounds_toArray,List.set_cons_zero,List.set_cons_succ])
   refine wpAnyH_take (i:=9) (v:= ?v68) rfl (by kernel_rfl) (by kernel_rfl) (by kernel_rfl) (fun _ _ _ h=>h) (Or.inl ⟨by kernel_rfl, ?h68⟩) hHeld ?r68
   case h68=>intro W hSw;(try dsimp only at hSw);obtain _:=hSw;go_simp;try with_reducible rfl
   simp only[Act.put,List.setIfInBounds_toArray,List.set_cons_zero,List.set_cons_succ]
   refine wpAnyH_take (i:=10) (v:= ?v69) rfl (by kernel_rfl) (by kernel_rfl) (by kernel_rfl) (fun _ _ _ h=>h) (Or.inl ⟨by kernel_rfl, ?h69⟩) hHeld ?r69
   case h69=>intro W hSw;(try dsimp only at hSw);obtain _:=hSw;go_simp;try with_reducible rfl
   simp only[Act.put,List.setIfInBounds_toArray,List.set_cons_zero,List.set_cons_succ]
   refine wpAnyH_ready (rs:=[11]) (by kernel_rfl) (by simp) ?_
   refine AllReadyH.cons rfl (fun K hK=> ?_) AllReadyH.nil
   go_simp
   refine hK.out _ _ (trivial) (fun hHeld=> ?_)
   clear hK K
   (try simp only[Act.put,List.setIfInBounds_toArray,List.set_cons_zero,List.set_cons_succ])
   refine wpAnyH_done (by kernel_rfl) ?_ _
   (try simp only[Exit.then])
   go_wp2_with fail
   go_ret
   exact ⟨rfl,_,by first|exact RG.out.1|(rw[HBR.out];exact RG.out.1),N5.out.trans RG.out.2⟩
  ·go_simp
   refine hK.out _ _ (trivial) (fun hHeld=> ?_)
   clear hK K
   (try simp only[Act.put,List.setIfInBounds_toArray,List.set_cons_zero,List.set_cons_succ])
   refine wpAnyH_ready (rs:=[4]) (by kernel_rfl) (by simp) ?_
   refine AllReadyH.cons rfl (fun K hK=> ?_) AllReadyH.nil
   go_simp
   refine hK.out _ _ (trivial) (fun hHeld=> ?_)
   clear hK K
   (try simp only[Act.put,List.setIfInBounds_toArray,List.set_cons_zero,List.set_cons_succ])
   refine wpAnyH_ready (rs:=[8]) (by kernel_rfl) (by simp) ?_
   refine AllReadyH.cons rfl (fun K hK=> ?_) AllReadyH.nil
   (have o5:OwB2 base _ V.a s.ah:=H5.out.ah;unfold OwB2 at o5;have hsX:=H5.out.hs;have one:∀u∈[Value.int .i64 n1, .int .i64 n2],u.oneCell'=true:=(fun u hu=>by simp at hu;rcases hu with rfl|rfl <;> rfl);refine step_append_at rfl (.tmp 12) (.tmp 15) 54 rfl base 158 i9 _ 2 16 Tryz.underlying54 hi9 hz9 hz8 hz7 rfl (by decide) V.a s.ah.length _ rfl o5 W4.heap.size 1 1 [.int .i64 n1, .int .i64 n2] rfl rfl hnew one (by unfold maxLen;omega) (by omega) hsX ?_;intro v9 w9 ho9 hg9 hl9;obtain ⟨a9,c9,rfl⟩:=own_form ho9;have so9:=stands_kept (Kept.own H5.out.ah hg9) (by decide) H5.out.st;have u2:=so9.cell 2 _ rfl;have uf2:=so9.free 2;have oA:OwB2 base w9 (.slice a9 (s.ah.length+1) c9) (s.ah++[(n1,n2)]):=(by unfold OwB2;rw[List.length_append,List.flatMap_append];exact ho9);have RG:=hid (H5.out.growA (v0:=V.a) rfl hg9 oA hl9);clear ho9 so9 oA o5)
   refine hK.out _ _ (trivial) (fun hHeld=> ?_)
   clear hK K
   (try simp only[Act.put,List.setIfInBounds_toArray,List.set_cons_zero,List.set_cons_succ])
   refine wpAnyH_take (i:=9) (v:= ?v70) rfl (by kernel_rfl) (by kernel_rfl) (by kernel_rfl) (fun _ _ _ h=>h) (Or.inl ⟨by kernel_rfl, ?h70⟩) hHeld ?r70
   case h70=>intro W hSw;(try dsimp only at hSw);obtain _:=hSw;go_simp;try with_reducible rfl
   simp only[Act.put,List.setIfInBounds_toArray,List.set_cons_zero,List.set_cons_succ]
   refine wpAnyH_take (i:=10) (v:= ?v71) rfl (by kernel_rfl) (by kernel_rfl) (by kernel_rfl) (fun _ _ _ h=>h) (Or.inl ⟨by kernel_rfl, ?h71⟩) hHeld ?r71
   case h71=>intro W hSw;(try dsimp only at hSw);obtain _:=hSw;go_simp;try with_reducible rfl
   simp only[Act.put,List.setIfInBounds_toArray,List.set_cons_zero,List.set_cons_succ]
   refine wpAnyH_ready (rs:=[11]) (by kernel_rfl) (by simp) ?_
   refine AllReadyH.cons rfl (fun K hK=> ?_) AllReadyH.nil
   go_simp
   refine hK.out _ _ (trivial) (fun hHeld=> ?_)
   clear hK K
   (try simp only[Act.put,List.setIfInBounds_toArray,List.set_cons_zero,List.set_cons_succ])
   refine wpAnyH_done (by kernel_rfl) ?_ _
   (try simp only[Exit.then])
   go_wp2_with fail
   go_ret
   exact ⟨rfl,_,by first|exact RG.out.1|(rw[HBR.out];exact RG.out.1),N5.out.trans RG.out.2⟩
set_option maxHeartbeats 4000000 in
set_option maxRecDepth 100000 in
theorem fw_act4 {base q:Nat} {X:Cx} {w:World} {V:Rv} {s:Rst} (h:RowM base q X w V s) (bd:Bnd s):
  Calls Tryz.prog 105 #[.pointer (some ⟨q,0,none⟩), .int .i64 4] w (ActQ base q X w V (actR s 4)):=by
 unfold actR
 rw[if_neg (by decide),if_neg (by decide),if_neg (by decide),if_pos rfl]
 have z4:=bd.bkl
 have z1:=bd.tk
 have z2:=bd.s0
 have z3:=bd.s1
 have kz:=szC 177 (by decide+kernel)
 obtain ⟨i9,hi9,hz9,hz8,hz7⟩:=info_parts infoJi
 have cb:=box_below w (.cells #[.int .i64 177] 3)
 have cl:=fw_codes (h.below cb) 177 w.heap.size (stands_new w _ _) (h.new (Nat.le_refl _)) (by decide+kernel) (by omega) z2 (by omega)
 have N0:=hid (Nxt.below (q:=q) V cb)
 clear cb bd h
 go_enter Tryz.func105,Tryz.ntmps105
 go_upto_region 10 with (go_at_call 37;refine cl.mono ?_;rintro e W4 ⟨rfl,vt4,h4,n4⟩)
 obtain ⟨Z,hZ⟩:∃Z,s.sz+szT (cdT 177)=Z:=⟨_,rfl⟩
 have cD:Below W4.heap.size W4 W4.drew:=below_drewN (Below.refl _ W4) 1
 have c5:=below_trans cD (box_below W4.drew (.cells #[.int .i64 Z] 3))
 have H5:=hid (h4.below c5)
 have N5:=hid ((N0.out.trans n4).trans (Nxt.below _ c5))
 have hnew:=alloc_row W4.drew [Value.int .i64 Z] 3
 have HD:=h4.below cD
 have K1:Hid (W4.drew.cell? ⟨q,1,none⟩=some (.int .i64 Z)):=hid ((HD.st.cell 1 _ rfl).trans (congrArg (fun z=>some (Value.int .i64 z)) hZ))
 have K2:Hid ((W4.drew.alloc (.cells #[.int .i64 Z] 3)).cell? ⟨q,1,none⟩=some (.int .i64 Z)):=hid ((H5.out.st.cell 1 _ rfl).trans (congrArg (fun z=>some (Value.int .i64 z)) hZ))
 have one:∀u∈[Value.int .i64 Z],u.oneCell'=true:=fun u hu=>by simp at hu;subst hu;rfl
 have o5:OwJ base _ V.b s.bk:=H5.out.bk
 unfold OwJ at o5
 have hsX:=H5.out.hs
 have f4a:=HD.st.cell 3 _ rfl
 have f4c:=(h4.below (box_below W4 (.cells #[.int .i64 Z] 3))).st.cell 3 _ rfl
 clear cD c5 HD h4 n4 cl
 refine wp_region_held_drew (S:=fun W=>W.cell? ⟨q,1,none⟩=some (.int .i64 Z)) (by kernel_rfl) (K1.out) (fun hHeld=> ?_)
 refine wpAnyH_take (i:=0) (v:= ?v72) rfl (by kernel_rfl) (by kernel_rfl) (by kernel_rfl) (fun _ _ _ h=>h) (Or.inl ⟨by kernel_rfl, ?h72⟩) hHeld ?r72
 case h72=>intro W hSw;(try dsimp only at hSw);obtain s0:=hSw;go_simp;try with_reducible rfl
 simp only[Act.put,List.setIfInBounds_toArray,List.set_cons_zero,List.set_cons_succ]
 refine wpAnyH_take (i:=1) (v:= ?v73) rfl (by kernel_rfl) (by kernel_rfl) (by kernel_rfl) (fun _ _ _ h=>h) (Or.inl ⟨by kernel_rfl, ?h73⟩) hHeld ?r73
 case h73=>intro W hSw;(try dsimp only at hSw);obtain s0:=hSw;go_simp;try with_reducible rfl
 simp only[Act.put,List.setIfInBounds_toArray,List.set_cons_zero,List.set_cons_succ]
 refine wpAnyH_take (i:=2) (v:= ?v74) rfl (by kernel_rfl) (by kernel_rfl) (by kernel_rfl) (fun _ _ _ h=>h) (Or.inl ⟨by kernel_rfl, ?h74⟩) hHeld ?r74
 case h74=>intro W hSw;(try dsimp only at hSw);obtain s0:=hSw;go_simp;try with_reducible rfl
 simp only[Act.put,List.setIfInBounds_toArray,List.set_cons_zero,List.set_cons_succ]
 refine wpAnyH_take (i:=3) (v:= ?v75) rfl (by kernel_rfl) (by kernel_rfl) (by kernel_rfl) (fun _ _ _ h=>h) (Or.inl ⟨by kernel_rfl, ?h75⟩) hHeld ?r75
 case h75=>intro W hSw;(try dsimp only at hSw);obtain s0:=hSw;go_simp;try with_reducible rfl
 simp only[Act.put,List.setIfInBounds_toArray,List.set_cons_zero,List.set_cons_succ]
 refine wpAnyH_take (i:=5) (v:= ?v76) rfl (by kernel_rfl) (by kernel_rfl) (by kernel_rfl) (fun _ _ _ h=>h) (Or.inl ⟨by kernel_rfl, ?h76⟩) hHeld ?r76
 case h76=>intro W hSw;(try dsimp only at hSw);obtain s0:=hSw;go_simp;try with_reducible rfl
 simp only[Act.put,List.setIfInBounds_toArray,List.set_cons_zero,List.set_cons_succ]
 refine wpAnyH_take (i:=6) (v:= ?v77) rfl (by kernel_rfl) (by kernel_rfl) (by kernel_rfl) (fun _ _ _ h=>h) (Or.inl ⟨by kernel_rfl, ?h77⟩) hHeld ?r77
 case h77=>intro W hSw;(try dsimp only at hSw);obtain s0:=hSw;go_simp;try with_reducible rfl
 simp only[Act.put,List.setIfInBounds_toArray,List.set_cons_zero,List.set_cons_succ]
 refine wpAnyH_take (i:=7) (v:= ?v78) rfl (by kernel_rfl) (by kernel_rfl) (by kernel_rfl) (fun _ _ _ h=>h) (Or.inl ⟨by kernel_rfl, ?h78⟩) hHeld ?r78
 case h78=>intro W hSw;(try dsimp only at hSw);obtain s0:=hSw;go_simp;try with_reducible rfl
 simp only[Act.put,List.setIfInBounds_toArray,List.set_cons_zero,List.set_cons_succ]
 refine wpAnyH_take (i:=8) (v:= ?v79) rfl (by kernel_rfl) (by kernel_rfl) (by kernel_rfl) (fun _ _ _ h=>h) (Or.inl ⟨by kernel_rfl, ?h79⟩) hHeld ?r79
 case h79=>intro W hSw;(try dsimp only at hSw);obtain s0:=hSw;go_simp;try with_reducible rfl
 simp only[Act.put,List.setIfInBounds_toArray,List.set_cons_zero,List.set_cons_succ]
 refine wpAnyH_ready (rs:=[4,9]) (by kernel_rfl) (by simp) ?_
 refine AllReadyH.cons rfl (fun K hK=> ?_) (AllReadyH.cons rfl (fun K hK=> ?_) AllReadyH.nil)
 ·go_simp
  refine hK.out _ _ (K1.out) (fun hHeld=> ?_)
  clear hK K
  (try simp only[Act.put,List.setIfInBounds_toArray,List.set_cons_zero,List.set_cons_succ])
  refine wpAnyH_ready (rs:=[9]) (by kernel_rfl) (by simp) ?_
  refine AllReadyH.cons rfl (fun K hK=> ?_) AllReadyH.nil
  go_simp
  refine hK.out _ _ (K2.out) (fun hHeld=> ?_)
  clear hK K
  (try simp only[Act.put,List.setIfInBounds_toArray,List.set_cons_zero,List.set_cons_succ])
  refine wpAnyH_ready (rs:=[10]) (by kernel_rfl) (by simp) ?_
  refine AllReadyH.cons rfl (fun K hK=> ?_) AllReadyH.nil
  (refine step_append_at rfl (.tmp 36) (.tmp 41) 55 rfl base 3 i9 _ 1 8 Tryz.underlying55 hi9 hz9 hz8 hz7 rfl (by decide) V.b s.bk.length _ rfl o5 W4.heap.size 1 1 [.int .i64 Z] rfl rfl hnew one (by unfold maxLen;omega) (by omega) hsX ?_;intro v9 w9 ho9 hg9 hl9;obtain ⟨a9,c9,rfl⟩:=own_form ho9;have so9:=stands_kept (Kept.own H5.out.bk hg9) (by decide) H5.out.st;have u4:=so9.cell 3 _ rfl;have uf4:=so9.free 3;have K5:Hid (w9.cell? ⟨q,1,none⟩=some (.int .i64 Z)):=hid ((so9.cell 1 _ rfl).trans (congrArg (fun z=>some (Value.int .i64 z)) hZ));have so10:=so9.set 3 (.slice a9 (s.bk.length+1) c9);have K6:Hid ((w9.setCell ⟨q,3,none⟩ (.slice a9 (s.bk.length+1) c9)).cell? ⟨q,1,none⟩=some (.int .i64 Z)):=hid ((so10.cell 1 _ rfl).trans (congrArg (fun z=>some (Value.int .i64 z)) hZ));have oA:OwJ base w9 (.slice a9 (s.bk.length+1) c9) (s.bk++[Z]):=(by unfold OwJ;rw[List.length_append,List.map_append];exact ho9);have RG:=hid (H5.out.growB (v0:=V.b) rfl hg9 oA hl9);clear ho9 so9 oA so10)
  refine hK.out _ _ (K5.out) (fun hHeld=> ?_)
  clear hK K
  (try simp only[Act.put,List.setIfInBounds_toArray,List.set_cons_zero,List.set_cons_succ])
  refine wpAnyH_take (i:=11) (v:= ?v80) rfl (by kernel_rfl) (by kernel_rfl) (by kernel_rfl) (fun _ _ _ h=>h) (Or.inl ⟨by kernel_rfl, ?h80⟩) hHeld ?r80
  case h80=>intro W hSw;(try dsimp only at hSw);obtain s0:=hSw;go_simp;try with_reducible rfl
  simp only[Act.put,List.setIfInBounds_toArray,List.set_cons_zero,List.set_cons_succ]
  refine wpAnyH_take (i:=12) (v:= ?v81) rfl (by kernel_rfl) (by kernel_rfl) (by kernel_rfl) (fun _ _ _ h=>h) (Or.inl ⟨by kernel_rfl, ?h81⟩) hHeld ?r81
  case h81=>intro W hSw;(try dsimp only at hSw);obtain s0:=hSw;go_simp;try with_reducible rfl
  simp only[Act.put,List.setIfInBounds_toArray,List.set_cons_zero,List.set_cons_succ]
  refine wpAnyH_ready (rs:=[13]) (by kernel_rfl) (by simp) ?_
  refine AllReadyH.cons rfl (fun K hK=> ?_) AllReadyH.nil
  go_simp
  refine hK.out _ _ (K6.out) (fun hHeld=> ?_)
  clear hK K
  (try simp only[Act.put,List.setIfInBounds_toArray,List.set_cons_zero,List.set_cons_succ])
  refine wpAnyH_done (by kernel_rfl) ?_ _
  (try simp only[Exit.then])
  go_wp2_with fail
  go_ret
  exact ⟨rfl,_,by first|exact RG.out.1|(rw[hZ];exact RG.out.1),N5.out.trans RG.out.2⟩
 ·go_simp
  refine hK.out _ _ (K2.out) (fun hHeld=> ?_)
  clear hK K
  (try simp only[Act.put,List.setIfInBounds_toArray,List.set_cons_zero,List.set_cons_succ])
  refine wpAnyH_ready (rs:=[4]) (by kernel_rfl) (by simp) ?_
  refine AllReadyH.cons rfl (fun K hK=> ?_) AllReadyH.nil
  go_simp
  refine hK.out _ _ (K2.out) (fun hHeld=> ?_)
  clear hK K
  (try simp only[Act.put,List.setIfInBounds_toArray,List.set_cons_zero,List.set_cons_succ])
  refine wpAnyH_ready (rs:=[10]) (by kernel_rfl) (by simp) ?_
  refine AllReadyH.cons rfl (fun K hK=> ?_) AllReadyH.nil
  (refine step_append_at rfl (.tmp 36) (.tmp 41) 55 rfl base 3 i9 _ 1 8 Tryz.underlying55 hi9 hz9 hz8 hz7 rfl (by decide) V.b s.bk.length _ rfl o5 W4.heap.size 1 1 [.int .i64 Z] rfl rfl hnew one (by unfold maxLen;omega) (by omega) hsX ?_;intro v9 w9 ho9 hg9 hl9;obtain ⟨a9,c9,rfl⟩:=own_form ho9;have so9:=stands_kept (Kept.own H5.out.bk hg9) (by decide) H5.out.st;have u4:=so9.cell 3 _ rfl;have uf4:=so9.free 3;have K5:Hid (w9.cell? ⟨q,1,none⟩=some (.int .i64 Z)):=hid ((so9.cell 1 _ rfl).trans (congrArg (fun z=>some (Value.int .i64 z)) hZ));have so10:=so9.set 3 (.slice a9 (s.bk.length+1) c9);have K6:Hid ((w9.setCell ⟨q,3,none⟩ (.slice a9 (s.bk.length+1) c9)).cell? ⟨q,1,none⟩=some (.int .i64 Z)):=hid ((so10.cell 1 _ rfl).trans (congrArg (fun z=>some (Value.int .i64 z)) hZ));have oA:OwJ base w9 (.slice a9 (s.bk.length+1) c9) (s.bk++[Z]):=(by unfold OwJ;rw[List.length_append,List.map_append];exact ho9);have RG:=hid (H5.out.growB (v0:=V.b) rfl hg9 oA hl9);clear ho9 so9 oA so10)
  refine hK.out _ _ (K5.out) (fun hHeld=> ?_)
  clear hK K
  (try simp only[Act.put,List.setIfInBounds_toArray,List.set_cons_zero,List.set_cons_succ])
  refine wpAnyH_take (i:=11) (v:= ?v82) rfl (by kernel_rfl) (by kernel_rfl) (by kernel_rfl) (fun _ _ _ h=>h) (Or.inl ⟨by kernel_rfl, ?h82⟩) hHeld ?r82
  case h82=>intro W hSw;(try dsimp only at hSw);obtain s0:=hSw;go_simp;try with_reducible rfl
  simp only[Act.put,List.setIfInBounds_toArray,List.set_cons_zero,List.set_cons_succ]
  refine wpAnyH_take (i:=12) (v:= ?v83) rfl (by kernel_rfl) (by kernel_rfl) (by kernel_rfl) (fun _ _ _ h=>h) (Or.inl ⟨by kernel_rfl, ?h83⟩) hHeld ?r83
  case h83=>intro W hSw;(try dsimp only at hSw);obtain s0:=hSw;go_simp;try with_reducible rfl
  simp only[Act.put,List.setIfInBounds_toArray,List.set_cons_zero,List.set_cons_succ]
  refine wpAnyH_ready (rs:=[13]) (by kernel_rfl) (by simp) ?_
  refine AllReadyH.cons rfl (fun K hK=> ?_) AllReadyH.nil
  go_simp
  refine hK.out _ _ (K6.out) (fun hHeld=> ?_)
  clear hK K
  (try simp only[Act.put,List.setIfInBounds_toArray,List.set_cons_zero,List.set_cons_succ])
  refine wpAnyH_done (by kernel_rfl) ?_ _
  (try simp only[Exit.then])
  go_wp2_with fail
  go_ret
  exact ⟨rfl,_,by first|exact RG.out.1|(rw[hZ];exact RG.out.1),N5.out.trans RG.out.2⟩
set_option maxHeartbeats 4000000 in
set_option maxRecDepth 100000 in
theorem fw_act12 {base q:Nat} {X:Cx} {w:World} {V:Rv} {s:Rst} (h:RowM base q X w V s) (bd:Bnd s):
  Calls Tryz.prog 105 #[.pointer (some ⟨q,0,none⟩), .int .i64 12] w (ActQ base q X w V (actR s 12)):=by
 unfold actR
 rw[if_neg (by decide),if_neg (by decide),if_neg (by decide),if_neg (by decide),if_neg (by decide),if_neg (by decide),if_neg (by decide),if_neg (by decide),if_neg (by decide),if_neg (by decide),if_neg (by decide),if_pos rfl]
 have z5:V.K.length≤900000:=by have:=bd.csl;rw[←h.ks] at this;simpa using this
 have z1:=bd.tk
 have z2:=bd.s0
 have z3:=bd.s1
 obtain ⟨i9,hi9,hz9,hz8,hz7⟩:=info_parts infoCh
 have cb:=box_below w (.cells #[.int .i64 196] 3)
 have cl:=fw_codes (h.below cb) 196 w.heap.size (stands_new w _ _) (h.new (Nat.le_refl _)) (by decide+kernel) (by omega) z2 (by omega)
 have N0:=hid (Nxt.below (q:=q) V cb)
 clear cb bd h
 go_enter Tryz.func105,Tryz.ntmps105
 go_upto_region 27 with (go_at_call 37;refine cl.mono ?_;rintro e W4 ⟨rfl,vt4,h4,n4⟩)
 have c5:=box_below W4 (.cells #[.bool false, .int .i64 0, .int .i64 0, .slice none 0 0] 162)
 have H5:=hid (h4.below c5)
 have N5:=hid ((N0.out.trans n4).trans (Nxt.below _ c5))
 have f5:=h4.st.cell 5 _ rfl
 have f5b:=H5.out.st.cell 5 _ rfl
 have hnew:=alloc_row W4 [Value.bool false, .int .i64 0, .int .i64 0, .slice none 0 0] 162
 have one:∀u∈[Value.bool false, .int .i64 0, .int .i64 0, .slice none 0 0],u.oneCell'=true:=fun u hu=>by simp at hu;rcases hu with rfl|rfl|rfl <;> rfl
 have o5:OwCh base _ V.k V.K:=H5.out.row
 unfold OwCh at o5
 have hsX:=H5.out.hs
 go_wp2_with (first|(at_builtin;refine wpList_append_at rfl _ _ 57 rfl base 162 i9 _ 4 48 Tryz.underlying57 hi9 hz9 hz8 hz7 rfl (by decide) V.k V.K.length _ rfl o5 W4.heap.size 1 1 [.bool false, .int .i64 0, .int .i64 0, .slice none 0 0] rfl rfl hnew one (by unfold maxLen;omega) (by omega) hsX ?_;intro v9 w9 ho9 hg9 hl9;obtain ⟨a9,c9,rfl⟩:=own_form ho9;have so9:=stands_kept (Kept.own o5 hg9) (by decide) H5.out.st;have u5:=so9.cell 5 _ rfl;have uf5:=so9.free 5))
 have RG:=H5.out.growK (vo:= .slice none 0 0) (vn:= .slice none 0 0) (v0:=V.k) (vk:= .slice a9 (V.K.length+1) c9) (K:=V.K++[((false,0,0,[]), .slice none 0 0)]) rfl (gb_refl _ _) (fun k hk=>by cases hk) (Below.refl _ _) hg9 (by unfold OwCh;rw[List.length_append,List.flatMap_append];exact ho9) (Or.inl rfl) hl9 (fun x hx=>by
  rcases List.mem_append.1 hx with hx|hx
  ·exact H5.out.outs x hx
  ·rw[List.mem_singleton] at hx;subst hx;exact World.ownsRow_nil _ _ _ _) (fun x hx=>by
  rcases List.mem_append.1 hx with hx|hx
  ·exact Or.inr ⟨x,hx,rfl⟩
  ·rw[List.mem_singleton] at hx;subst hx;exact Or.inl rfl) (by
  rw[List.map_append,←List.cons_append,List.pairwise_append]
  exact ⟨H5.out.sep,by simp,fun a ha b hb=>by simp only[List.map_cons,List.map_nil,List.mem_singleton] at hb;subst hb;intro k hk e;cases e⟩) (s.cs++[(false,0,0,[])]) (by rw[List.map_append];have:=H5.out.ks;simp only at this;rw[this];rfl)
 go_ret
 exact ⟨rfl,_,RG.1,N5.out.trans RG.2⟩
theorem fw_act {base q:Nat} {X:Cx} {w:World} {V:Rv} {s:Rst} (h:RowM base q X w V s) (bd:Bnd s) (a:Int) (ha:1≤a∧a≤15):Calls Tryz.prog 105 #[.pointer (some ⟨q,0,none⟩), .int .i64 a] w (ActQ base q X w V (actR s a)):=by
 have hc:a=1∨a=2∨a=3∨a=4∨a=5∨a=6∨a=7∨a=8∨a=9∨a=10∨a=11∨a=12∨a=13∨a=14∨a=15:=by omega
 rcases hc with rfl|rfl|rfl|rfl|rfl|rfl|rfl|rfl|rfl|rfl|rfl|rfl|rfl|rfl|rfl
 ·exact fw_act1 h bd
 ·exact fw_act2 h bd
 ·exact fw_act3 h bd
 ·exact fw_act4 h bd
 ·exact fw_act5 h bd
 ·exact fw_act6 h bd
 ·exact fw_act7 h bd
 ·exact fw_act8 h bd
 ·exact fw_act9 h bd
 ·exact fw_act10 h bd
 ·exact fw_act11 h bd
 ·exact fw_act12 h bd
 ·exact fw_act13 h bd
 ·exact fw_act14 h bd
 ·exact fw_act15 h bd
def wt:List Tk→Nat
 |[]=>0
 |x::r=>x.2.1.length+1+wt r
theorem wt_app (a b:List Tk):wt (a++b)=wt a+wt b:=by
 induction a with
 |nil=>simp[wt]
 |cons x a ih=>simp[wt,ih];omega
theorem wt_mem {x:Tk}:∀{l:List Tk},x∈l→x.2.1.length+1≤wt l
 |y::l,h=>by
  simp only[wt]
  rcases List.mem_cons.1 h with rfl|h
  ·omega
  ·have:=wt_mem h
   omega
def pot:Sc→Nat
 | .wrd w _=>w.length
 | .sho t _=>t.length
 | .qt _ t _=>t.length
 | .qq _ t _=>t.length
 | .hx _ t h _=>t.length+h.length
 |_=>0
theorem hexG_len:∀(l:List Int) (o:Option Int) (b:List Int),hexG o l=some b→b.length≤l.length
 |[],none,b,h=>by simp[hexG] at h;subst h;simp
 |[],some _,b,h=>by simp[hexG] at h
 |c::r,none,b,h=>by
  simp only[hexG] at h
  split at h
  ·have:=hexG_len r none b h
   simp;omega
  ·split at h
   ·cases h
   ·have:=hexG_len r _ b h
    simp;omega
 |c::r,some n,b,h=>by
  simp only[hexG] at h
  split at h
  ·have:=hexG_len r (some n) b h
   simp;omega
  ·split at h
   ·cases h
   ·simp only[Option.map_eq_some_iff] at h
    obtain ⟨b',h1,rfl⟩:=h
    have:=hexG_len r _ b' h1
    simp;omega
theorem step_wt (i c:Int) (s:Sc) (out:List Tk):wt (step i c s out).2+pot (step i c s out).1≤wt out+pot s+1:=by
 cases s with
 |btw=>simp only[step];split <;> simp[pot]
 |wrd w p=>
  simp only[step]
  split
  ·unfold wend
   split
   ·split <;> simp[pot] <;> omega
   ·split
    ·simp[pot];omega
    ·split
     ·simp[pot];omega
     ·split
      ·simp[pot];omega
      ·split
       ·simp[pot];omega
       ·simp[pot,wt_app,wt];omega
  ·simp[pot];omega
 |cmt=>simp only[step];split <;> simp[pot]
 |par=>simp only[step];split <;> simp[pot]
 |sho t p=>
  simp only[step]
  split
  ·unfold fin;split <;> simp[pot,wt_app,wt] <;> omega
  ·simp[pot];omega
 |qt k t p=>simp only[step];split <;> simp[pot];omega
 |qq k t p=>
  simp only[step]
  split
  ·simp[pot]
  ·split
   ·unfold fin;split <;> simp[pot,wt_app,wt] <;> omega
   ·simp[pot];omega
 |hx k t h p=>
  simp only[step]
  split
  ·split
   ·simp[pot];omega
   ·rename_i b hb
    have:=hexG_len h none b hb
    simp[pot];omega
  ·simp[pot];omega
 |ert=>simp[step,pot]
 |erl=>simp[step,pot]
theorem run_wt (l:List Int):∀(i:Int) (s:Sc) (out:List Tk),wt (run i l (s,out)).2+pot (run i l (s,out)).1≤wt out+pot s+l.length:=by
 induction l with
 |nil=>intro i s out;simp[run]
 |cons c l ih=>
  intro i s out
  have h1:=step_wt i c s out
  have h2:wt (run (i+1) l (step i c s out)).2+pot (run (i+1) l (step i c s out)).1≤wt (step i c s out).2+pot (step i c s out).1+l.length:=ih (i+1) (step i c s out).1 (step i c s out).2
  show wt (run (i+1) l (step i c s out)).2+pot (run (i+1) l (step i c s out)).1≤_
  rw[List.length_cons]
  omega
theorem eof_wt (s:Sc) (out:List Tk):wt (eof (s,out)).1≤wt out+pot s+1:=by
 cases s with
 |wrd w p=>
  simp only[eof]
  split
  ·show wt out≤_
   omega
  ·split
   ·simp[wt]
   ·simp[wt_app,wt,pot];omega
 |qq k t p=>
  simp only[eof]
  split
  ·simp[wt]
  ·simp[wt_app,wt,pot];omega
 |btw=>simp[eof];omega
 |cmt=>simp[eof];omega
 |_=>simp[eof,wt]
theorem cut_wt (X:List Int):wt (cutF X).1≤4097:=by
 unfold cutF
 split
 ·simp[wt]
 ·have h1:wt (run 0 X (.btw,[])).2+pot (run 0 X (.btw,[])).1≤0+0+X.length:=run_wt X 0 .btw []
  have h2:=eof_wt (run 0 X (.btw,[])).1 (run 0 X (.btw,[])).2
  have e:eof ((run 0 X (.btw,[])).1,(run 0 X (.btw,[])).2)=eof (run 0 X (.btw,[])):=rfl
  rw[e] at h2
  omega
theorem szT_pos (t:Tq):1≤szT t:=by have:=by_pos t true;unfold szT;omega
theorem szL_len:∀l:List Tq,(l.length:Int)≤szL l
 |[]=>by simp[szL]
 |t::l=>by
  have:=szL_len l
  have:=szT_pos t
  simp only[szL,List.map_cons,List.sum_cons,List.length_cons] at*
  omega
theorem ends_bd:∀(l:List Tq) (a:Int) (i:Nat),i < l.length→a≤(endsF a l).getD i 0∧(endsF a l).getD i 0≤a+szL l
 |[],a,i,h=>by simp at h
 |t::l,a,0,h=>by
  have:=szL_len l
  have:=szT_pos t
  simp only[endsF,List.getD_cons_zero,szL,szT,List.map_cons,List.sum_cons] at*
  omega
 |t::l,a,i+1,h=>by
  have h2:=ends_bd l (a+szT t) i (by simpa using h)
  have:=szT_pos t
  simp only[endsF,List.getD_cons_succ,szL,List.map_cons,List.sum_cons] at*
  unfold szT at*
  omega
theorem eA_bd {out:List Tq} {i:Int} (h:inR out i):0≤eA out i∧eA out i≤szL out:=by
 unfold inR at h
 have:=ends_bd out 0 i.toNat (by omega)
 unfold eA
 omega
structure Lf (f:Fw) (n:Nat):Prop where
 og:f.og.length≤n
 ds:f.ds.length≤n
 lp:f.lp.length≤n
 cs:f.cs.length≤n
 os:∀x∈f.cs,x.2.length≤n
theorem Lf.mono {f:Fw} {n m:Nat} (h:Lf f n) (hm:n≤m):Lf f m:=⟨Nat.le_trans h.og hm,Nat.le_trans h.ds hm,Nat.le_trans h.lp hm,Nat.le_trans h.cs hm,fun x hx=>Nat.le_trans (h.os x hx) hm⟩
theorem bnd_rst {out:List Tq} {f:Fw} (h:FlG out f) (hl:Lf f out.length) (hz:szL out≤800000):Bnd (rstF out f):=by
 have hk:=szL_len out
 have hbr:∀i,inR out i→brOk (rstF out f) (brA out i):=fun i hi=>by
  have he:=eA_bd hi
  have h1:(rstF out f).tk.length=out.length:=off_len out f
  unfold inR at hi
  unfold brOk brA
  rw[h1]
  simp only
  omega
 have g1:=hl.og
 have g2:=hl.ds
 have g3:=hl.lp
 have g4:=hl.cs
 refine ⟨by rw[off_len];omega,by show 0≤szL out;omega,by show szL out≤900000;omega,by show (f.og.map (brA out)).length≤900000;rw[List.length_map];omega, ?_,by show (f.ds.map (eA out)).length≤900000;rw[List.length_map];omega, ?_,by show (f.lp.map _).length≤900000;rw[List.length_map];omega, ?_,by show (f.cs.map (csA out)).length≤900000;rw[List.length_map];omega, ?_⟩
 ·intro b hb
  obtain ⟨i,hi,rfl⟩:=List.mem_map.1 hb
  exact hbr i (h.og i hi).1
 ·intro b hb
  obtain ⟨i,hi,rfl⟩:=List.mem_map.1 hb
  have:=eA_bd (h.ds i hi)
  omega
 ·intro b hb
  obtain ⟨i,hi,rfl⟩:=List.mem_map.1 hb
  have:=eA_bd (h.lp i hi).1
  exact ⟨hbr i (h.lp i hi).1,by show -1000000≤eA out i;omega,by show eA out i≤1000000;omega⟩
 ·intro b hb
  obtain ⟨x,hx,rfl⟩:=List.mem_map.1 hb
  obtain ⟨c1,c2⟩:=h.cs x hx
  refine ⟨fun e=> ?_,by show (x.2.map (brA out)).length≤900000;rw[List.length_map];have:=hl.os x hx;omega,fun b hb=> ?_⟩
  ·unfold csA at e ⊢
   simp only[Bool.not_eq_true',decide_eq_false_iff_not] at e
   simp only
   rw[if_neg e,if_neg e]
   rcases c1 with c1|c1
   ·exact absurd c1 e
   ·exact hbr _ c1.1
  ·obtain ⟨i,hi,rfl⟩:=List.mem_map.1 hb
   exact hbr i (c2 i hi).1
theorem lstW_len {l l':List Int} {x:Int} (h:lstW l=some (l',x)):l.length=l'.length+1:=by rw[lstW_eq h];simp
theorem Lf.flw {f f':Fw} {n:Nat} {c k:Int} {back:Bool} (h:Lf f n) (e:flwF f c k back=some f'):Lf f' (n+1):=by
 obtain ⟨g1,g2,g3,g4,g5⟩:=h
 have k5:∀x∈f.cs,x.2.length≤n+1:=fun x hx=>Nat.le_succ_of_le (g5 x hx)
 unfold flwF at e
 by_cases h0:c=177
 ·rw[if_pos h0] at e
  injection e with e
  subst e
  exact ⟨by simp <;> omega,by simp <;> omega,by simp <;> omega,by simp <;> omega,k5⟩
 rw[if_neg h0] at e
 by_cases h1:(c=19∨c=20)∧back=true
 ·rw[if_pos h1] at e
  rw[Option.map_eq_some_iff] at e
  obtain ⟨⟨l',x⟩,e1,rfl⟩:=e
  have:=lstW_len e1
  exact ⟨by simp <;> omega,by simp <;> omega,by simp <;> omega,by simp <;> omega,k5⟩
 rw[if_neg h1] at e
 by_cases h2:c=20
 ·rw[if_pos h2] at e
  injection e with e
  subst e
  exact ⟨by simp <;> omega,by simp <;> omega,by simp <;> omega,by simp <;> omega,k5⟩
 rw[if_neg h2] at e
 by_cases h3:c=19
 ·rw[if_pos h3] at e
  rw[Option.map_eq_some_iff] at e
  obtain ⟨⟨l',x⟩,e1,rfl⟩:=e
  have:=lstW_len e1
  exact ⟨by simp <;> omega,by simp <;> omega,by simp <;> omega,by simp <;> omega,k5⟩
 rw[if_neg h3] at e
 by_cases h4:c=178
 ·rw[if_pos h4] at e
  rw[Option.map_eq_some_iff] at e
  obtain ⟨⟨l',x⟩,e1,rfl⟩:=e
  have:=lstW_len e1
  exact ⟨by simp <;> omega,by simp <;> omega,by simp <;> omega,by simp <;> omega,k5⟩
 rw[if_neg h4] at e
 by_cases h5:c=23∨c=24
 ·rw[if_pos h5] at e
  injection e with e
  subst e
  exact ⟨by simp <;> omega,by simp <;> omega,by simp <;> omega,by simp <;> omega,k5⟩
 rw[if_neg h5] at e
 by_cases h6:c=21∨c=22
 ·rw[if_pos h6] at e
  rw[Option.map_eq_some_iff] at e
  obtain ⟨⟨l',x⟩,e1,rfl⟩:=e
  have:=lstW_len e1
  exact ⟨by simp <;> omega,by simp <;> omega,by simp <;> omega,by simp <;> omega,k5⟩
 rw[if_neg h6] at e
 by_cases h7:c=27
 ·rw[if_pos h7] at e
  by_cases hq:f.lp=[]
  ·rw[if_pos hq] at e;cases e
  ·rw[if_neg hq] at e
   injection e with e
   subst e
   exact ⟨by omega,by omega,by omega,by omega,k5⟩
 rw[if_neg h7] at e
 by_cases h8:c=196
 ·rw[if_pos h8] at e
  injection e with e
  subst e
  refine ⟨by simp only;omega,by simp only;omega,by simp only;omega,by simp;omega,fun x hx=> ?_⟩
  rcases List.mem_append.1 hx with z|z
  ·exact k5 x z
  ·simp at z;subst z;simp
 rw[if_neg h8] at e
 rcases hy:f.cs.getLast? with _|y
 ·rw[hy] at e;cases e
 rw[hy] at e
 simp only at e
 have hy2:=g5 y (last_mem hy)
 have hd:f.cs.dropLast.length+1≤n:=by
  have:=congrArg List.length (last_split hy)
  simp only[List.length_append,List.length_singleton] at this
  omega
 by_cases q1:decide (y.1= -1)=decide (c=198)
 ·rw[if_pos q1] at e;cases e
 rw[if_neg q1] at e
 by_cases q2:c=28
 ·rw[if_pos q2] at e
  injection e with e
  subst e
  refine ⟨by simp only;omega,by simp only;omega,by simp only;omega,by rw[List.length_append,List.length_singleton];omega,fun x hx=> ?_⟩
  rcases List.mem_append.1 hx with z|z
  ·exact k5 x (drop_mem z)
  ·rw[List.mem_singleton] at z;subst z;simp only;omega
 rw[if_neg q2] at e
 by_cases q3:c=198
 ·rw[if_pos q3] at e
  injection e with e
  subst e
  refine ⟨by simp only;omega,by simp only;omega,by simp only;omega,by rw[List.length_append,List.length_singleton];omega,fun x hx=> ?_⟩
  rcases List.mem_append.1 hx with z|z
  ·exact k5 x (drop_mem z)
  ·rw[List.mem_singleton] at z;subst z;simp only[List.length_append,List.length_singleton];omega
 ·rw[if_neg q3] at e
  injection e with e
  subst e
  exact ⟨by simp only;omega,by simp only;omega,by simp only;omega,by simp only;omega,fun x hx=>k5 x (drop_mem hx)⟩
theorem bh_name {c:Int} (h:2048≤c):bhF c=0:=by
 unfold bhF
 rw[if_neg (by omega),if_neg (by omega),if_neg (by omega),if_neg (by omega),if_neg (by omega),if_neg (by omega)]
theorem cb_len (c:Int):(cbF c).length≤2:=by unfold cbF;split <;> simp
theorem prm_code:∀x∈prmL,okQ (cdT x.2) true=true∧cdd x.2=true∧0≤x.2∧bhF x.2=0∧bytesL x.1:=by
 have h:prmL.all (fun x=>okQ (cdT x.2) true&&(cdd x.2&&(decide (0≤x.2)&&(decide (bhF x.2=0)&&x.1.all (fun c=>decide (0≤c∧c < 256))))))=true:=by decide+kernel
 intro x hx
 have:=List.all_eq_true.1 h x hx
 simp only[Bool.and_eq_true,decide_eq_true_eq,List.all_eq_true] at this
 exact ⟨this.1,this.2.1,this.2.2.1,this.2.2.2.1,this.2.2.2.2⟩
theorem fnd_code {nm:List (List Int×Int)} {s:List Int} {c:Int} (h:∀x∈nm,2048≤x.2∧x.2≤4095) (e:fndN nm s=some c):okQ (cdT c) true=true∧cdd c=true∧0≤c∧c≤4095∧bhF c=0:=by
 unfold fndN at e
 split at e
 ·rename_i x hx
  injection e with e
  subst e
  have:=h x (List.mem_reverse.1 (List.mem_of_find?_eq_some hx))
  have hb:=bh_name this.1
  have hc:cdd x.2=true:=by unfold cdd;simp;omega
  refine ⟨?_,hc,by omega,this.2,hb⟩
  unfold okQ cdT
  simp only
  rw[hc,hb]
  rfl
 ·rcases hq:prmL.find? (fun x=>decide (x.1=s)) with _|x
  ·rw[hq] at e;cases e
  ·rw[hq] at e
   injection e with e
   subst e
   obtain ⟨a1,a2,a3,a4,_⟩:=prm_code x (List.mem_of_find?_eq_some hq)
   refine ⟨a1,a2,a3, ?_,a4⟩
   unfold cdd at a2
   simp at a2
   show x.2≤4095
   omega
theorem sz_plain {c:Int} (h:bhF c=0):szT (cdT c)≤2:=by
 have:=cb_len c
 unfold szT byQ cdT
 simp only
 rw[h]
 simp only[beQ,List.append_nil]
 omega
theorem ok_17 {k c:Int} (hk:k=17∨k=195) (h:cdd c=true):okQ ⟨k,c,[],0⟩ true=true∧szT ⟨k,c,[],0⟩≤3:=by
 have:=cb_len c
 rcases hk with rfl|rfl
 ·exact ⟨by unfold okQ;simp only;rw[show bhF 17=2 from rfl];simp[okB,h];rfl,by unfold szT byQ;simp only;rw[show bhF 17=2 from rfl,show cbF 17=[17] from rfl];simp only[beQ,List.length_append,List.length_singleton];omega⟩
 ·exact ⟨by unfold okQ;simp only;rw[show bhF 195=2 from rfl];simp[okB,h];rfl,by unfold szT byQ;simp only;rw[show bhF 195=2 from rfl,show cbF 195=[195] from rfl];simp only[beQ,List.length_append,List.length_singleton];omega⟩
theorem ok_text {t:List Int} (h:t.length≤255):okQ ⟨18,0,t,0⟩ true=true∧szT ⟨18,0,t,0⟩=t.length+2:=by
 exact ⟨by unfold okQ;simp only;rw[show bhF 18=3 from rfl];simp[okB,h,cdd],by unfold szT byQ;simp only;rw[show bhF 18=3 from rfl,show cbF 18=[18] from rfl];simp only[beQ,List.length_append,List.length_cons,List.length_nil];omega⟩
theorem ok_name {c:Int} {t:List Int} (h:t.length≤31) (h0:2048≤c) (h1:c≤4095):okQ ⟨182,c,t,0⟩ true=true∧szT ⟨182,c,t,0⟩=t.length+4:=by
 exact ⟨by unfold okQ;simp only;rw[show bhF 182=6 from rfl];simp[okB,h,cdd,nwF,h0,h1],by unfold szT byQ;simp only;rw[show bhF 182=6 from rfl,show cbF 182=[182] from rfl];simp only[beQ,List.length_append,List.length_singleton,List.length_cons,List.length_nil];omega⟩
theorem ok_num {v:Int}:okQ ⟨16,v,[],0⟩ true=true∧szT ⟨16,v,[],0⟩=5:=by
 exact ⟨by unfold okQ;simp only;rw[show bhF 16=1 from rfl];simp[okB,cdd],by unfold szT byQ;simp only;rw[show bhF 16=1 from rfl,show cbF 16=[16] from rfl];simp only[beQ,List.length_append,List.length_singleton,List.length_cons,List.length_nil];omega⟩
theorem tab_ok:∀c∈tabC,okQ (cdT c) true=true∧szT (cdT c)≤3:=by
 have h:tabC.all (fun c=>okQ (cdT c) true&&decide (szT (cdT c)≤3))=true:=by decide+kernel
 intro c hc
 have:=List.all_eq_true.1 h c hc
 simpa using this
theorem gQ_cd (c:Int):gQ (cdT c):=⟨by show (0:Int)≤0;decide,by show (0:Int) < 4294967296;decide,fun x hx=>by cases hx⟩
structure MkR (m:Mk) (n:Int):Prop where
 lf:Lf m.fl m.out.length
 nml:m.nm.length≤m.out.length
 ok:∀t∈m.out,okQ t true=true∧gQ t∧t.o=0
 sz:szL m.out≤n
 nx:m.nx≤4096
 na:bytesL m.na∧m.na.length≤31
 nb:∀x∈m.nm,bytesL x.1
theorem mk0_R:MkR mk0 0:=⟨⟨by simp[mk0],by simp[mk0],by simp[mk0],by simp[mk0],by simp[mk0]⟩,by simp[mk0],by simp[mk0],by simp[mk0,szL],by simp[mk0],⟨fun x hx=>by simp[mk0] at hx,by simp[mk0]⟩,by simp[mk0]⟩
theorem MkR.le {m:Mk} {n k:Int} (h:MkR m n) (hk:n≤k):MkR m k:=⟨h.lf,h.nml,h.ok,by have:=h.sz;omega,h.nx,h.na,h.nb⟩
theorem MkR.add {m:Mk} {n:Int} (h:MkR m n) (c k:Int) (t:List Int) (d:Int) (ok:okQ ⟨c,k,t,0⟩ true=true) (g:gQ ⟨c,k,t,0⟩) (hd:szT ⟨c,k,t,0⟩≤d):MkR (addT m c k t) (n+d) where
 lf:=h.lf.mono (by unfold addT;simp)
 nml:=by have:=h.nml;unfold addT;simp;omega
 ok:=fun x hx=>by
  rcases List.mem_append.1 hx with z|z
  ·exact h.ok x z
  ·rw[List.mem_singleton] at z;subst z;exact ⟨ok,g,rfl⟩
 sz:=by have:=h.sz;unfold addT;simp only;rw[szL_snoc];omega
 nx:=h.nx
 na:=h.na
 nb:=h.nb
theorem MkR.code {m:Mk} {n:Int} (h:MkR m n) (c:Int) (ok:okQ (cdT c) true=true) (hb:bhF c=0):MkR (addT m c 0 []) (n+2):=h.add c 0 [] 2 ok (gQ_cd c) (sz_plain hb)
theorem MkR.lay (back:Bool):∀(l:List Int) {m m':Mk} {n:Int},(∀c∈l,c∈tabC)→MkR m n→layF back l m=some m'→MkR m' (n+3*l.length)
 |[],m,m',n,hl,h,e=>by
  injection e with e
  subst e
  simpa using h
 |c::l,m,m',n,hl,h,e=>by
  unfold layF at e
  split at e
  ·cases e
  ·rename_i f hf
   have hc:=tab_ok c (hl c List.mem_cons_self)
   have h1:MkR (addT {m with fl:=f} c 0 []) (n+3):={
    lf:=by have:=h.lf.flw hf;unfold addT;simpa using this
    nml:=by have:=h.nml;unfold addT;simp;omega
    ok:=fun x hx=>by
     rcases List.mem_append.1 hx with z|z
     ·exact h.ok x z
     ·rw[List.mem_singleton] at z;subst z;exact ⟨hc.1,gQ_cd c,rfl⟩
    sz:=by have:=h.sz;have:=hc.2;unfold cdT at this;unfold addT;simp only;rw[szL_snoc];omega
    nx:=h.nx
    na:=h.na
    nb:=h.nb}
   have:=MkR.lay back l (fun c q=>hl c (List.mem_cons_of_mem _ q)) h1 e
   rw[List.length_cons]
   exact this.le (by push_cast;omega)
end Go.Proofs.YtkkehbdahniiaaaGreatDoor
