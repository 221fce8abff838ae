import Derived.Test.YtkkehbdahniiaaaGreatDoorB6
set_option linter.unusedVariables false
set_option linter.unusedSimpArgs false
set_option maxRecDepth 100000
namespace Go.Proofs.YtkkehbdahniiaaaGreatDoor
open Go.ChangeShapes Go.WideShapes Go.ChangeAt Go.RowKit
theorem infoCh:(Tryz.prog.info? 162).map (fun i=>(i.zero,i.size,i.bytes))=some (some (.agg #[.bool false, .int .i64 0, .int .i64 0, .slice none 0 0]),4,48):=by kernel_rfl
theorem last_split {α:Type} {l:List α} {x:α} (h:l.getLast? =some x):l=l.dropLast++[x]:=by
 obtain ⟨h1,h2⟩:=last_get h
 have hne:l≠[]:=by intro e;rw[e] at h1;simp at h1
 rw[List.getLast?_eq_some_getLast hne] at h
 injection h with h
 rw[←h]
 exact (List.dropLast_concat_getLast hne).symm
theorem RowM.newK {base q:Nat} {X:Cx} {w w1 w2 w3:World} {V:Rv} {s:Rst} (h:RowM base q X w V s) {x:Ch×Value} (hl:V.K.getLast? =some x) {g cap:Nat} (hV:V.k= .slice (some ⟨g,0,none⟩) V.K.length cap) {y:Ch} {vn vk:Value} (g1:w.grownBy w1 x.2.ownBlock) (o1:OwB2 base w1 vn y.2.2.2) (h1:AtLoc w x.2 vn) (b2:Below w1.heap.size w1 w2) (g3:w2.grownBy w3 (some g)) (row:w3.ownsRow base 162 4 vk (V.K.length - 1+1) (V.K.dropLast.flatMap chC++chC (y,vn))) (h3:AtLoc w2 (.slice (some ⟨g,0,none⟩) (V.K.length - 1) cap) vk):
  RowM base q X (w3.setCell ⟨q,5,none⟩ vk) {V with k:=vk,K:=V.K.dropLast++[(y,vn)]} {s with cs:=s.cs.dropLast++[y]}∧Nxt q w V (w3.setCell ⟨q,5,none⟩ vk) {V with k:=vk,K:=V.K.dropLast++[(y,vn)]}:=by
 have hsp:=last_split hl
 have hxm:=last_mem hl
 have hsep:=h.sep
 rw[hsp,List.map_append,←List.cons_append,List.pairwise_append] at hsep
 obtain ⟨p1, -,p3⟩:=hsep
 have ap:∀y'∈V.a::V.K.dropLast.map (·.2),Apart y' x.2:=fun y' hy=>p3 y' hy x.2 (by simp)
 refine h.growK (vo:=x.2) (vn:=vn) (v0:= .slice (some ⟨g,0,none⟩) (V.K.length - 1) cap) (by rw[hV];rfl) g1 (fun k _=>⟨x,hxm,rfl⟩) b2 g3 ?_ h1 h3 ?_ ?_ ?_ _ ?_
 ·unfold OwCh
  rw[List.length_append,List.length_dropLast,List.flatMap_append]
  simpa using row
 ·intro z hz
  rcases List.mem_append.1 hz with hz|hz
  ·refine grown_below g1 (h.outs z (drop_mem hz)) (fun k hk e=> ?_)
   exact ap z.2 (List.mem_cons_of_mem _ (List.mem_map_of_mem hz)) k hk e
  ·rw[List.mem_singleton] at hz
   subst hz
   exact o1
 ·intro z hz
  rcases List.mem_append.1 hz with hz|hz
  ·exact Or.inr ⟨z,drop_mem hz,rfl⟩
  ·rw[List.mem_singleton] at hz
   subst hz
   exact Or.inl rfl
 ·rw[List.map_append,←List.cons_append,List.pairwise_append]
  refine ⟨p1,by simp,fun a ha b hb=> ?_⟩
  simp only[List.map_cons,List.map_nil,List.mem_singleton] at hb
  subst hb
  intro k hk e
  have hka:k < w.heap.size:=by
   rcases List.mem_cons.1 ha with rfl|ha
   ·exact (h.hasge (Or.inr (Or.inl hk))).2
   ·obtain ⟨z,hz,rfl⟩:=List.mem_map.1 ha
    exact h.outlt (drop_mem hz) k hk
  rcases h1 with e1|e1
  ·exact ap a ha k hk (by rw[←e1];exact e)
  ·rw[e] at e1
   injection e1 with e1
   omega
 ·rw[List.map_append,List.map_dropLast,h.ks]
  rfl
set_option maxHeartbeats 4000000 in
set_option maxRecDepth 100000 in
theorem fw_openOf {base q:Nat} {X:Cx} {w:World} {V:Rv} {s:Rst} (h:RowM base q X w V s) (bd:Bnd s):
  Calls Tryz.prog 118 #[.pointer (some ⟨q,0,none⟩)] w (ActQ base q X w V (match s.cs.getLast? with
  |none=>none
  |some c=>if ¬c.1=false then none else some {lay1 s (cdT 28) with cs:=s.cs.dropLast++[(true,(brn s 28).1,(brn s 28).2,c.2.2.2)]})):=by
 have hg:s.cs.getLast? =V.K.getLast?.map (·.1):=by rw[←h.ks,getLast_map]
 rw[hg]
 clear hg
 rcases hl:V.K.getLast? with _|x
 ·have cn:=fw_caseN h false (by rw[hl];intro x hx;cases hx)
  have hs:=h.hs
  clear h bd
  go_enter Tryz.func118,Tryz.ntmps118
  go_wp2_with (first|(go_at_call 130;refine cn.mono ?_;rintro e w1 ⟨rfl,b1⟩)|fail)
  go_ret
  exact ⟨rfl,(below_trans b1 (box_below _ _)).mono hs⟩
 ·by_cases hx1:x.1.1=false
  ·simp only[Option.map_some]
   rw[if_neg (by rw[hx1];simp)]
   obtain ⟨xa,xn,xp,hf⟩:=h.form (last_mem hl)
   have ov:=h.outs x (last_mem hl)
   have cn:=fw_caseY h x hl
   rw[hx1] at cn
   have bok:=bd.cs x.1 (by rw[←h.ks];exact List.mem_map_of_mem (last_mem hl))
   obtain ⟨⟨x1,x2,x3,x4⟩,xv⟩:=x
   simp only at hf hx1 ov bok
   subst hf
   subst hx1
   unfold chV at cn
   simp only at cn
   have z5:V.K.length≤900000:=by have:=bd.csl;rw[←h.ks] at this;simpa using this
   have z1:=bd.tk
   have z2:=bd.s0
   have z3:=bd.s1
   have kz:=szC 28 (by decide+kernel)
   have hbv:brV (brn s 28)= .agg #[.int .i64 (brn s 28).1, .int .i64 (brn s 28).2]:=rfl
   obtain ⟨nb,hnb⟩:∃b,brn s 28=b:=⟨_,rfl⟩
   rw[hnb] at hbv
   obtain ⟨n1,n2⟩:=nb
   have HBR:=hid hnb
   simp only at hbv
   obtain ⟨i9,hi9,hz9,hz8,hz7⟩:=info_parts infoCh
   have H:=hid h
   have HL:=hid hl
   have OV:=hid ov
   clear h bd hl ov bok
   go_enter Tryz.func118,Tryz.ntmps118
   go_upto_region 4 with (go_at_call 130;refine cn.mono ?_;rintro e w1 ⟨g,cap,hV,rfl,c1⟩)
   have st1:=stands_new w1 #[.bool false, .int .i64 x2, .int .i64 x3, .slice xa xn xp] 162
   have c2:=below_trans c1 (box_below w1 (.cells #[.bool false, .int .i64 x2, .int .i64 x3, .slice xa xn xp] 162))
   have H1:=hid (H.out.below c2)
   have N1:Hid (Nxt q w V _ V):=hid (Nxt.below V c2)
   have B1:w.heap.size≤w1.heap.size:=c1.size
   generalize w1.alloc (.cells #[.bool false, .int .i64 x2, .int .i64 x3, .slice xa xn xp] 162)=W1 at st1 c2 H1 N1 ⊢
   have HB1:=hid (H.out.new B1)
   have L1:=heap_lt' st1
   have S1:=hid st1
   clear st1 c2 B1
   have cD:Below W1.heap.size W1 W1.drew:=below_drewN (Below.refl _ W1) 1
   have HD:=hid (H1.out.below cD)
   have ND:=hid (N1.out.trans (Nxt.below V cD))
   have SD:=hid (S1.out.below cD)
   have cb:=fw_branch HD.out 28 (by decide+kernel) (by omega) z2 (by omega)
   rw[HBR.out,hbv] at cb
   have K1:=hid (SD.out.cell 3 _ rfl)
   clear cD
   refine wp_region_held_drew (S:=fun W=>W.cell? ⟨w1.heap.size,3,none⟩=some (.slice xa xn xp)) (by kernel_rfl) (K1.out) (fun hHeld=> ?_)
   refine wpAnyH_take (i:=0) (v:= ?v39) rfl (by kernel_rfl) (by kernel_rfl) (by kernel_rfl) (fun _ _ _ h=>h) (Or.inl ⟨by kernel_rfl, ?h39⟩) hHeld ?r39
   case h39=>intro W hSw;(try dsimp only at hSw);obtain s0:=hSw;go_simp;try with_reducible rfl
   simp only[Act.put,List.setIfInBounds_toArray,List.set_cons_zero,List.set_cons_succ]
   refine wpAnyH_take (i:=1) (v:= ?v40) rfl (by kernel_rfl) (by kernel_rfl) (by kernel_rfl) (fun _ _ _ h=>h) (Or.inl ⟨by kernel_rfl, ?h40⟩) hHeld ?r40
   case h40=>intro W hSw;(try dsimp only at hSw);obtain s0:=hSw;go_simp;try with_reducible rfl
   simp only[Act.put,List.setIfInBounds_toArray,List.set_cons_zero,List.set_cons_succ]
   refine wpAnyH_take (i:=2) (v:= ?v41) rfl (by kernel_rfl) (by kernel_rfl) (by kernel_rfl) (fun _ _ _ h=>h) (Or.inl ⟨by kernel_rfl, ?h41⟩) hHeld ?r41
   case h41=>intro W hSw;(try dsimp only at hSw);obtain s0:=hSw;go_simp;try with_reducible rfl
   simp only[Act.put,List.setIfInBounds_toArray,List.set_cons_zero,List.set_cons_succ]
   refine wpAnyH_take (i:=4) (v:= ?v42) rfl (by kernel_rfl) (by kernel_rfl) (by kernel_rfl) (fun _ _ _ h=>h) (Or.inl ⟨by kernel_rfl, ?h42⟩) hHeld ?r42
   case h42=>intro W hSw;(try dsimp only at hSw);obtain s0:=hSw;go_simp;try with_reducible rfl
   simp only[Act.put,List.setIfInBounds_toArray,List.set_cons_zero,List.set_cons_succ]
   refine wpAnyH_take (i:=5) (v:= ?v43) rfl (by kernel_rfl) (by kernel_rfl) (by kernel_rfl) (fun _ _ _ h=>h) (Or.inl ⟨by kernel_rfl, ?h43⟩) hHeld ?r43
   case h43=>intro W hSw;(try dsimp only at hSw);obtain s0:=hSw;go_simp;try with_reducible rfl
   simp only[Act.put,List.setIfInBounds_toArray,List.set_cons_zero,List.set_cons_succ]
   refine wpAnyH_ready (rs:=[3]) (by kernel_rfl) (by simp) ?_
   refine AllReadyH.cons rfl (fun K hK=> ?_) AllReadyH.nil
   go_simp
   go_wp2_with (first|(go_at_call 111;refine cb.mono ?_;rintro e W4 ⟨rfl,vt4,h4,n4⟩;have st4:=SD.out.frm n4.fr HB1.out;have N4:=hid (ND.out.trans n4);have c5:=box_below W4 (.cells #[.bool true, .int .i64 n1, .int .i64 n2, .slice xa xn xp] 162);have H5:=hid (h4.below c5);have N5:=hid (N4.out.trans (Nxt.below _ c5));have st5:=st4.below c5;have K3:=hid (st4.cell 3 _ rfl);have K4:=hid (st5.cell 3 _ rfl);have hnew:=alloc_row W4 [Value.bool true, .int .i64 n1, .int .i64 n2, .slice xa xn xp] 162;have S5:=hid st5;clear h4 n4 st4 c5 st5))
   refine hK.out _ _ (K3.out) (fun hHeld=> ?_)
   clear hK K
   (try simp only[Act.put,List.setIfInBounds_toArray,List.set_cons_zero,List.set_cons_succ])
   refine wpAnyH_take (i:=6) (v:= ?v44) rfl (by kernel_rfl) (by kernel_rfl) (by kernel_rfl) (fun _ _ _ h=>h) (Or.inl ⟨by kernel_rfl, ?h44⟩) hHeld ?r44
   case h44=>intro W hSw;(try dsimp only at hSw);obtain s0:=hSw;go_simp;try with_reducible rfl
   simp only[Act.put,List.setIfInBounds_toArray,List.set_cons_zero,List.set_cons_succ]
   refine wpAnyH_ready (rs:=[7]) (by kernel_rfl) (by simp) ?_
   refine AllReadyH.cons rfl (fun K hK=> ?_) AllReadyH.nil
   go_simp
   refine hK.out _ _ (K4.out) (fun hHeld=> ?_)
   clear hK K
   (try simp only[Act.put,List.setIfInBounds_toArray,List.set_cons_zero,List.set_cons_succ])
   refine wpAnyH_ready (rs:=[8]) (by kernel_rfl) (by simp) ?_
   refine AllReadyH.cons rfl (fun K hK=> ?_) AllReadyH.nil
   (have o5:=H5.out.row;simp only at o5;rw[hV] at o5;have p5:=row_below chC (fun _=>rfl) o5;rw[List.length_dropLast] at p5;have hsX:=H5.out.hs;have one:∀u∈[Value.bool true, .int .i64 n1, .int .i64 n2, .slice xa xn xp],u.oneCell'=true:=(fun u hu=>by simp at hu;rcases hu with rfl|rfl|rfl|rfl <;> rfl);refine step_append_at rfl (.tmp 16) (.tmp 22) 57 rfl base 162 i9 _ 4 48 Tryz.underlying57 hi9 hz9 hz8 hz7 rfl (by decide) (.slice (some ⟨g,0,none⟩) (V.K.length - 1) cap) (V.K.length - 1) _ rfl p5 W4.heap.size 1 1 [.bool true, .int .i64 n1, .int .i64 n2, .slice xa xn xp] rfl rfl hnew one (by unfold maxLen;omega) (by omega) hsX ?_;intro v9 w9 ho9 hg9 hl9;obtain ⟨a9,c9,rfl⟩:=own_form ho9;have gA:(W4.alloc (.cells #[.bool true, .int .i64 n1, .int .i64 n2, .slice xa xn xp] 162)).grownBy w9 V.k.ownBlock:=(by rw[hV];exact hg9);have so9:=stands_kept (Kept.own H5.out.row gA) (by decide) H5.out.st;have u5:=so9.cell 5 _ rfl;have uf5:=so9.free 5;have hne:some w1.heap.size≠V.k.ownBlock:=(fun e=>HB1.out (Or.inr (Or.inr (Or.inr (Or.inr (Or.inr (Or.inl e.symm)))))));have st9:=S5.out.grown gA hne;have K5:=hid (st9.cell 3 _ rfl);have st9b:=st9.other 5 (.slice a9 (V.K.length - 1+1) c9) (fun e=>HB1.out (Or.inl e));have K6:=hid (st9b.cell 3 _ rfl);have RG:=hid (H5.out.newK (x:=((false,x2,x3,x4), .slice xa xn xp)) HL.out hV (y:=(true,n1,n2,x4)) (vn:= .slice xa xn xp) (gb_refl _ _) (H5.out.outs _ (last_mem HL.out)) (Or.inl rfl) (Below.refl _ _) hg9 ho9 hl9);clear ho9 so9 st9 st9b gA o5 p5)
   refine hK.out _ _ (K5.out) (fun hHeld=> ?_)
   clear hK K
   (try simp only[Act.put,List.setIfInBounds_toArray,List.set_cons_zero,List.set_cons_succ])
   refine wpAnyH_take (i:=9) (v:= ?v45) rfl (by kernel_rfl) (by kernel_rfl) (by kernel_rfl) (fun _ _ _ h=>h) (Or.inl ⟨by kernel_rfl, ?h45⟩) hHeld ?r45
   case h45=>intro W hSw;(try dsimp only at hSw);obtain s0:=hSw;go_simp;try with_reducible rfl
   simp only[Act.put,List.setIfInBounds_toArray,List.set_cons_zero,List.set_cons_succ]
   refine wpAnyH_take (i:=10) (v:= ?v46) rfl (by kernel_rfl) (by kernel_rfl) (by kernel_rfl) (fun _ _ _ h=>h) (Or.inl ⟨by kernel_rfl, ?h46⟩) hHeld ?r46
   case h46=>intro W hSw;(try dsimp only at hSw);obtain s0:=hSw;go_simp;try with_reducible rfl
   simp only[Act.put,List.setIfInBounds_toArray,List.set_cons_zero,List.set_cons_succ]
   refine wpAnyH_ready (rs:=[11]) (by kernel_rfl) (by simp) ?_
   refine AllReadyH.cons rfl (fun K hK=> ?_) AllReadyH.nil
   go_simp
   refine hK.out _ _ (K6.out) (fun hHeld=> ?_)
   clear hK K
   (try simp only[Act.put,List.setIfInBounds_toArray,List.set_cons_zero,List.set_cons_succ])
   refine wpAnyH_done (by kernel_rfl) ?_ _
   (try simp only[Exit.then])
   go_wp2_with fail
   go_ret
   exact ⟨rfl,_,by first|exact RG.out.1|(rw[HBR.out];exact RG.out.1),N5.out.trans RG.out.2⟩
  ·simp only[Option.map_some]
   rw[if_pos hx1]
   have cn:=fw_caseN h false (by rw[hl];intro y hy;injection hy with hy;subst hy;exact hx1)
   have hs:=h.hs
   clear h bd
   go_enter Tryz.func118,Tryz.ntmps118
   go_wp2_with (first|(go_at_call 130;refine cn.mono ?_;rintro e w1 ⟨rfl,b1⟩)|fail)
   go_ret
   exact ⟨rfl,(below_trans b1 (box_below _ _)).mono hs⟩
set_option maxHeartbeats 4000000 in
set_option maxRecDepth 100000 in
theorem fw_closeOf {base q:Nat} {X:Cx} {w:World} {V:Rv} {s:Rst} (h:RowM base q X w V s) (bd:Bnd s):
  Calls Tryz.prog 119 #[.pointer (some ⟨q,0,none⟩)] w (ActQ base q X w V (match s.cs.getLast? with
  |none=>none
  |some c=>if ¬c.1=true then none else some {led (lay1 s (cdT 198)) (s.sz+szT (cdT 198)) [(c.2.1,c.2.2.1)] with cs:=s.cs.dropLast++[(false,0,0,c.2.2.2++[brn s 198])]})):=by
 have hg:s.cs.getLast? =V.K.getLast?.map (·.1):=by rw[←h.ks,getLast_map]
 rw[hg]
 clear hg
 rcases hl:V.K.getLast? with _|x
 ·have cn:=fw_caseN h true (by rw[hl];intro x hx;cases hx)
  have hs:=h.hs
  clear h bd
  go_enter Tryz.func119,Tryz.ntmps119
  go_wp2_with (first|(go_at_call 130;refine cn.mono ?_;rintro e w1 ⟨rfl,b1⟩)|fail)
  go_ret
  exact ⟨rfl,(below_trans b1 (box_below _ _)).mono hs⟩
 ·by_cases hx1:x.1.1=true
  ·simp only[Option.map_some]
   rw[if_neg (by rw[hx1];simp)]
   obtain ⟨xa,xn,xp,hf⟩:=h.form (last_mem hl)
   have ov:=h.outs x (last_mem hl)
   have cn:=fw_caseY h x hl
   rw[hx1] at cn
   have bok:=bd.cs x.1 (by rw[←h.ks];exact List.mem_map_of_mem (last_mem hl))
   obtain ⟨⟨x1,x2,x3,x4⟩,xv⟩:=x
   simp only at hf hx1 ov bok
   subst hf
   subst hx1
   unfold chV at cn
   simp only at cn
   have z5:V.K.length≤900000:=by have:=bd.csl;rw[←h.ks] at this;simpa using this
   have z1:=bd.tk
   have z2:=bd.s0
   have z3:=bd.s1
   have kz:=szC 198 (by decide+kernel)
   have hbv:brV (brn s 198)= .agg #[.int .i64 (brn s 198).1, .int .i64 (brn s 198).2]:=rfl
   obtain ⟨nb,hnb⟩:∃b,brn s 198=b:=⟨_,rfl⟩
   rw[hnb] at hbv
   obtain ⟨n1,n2⟩:=nb
   have HBR:=hid hnb
   simp only at hbv
   have BO:=hid (bok.1 rfl)
   have z6:=bok.2.1
   obtain ⟨i9,hi9,hz9,hz8,hz7⟩:=info_parts infoCh
   obtain ⟨j9,hj9,hy9,hy8,hy7⟩:=info_parts infoBr
   have H:=hid h
   have HL:=hid hl
   clear h bd hl ov bok
   go_enter Tryz.func119,Tryz.ntmps119
   go_upto_region 4 with (go_at_call 130;refine cn.mono ?_;rintro e w1 ⟨g,cap,hV,rfl,c1⟩)
   have st1:=stands_new w1 #[.bool true, .int .i64 x2, .int .i64 x3, .slice xa xn xp] 162
   have c2:=below_trans c1 (box_below w1 (.cells #[.bool true, .int .i64 x2, .int .i64 x3, .slice xa xn xp] 162))
   have H1:=hid (H.out.below c2)
   have N1:Hid (Nxt q w V _ V):=hid (Nxt.below V c2)
   have B1:w.heap.size≤w1.heap.size:=c1.size
   generalize w1.alloc (.cells #[.bool true, .int .i64 x2, .int .i64 x3, .slice xa xn xp] 162)=W1 at st1 c2 H1 N1 ⊢
   have HB1:=hid (H.out.new B1)
   have L1:=heap_lt' st1
   have S1:=hid st1
   clear st1 c2 B1
   have HV:=hid hV
   have cb:=fw_branch H1.out 198 (by decide+kernel) (by omega) z2 (by omega)
   rw[HBR.out,hbv] at cb
   go_upto_region 5 with (go_at_call 111;refine cb.mono ?_;rintro e w4 ⟨rfl,vt4,h4,n4⟩)
   have c4:=box_below w4 (.cells #[.int .i64 n1, .int .i64 n2] 158)
   have SO4:=hid (stands_new w4 #[.int .i64 n1, .int .i64 n2] 158)
   have H4:=hid (h4.below c4)
   have N4:=hid ((N1.out.trans n4).trans (Nxt.below _ c4))
   have S4:=hid ((S1.out.frm n4.fr HB1.out).below c4)
   have HB4:=hid (n4.notin HB1.out L1)
   have HO4:=hid (h4.new (Nat.le_refl w4.heap.size))
   generalize w4.alloc (.cells #[.int .i64 n1, .int .i64 n2] 158)=W4 at c4 SO4 H4 N4 S4 ⊢
   clear h4 n4 c4 cb
   obtain ⟨Z,hZ⟩:∃Z,s.sz+szT (cdT 198)=Z:=⟨_,rfl⟩
   have f1:W4.cell? ⟨q,1,none⟩=some (.int .i64 Z):=(H4.out.st.cell 1 _ rfl).trans (congrArg (fun z=>some (Value.int .i64 z)) hZ)
   have g0:=S4.out.cell 1 _ rfl
   have g1:=S4.out.cell 2 _ rfl
   have c4:Below W4.heap.size W4 W4.drew:=below_drewN (Below.refl _ W4) 1
   have c5:=below_trans c4 (box_below W4.drew (.cells #[.int .i64 x2, .int .i64 x3] 158))
   have cL:=fw_lead (H4.out.below c5) Z (.slice (some ⟨W4.heap.size,0,none⟩) 1 1) [(x2,x3)] (fun W k=>br_one (b:=(x2,x3)) (stands_kept k (by decide) (stands_new W4.drew _ _))) (lead_in BO.out) (by unfold lay1;simp) (by omega) (by omega)
   have N5:=hid (N4.out.trans (Nxt.below _ c5))
   have SA:=hid (S4.out.below c5)
   have L5:=heap_lt' SA.out
   have K1:=hid (And.intro (below_cell c4 f1) (And.intro (below_cell c4 g0) (below_cell c4 g1)))
   have K2:=hid (And.intro (below_cell c5 f1) (And.intro (below_cell c5 g0) (below_cell c5 g1)))
   have SO5:=hid (SO4.out.below c5)
   clear c4 c5
   refine wp_region_held_drew (S:=fun W=>W.cell? ⟨q,1,none⟩=some (.int .i64 Z)∧W.cell? ⟨w1.heap.size,1,none⟩=some (.int .i64 x2)∧W.cell? ⟨w1.heap.size,2,none⟩=some (.int .i64 x3)) (by kernel_rfl) (K1.out) (fun hHeld=> ?_)
   refine wpAnyH_take (i:=0) (v:= ?v47) rfl (by kernel_rfl) (by kernel_rfl) (by kernel_rfl) (fun _ _ _ h=>h) (Or.inl ⟨by kernel_rfl, ?h47⟩) hHeld ?r47
   case h47=>intro W hSw;(try dsimp only at hSw);obtain ⟨s0,s1,s2⟩:=hSw;go_simp;try with_reducible rfl
   simp only[Act.put,List.setIfInBounds_toArray,List.set_cons_zero,List.set_cons_succ]
   refine wpAnyH_take (i:=1) (v:= ?v48) rfl (by kernel_rfl) (by kernel_rfl) (by kernel_rfl) (fun _ _ _ h=>h) (Or.inl ⟨by kernel_rfl, ?h48⟩) hHeld ?r48
   case h48=>intro W hSw;(try dsimp only at hSw);obtain ⟨s0,s1,s2⟩:=hSw;go_simp;try with_reducible rfl
   simp only[Act.put,List.setIfInBounds_toArray,List.set_cons_zero,List.set_cons_succ]
   refine wpAnyH_take (i:=2) (v:= ?v49) rfl (by kernel_rfl) (by kernel_rfl) (by kernel_rfl) (fun _ _ _ h=>h) (Or.inl ⟨by kernel_rfl, ?h49⟩) hHeld ?r49
   case h49=>intro W hSw;(try dsimp only at hSw);obtain ⟨s0,s1,s2⟩:=hSw;go_simp;try with_reducible rfl
   simp only[Act.put,List.setIfInBounds_toArray,List.set_cons_zero,List.set_cons_succ]
   refine wpAnyH_take (i:=3) (v:= ?v50) rfl (by kernel_rfl) (by kernel_rfl) (by kernel_rfl) (fun _ _ _ h=>h) (Or.inl ⟨by kernel_rfl, ?h50⟩) hHeld ?r50
   case h50=>intro W hSw;(try dsimp only at hSw);obtain ⟨s0,s1,s2⟩:=hSw;go_simp;try with_reducible rfl
   simp only[Act.put,List.setIfInBounds_toArray,List.set_cons_zero,List.set_cons_succ]
   refine wpAnyH_take (i:=4) (v:= ?v51) rfl (by kernel_rfl) (by kernel_rfl) (by kernel_rfl) (fun _ _ _ h=>h) (Or.inl ⟨by kernel_rfl, ?h51⟩) hHeld ?r51
   case h51=>intro W hSw;(try dsimp only at hSw);obtain ⟨s0,s1,s2⟩:=hSw;go_simp;try with_reducible rfl
   simp only[Act.put,List.setIfInBounds_toArray,List.set_cons_zero,List.set_cons_succ]
   refine wpAnyH_take (i:=5) (v:= ?v52) rfl (by kernel_rfl) (by kernel_rfl) (by kernel_rfl) (fun _ _ _ h=>h) (Or.inl ⟨by kernel_rfl, ?h52⟩) hHeld ?r52
   case h52=>intro W hSw;(try dsimp only at hSw);obtain ⟨s0,s1,s2⟩:=hSw;go_simp;try with_reducible rfl
   simp only[Act.put,List.setIfInBounds_toArray,List.set_cons_zero,List.set_cons_succ]
   refine wpAnyH_take (i:=6) (v:= ?v53) rfl (by kernel_rfl) (by kernel_rfl) (by kernel_rfl) (fun _ _ _ h=>h) (Or.inl ⟨by kernel_rfl, ?h53⟩) hHeld ?r53
   case h53=>intro W hSw;(try dsimp only at hSw);obtain ⟨s0,s1,s2⟩:=hSw;go_simp;try with_reducible rfl
   simp only[Act.put,List.setIfInBounds_toArray,List.set_cons_zero,List.set_cons_succ]
   refine wpAnyH_ready (rs:=[7]) (by kernel_rfl) (by simp) ?_
   refine AllReadyH.cons rfl (fun K hK=> ?_) AllReadyH.nil
   go_simp
   refine hK.out _ _ (K2.out) (fun hHeld=> ?_)
   clear hK K
   (try simp only[Act.put,List.setIfInBounds_toArray,List.set_cons_zero,List.set_cons_succ])
   refine wpAnyH_ready (rs:=[8]) (by kernel_rfl) (by simp) ?_
   refine AllReadyH.cons rfl (fun K hK=> ?_) AllReadyH.nil
   go_simp
   go_wp2_with (first|(go_at_call 127;refine cL.mono ?_;rintro e w9 ⟨rfl,h9,n9⟩;have H9:=hid h9;have N9:=hid (N5.out.trans n9);have st9:=SA.out.frm n9.fr HB4.out;have K3:Hid (w9.cell? ⟨q,1,none⟩=some (.int .i64 Z)∧w9.cell? ⟨w1.heap.size,1,none⟩=some (.int .i64 x2)∧w9.cell? ⟨w1.heap.size,2,none⟩=some (.int .i64 x3)):=hid ⟨(h9.st.cell 1 _ rfl).trans (congrArg (fun z=>some (Value.int .i64 z)) hZ),st9.cell 1 _ rfl,st9.cell 2 _ rfl⟩;have HB9:=hid (n9.notin HB4.out L5);have S9:=hid st9;have SO9:=hid (SO5.out.frm n9.fr HO4.out);clear h9 n9 st9))
   refine hK.out _ _ (K3.out) (fun hHeld=> ?_)
   clear hK K
   (try simp only[Act.put,List.setIfInBounds_toArray,List.set_cons_zero,List.set_cons_succ])
   refine wpAnyH_done (by kernel_rfl) ?_ _
   (try simp only[Exit.then])
   clear K1 K2 K3 cL f1 g0 g1
   go_upto_region 6 with fail
   have e3:=S9.out.cell 3 _ rfl
   have g0:=SO9.out.cell 0 _ rfl
   have g1:=SO9.out.cell 1 _ rfl
   have c10:=box_below w9 (.cells #[.int .i64 n1, .int .i64 n2] 158)
   have H10:=hid (H9.out.below c10)
   have N10:=hid (N9.out.trans (Nxt.below _ c10))
   have ov:OwB2 base _ (.slice xa xn xp) x4:=H10.out.outs _ (last_mem HL.out)
   unfold OwB2 at ov
   have hnew1:=alloc_row w9 [Value.int .i64 n1, .int .i64 n2] 158
   have one1:∀u∈[Value.int .i64 n1, .int .i64 n2],u.oneCell'=true:=fun u hu=>by simp at hu;rcases hu with rfl|rfl <;> rfl
   have hsX:=H10.out.hs
   go_wp2_with (first
    |(at_builtin;refine wpList_append_at rfl _ _ 54 rfl base 158 j9 _ 2 16 Tryz.underlying54 hj9 hy9 hy8 hy7 rfl (by decide) (.slice xa xn xp) x4.length _ rfl ov w9.heap.size 1 1 [.int .i64 n1, .int .i64 n2] rfl rfl hnew1 one1 (by unfold maxLen;omega) (by omega) hsX ?_;intro v10 w11 ho10 hg10 hl10;obtain ⟨a10,c10,rfl⟩:=own_form ho10;have k1:=Kept.own ov hg10;have c12:=box_below w11 (.cells #[.bool false, .int .i64 0, .int .i64 0, .slice a10 (x4.length+1) c10] 162);have o5:=own_belowN (own_kept k1 (by decide) H10.out.row) c12;simp only at o5;rw[HV.out] at o5;have p12:=row_below chC (fun _=>rfl) o5;rw[List.length_dropLast] at p12;have st12:=(stands_kept k1 (by decide) H10.out.st).below c12;have hnew2:=alloc_row w11 [Value.bool false, .int .i64 0, .int .i64 0, .slice a10 (x4.length+1) c10] 162;have one2:∀u∈[Value.bool false, .int .i64 0, .int .i64 0, .slice a10 (x4.length+1) c10],u.oneCell'=true:=(fun u hu=>by simp at hu;rcases hu with rfl|rfl|rfl|rfl <;> rfl);have hs12:=Nat.le_trans hsX (Nat.le_trans hg10.size c12.size))
    |(at_builtin;refine wpList_append_at rfl _ _ 57 rfl base 162 i9 _ 4 48 Tryz.underlying57 hi9 hz9 hz8 hz7 rfl (by decide) (.slice (some ⟨g,0,none⟩) (V.K.length - 1) cap) (V.K.length - 1) _ rfl p12 w11.heap.size 1 1 [.bool false, .int .i64 0, .int .i64 0, .slice a10 (x4.length+1) c10] rfl rfl hnew2 one2 (by unfold maxLen;omega) (by omega) hs12 ?_;intro v13 w13 ho13 hg13 hl13;obtain ⟨a13,c13,rfl⟩:=own_form ho13;have so13:=stands_kept (Kept.own p12 hg13) (by decide) st12;have u5:=so13.cell 5 _ rfl;have uf5:=so13.free 5;have o10:OwB2 base w11 (.slice a10 (x4.length+1) c10) (x4++[(n1,n2)]):=(by unfold OwB2;rw[List.length_append,List.flatMap_append];exact ho10);have RG:=hid (H10.out.newK (x:=((true,x2,x3,x4), .slice xa xn xp)) HL.out HV.out (y:=(false,0,0,x4++[(n1,n2)])) (vn:= .slice a10 (x4.length+1) c10) hg10 o10 hl10 c12 hg13 ho13 hl13)))
   go_ret
   exact ⟨rfl,_,by first|exact RG.out.1|(rw[hZ];exact RG.out.1)|(rw[HBR.out];exact RG.out.1)|(rw[HBR.out,hZ];exact RG.out.1),N10.out.trans RG.out.2⟩
  ·simp only[Option.map_some]
   rw[if_pos hx1]
   have cn:=fw_caseN h true (by rw[hl];intro y hy;injection hy with hy;subst hy;exact hx1)
   have hs:=h.hs
   clear h bd
   go_enter Tryz.func119,Tryz.ntmps119
   go_wp2_with (first|(go_at_call 130;refine cn.mono ?_;rintro e w1 ⟨rfl,b1⟩)|fail)
   go_ret
   exact ⟨rfl,(below_trans b1 (box_below _ _)).mono hs⟩
theorem kind_ne {w:World} {k:Nat} {a b:Array Value} {e e':TypeId} {f f':Nat×Nat} (h:w.heap[k]? =some (.cells a e f)) (h':w.heap[k]? =some (.cells b e' f')) (hne:¬e=e'):False:=by
 rw[h] at h'
 injection h' with h'
 injection h' with _ z
 exact hne z
theorem RowM.lastout {base q:Nat} {X:Cx} {w:World} {V:Rv} {s:Rst} (h:RowM base q X w V s) {x:Ch×Value} (hl:V.K.getLast? =some x) {g cap:Nat} (hV:V.k= .slice (some ⟨g,0,none⟩) V.K.length cap):∀k,x.2.ownBlock=some k→¬inD q {V with k:= .slice (some ⟨g,0,none⟩) (V.K.length - 1) cap,K:=V.K.dropLast} k:=by
 intro k hk hd
 obtain ⟨_,_,cur,fr,hb⟩:=own_block (h.outs x (last_mem hl)) hk
 have hsep:=h.sep
 rw[last_split hl,List.map_append,←List.cons_append,List.pairwise_append] at hsep
 have ap:∀y'∈V.a::V.K.dropLast.map (·.2),Apart y' x.2:=fun y' hy=>hsep.2.2 y' hy x.2 (by simp)
 rcases hd with rfl|z|z|z|z|z|⟨y,hy,z⟩
 ·exact kind_ne hb h.st (by decide)
 ·obtain ⟨_,_,c2,f2,h2⟩:=own_block h.tk z
  exact kind_ne hb h2 (by decide)
 ·exact ap V.a List.mem_cons_self k z hk
 ·obtain ⟨_,_,c2,f2,h2⟩:=own_block h.bk z
  exact kind_ne hb h2 (by decide)
 ·obtain ⟨_,_,c2,f2,h2⟩:=own_block h.lp z
  exact kind_ne hb h2 (by decide)
 ·obtain ⟨_,_,c2,f2,h2⟩:=own_block h.row (k:=k) (by rw[hV];exact z)
  exact kind_ne hb h2 (by decide)
 ·exact ap y.2 (List.mem_cons_of_mem _ (List.mem_map_of_mem hy)) k z hk
set_option maxHeartbeats 4000000 in
set_option maxRecDepth 100000 in
theorem fw_closeCase {base q:Nat} {X:Cx} {w:World} {V:Rv} {s:Rst} (h:RowM base q X w V s) (bd:Bnd s):
  Calls Tryz.prog 120 #[.pointer (some ⟨q,0,none⟩)] w (ActQ base q X w V (match s.cs.getLast? with
  |none=>none
  |some c=>if ¬c.1=false then none else some (led (lay1 {s with cs:=s.cs.dropLast} (cdT 197)) (s.sz+szT (cdT 197)) c.2.2.2))):=by
 have hg:s.cs.getLast? =V.K.getLast?.map (·.1):=by rw[←h.ks,getLast_map]
 rw[hg]
 clear hg
 rcases hl:V.K.getLast? with _|x
 ·have cn:=fw_caseN h false (by rw[hl];intro x hx;cases hx)
  have hs:=h.hs
  clear h bd
  go_enter Tryz.func120,Tryz.ntmps120
  go_wp2_with (first|(go_at_call 130;refine cn.mono ?_;rintro e w1 ⟨rfl,b1⟩)|fail)
  go_ret
  exact ⟨rfl,(below_trans b1 (box_below _ _)).mono hs⟩
 ·by_cases hx1:x.1.1=false
  ·simp only[Option.map_some]
   rw[if_neg (by rw[hx1];simp)]
   obtain ⟨xa,xn,xp,hf⟩:=h.form (last_mem hl)
   have ov:=h.outs x (last_mem hl)
   have cn:=fw_caseY h x hl
   rw[hx1] at cn
   have bok:=bd.cs x.1 (by rw[←h.ks];exact List.mem_map_of_mem (last_mem hl))
   obtain ⟨⟨x1,x2,x3,x4⟩,xv⟩:=x
   simp only at hf hx1 ov bok
   subst hf
   subst hx1
   unfold chV at cn
   simp only at cn
   have z5:V.K.length≤900000:=by have:=bd.csl;rw[←h.ks] at this;simpa using this
   have z1:=bd.tk
   have z2:=bd.s0
   have z3:=bd.s1
   have BO:=hid bok.2.2
   have kz:=szC 197 (by decide+kernel)
   have H:=hid h
   have HL:=hid hl
   clear h bd hl ov bok
   go_enter Tryz.func120,Tryz.ntmps120
   go_upto_region 2 with (go_at_call 130;refine cn.mono ?_;rintro e w1 ⟨g,cap,hV,rfl,c1⟩)
   have st1:=stands_new w1 #[.bool false, .int .i64 x2, .int .i64 x3, .slice xa xn xp] 162
   have c2:=below_trans c1 (box_below w1 (.cells #[.bool false, .int .i64 x2, .int .i64 x3, .slice xa xn xp] 162))
   have H1:=hid (H.out.below c2)
   have N1:Hid (Nxt q w V _ V):=hid (Nxt.below V c2)
   have B1:w.heap.size≤w1.heap.size:=c1.size
   generalize w1.alloc (.cells #[.bool false, .int .i64 x2, .int .i64 x3, .slice xa xn xp] 162)=W1 at st1 c2 H1 N1 ⊢
   have HB1:=hid (H.out.new B1)
   have L1:=heap_lt' st1
   have S1:=hid st1
   clear st1 c2 B1
   have HV:=hid hV
   have HNO:=hid (H1.out.lastout HL.out HV.out)
   have OV2:Hid (OwB2 base (W1.setCell ⟨q,5,none⟩ (.slice (some ⟨g,0,none⟩) (V.K.length - 1) cap)) (.slice xa xn xp) x4):=hid (own_kept (H1.out.kS 5 _) (by decide) (H1.out.outs _ (last_mem HL.out)))
   have f5':=H1.out.st.cell 5 _ rfl
   have fr5:=H1.out.st.free 5
   obtain ⟨h2,n2⟩:=H1.out.popK HV.out
   have N2:=hid (N1.out.trans n2)
   have S2:=hid (S1.out.other 5 (.slice (some ⟨g,0,none⟩) (V.K.length - 1) cap) (fun e=>HB1.out (Or.inl e)))
   have HB2:=hid (n2.notin HB1.out L1)
   have H2:=hid h2
   have L2:=heap_lt' S2.out
   clear h2 n2
   go_upto_region 5 with fail
   generalize W1.setCell ⟨q,5,none⟩ (.slice (some ⟨g,0,none⟩) (V.K.length - 1) cap)=W2 at H2 N2 S2 L2 OV2 ⊢
   have cb:=box_below W2 (.cells #[.int .i64 197] 3)
   have cl:=fw_codes (H2.out.below cb) 197 W2.heap.size (stands_new W2 _ _) (H2.out.new (Nat.le_refl _)) (by decide+kernel) (by show s.tk.length≤1000000;omega) z2 (by show s.sz≤1000000;omega)
   have S3:=hid (S2.out.below cb)
   have N3:=hid (N2.out.trans (Nxt.below _ cb))
   have L3:=Nat.lt_of_lt_of_le L2 cb.size
   go_upto_region 6 with (go_at_call 37;refine cl.mono ?_;rintro e W4 ⟨rfl,V4,h4,n4⟩)
   have S4:=hid (S3.out.frm n4.fr HB2.out)
   have N4:=hid (N3.out.trans n4)
   have HB4:=hid (n4.notin HB2.out L3)
   have L4:=heap_lt' S4.out
   have H4:=hid h4
   have OV4:Hid (OwB2 base W4 (.slice xa xn xp) x4):=hid (own_frm (own_belowN OV2.out cb) n4.fr HNO.out)
   clear h4 n4 cl cb
   obtain ⟨Z,hZ⟩:∃Z,s.sz+szT (cdT 197)=Z:=⟨_,rfl⟩
   have f1:W4.cell? ⟨q,1,none⟩=some (.int .i64 Z):=(H4.out.st.cell 1 _ rfl).trans (congrArg (fun z=>some (Value.int .i64 z)) hZ)
   have g0:=S4.out.cell 3 _ rfl
   have c4:Below W4.heap.size W4 W4.drew:=below_drewN (Below.refl _ W4) 1
   have OVD:OwB2 base W4.drew (.slice xa xn xp) x4:=own_belowN OV4.out c4
   have cL:=fw_lead (H4.out.below c4) Z (.slice xa xn xp) x4 (fun W k=>OwB2.read (own_kept k (by decide) OVD)) (fun x hx=>lead_in (t:=cdT 197) (BO.out x hx) x (List.mem_singleton.2 rfl)) (by unfold lay1;simp) (by omega) (by omega)
   have N5:=hid (N4.out.trans (Nxt.below _ c4))
   have SA:=hid (S4.out.below c4)
   have K1:=hid (And.intro (below_cell c4 f1) (below_cell c4 g0))
   clear c4
   refine wp_region_held_drew (S:=fun W=>W.cell? ⟨q,1,none⟩=some (.int .i64 Z)∧W.cell? ⟨w1.heap.size,3,none⟩=some (.slice xa xn xp)) (by kernel_rfl) (K1.out) (fun hHeld=> ?_)
   refine wpAnyH_take (i:=0) (v:= ?v54) rfl (by kernel_rfl) (by kernel_rfl) (by kernel_rfl) (fun _ _ _ h=>h) (Or.inl ⟨by kernel_rfl, ?h54⟩) hHeld ?r54
   case h54=>intro W hSw;(try dsimp only at hSw);obtain ⟨s0,s1⟩:=hSw;go_simp;try with_reducible rfl
   simp only[Act.put,List.setIfInBounds_toArray,List.set_cons_zero,List.set_cons_succ]
   refine wpAnyH_take (i:=1) (v:= ?v55) rfl (by kernel_rfl) (by kernel_rfl) (by kernel_rfl) (fun _ _ _ h=>h) (Or.inl ⟨by kernel_rfl, ?h55⟩) hHeld ?r55
   case h55=>intro W hSw;(try dsimp only at hSw);obtain ⟨s0,s1⟩:=hSw;go_simp;try with_reducible rfl
   simp only[Act.put,List.setIfInBounds_toArray,List.set_cons_zero,List.set_cons_succ]
   refine wpAnyH_take (i:=2) (v:= ?v56) rfl (by kernel_rfl) (by kernel_rfl) (by kernel_rfl) (fun _ _ _ h=>h) (Or.inl ⟨by kernel_rfl, ?h56⟩) hHeld ?r56
   case h56=>intro W hSw;(try dsimp only at hSw);obtain ⟨s0,s1⟩:=hSw;go_simp;try with_reducible rfl
   simp only[Act.put,List.setIfInBounds_toArray,List.set_cons_zero,List.set_cons_succ]
   refine wpAnyH_take (i:=3) (v:= ?v57) rfl (by kernel_rfl) (by kernel_rfl) (by kernel_rfl) (fun _ _ _ h=>h) (Or.inl ⟨by kernel_rfl, ?h57⟩) hHeld ?r57
   case h57=>intro W hSw;(try dsimp only at hSw);obtain ⟨s0,s1⟩:=hSw;go_simp;try with_reducible rfl
   simp only[Act.put,List.setIfInBounds_toArray,List.set_cons_zero,List.set_cons_succ]
   refine wpAnyH_take (i:=4) (v:= ?v58) rfl (by kernel_rfl) (by kernel_rfl) (by kernel_rfl) (fun _ _ _ h=>h) (Or.inl ⟨by kernel_rfl, ?h58⟩) hHeld ?r58
   case h58=>intro W hSw;(try dsimp only at hSw);obtain ⟨s0,s1⟩:=hSw;go_simp;try with_reducible rfl
   simp only[Act.put,List.setIfInBounds_toArray,List.set_cons_zero,List.set_cons_succ]
   refine wpAnyH_take (i:=5) (v:= ?v59) rfl (by kernel_rfl) (by kernel_rfl) (by kernel_rfl) (fun _ _ _ h=>h) (Or.inl ⟨by kernel_rfl, ?h59⟩) hHeld ?r59
   case h59=>intro W hSw;(try dsimp only at hSw);obtain ⟨s0,s1⟩:=hSw;go_simp;try with_reducible rfl
   simp only[Act.put,List.setIfInBounds_toArray,List.set_cons_zero,List.set_cons_succ]
   refine wpAnyH_take (i:=6) (v:= ?v60) rfl (by kernel_rfl) (by kernel_rfl) (by kernel_rfl) (fun _ _ _ h=>h) (Or.inl ⟨by kernel_rfl, ?h60⟩) hHeld ?r60
   case h60=>intro W hSw;(try dsimp only at hSw);obtain ⟨s0,s1⟩:=hSw;go_simp;try with_reducible rfl
   simp only[Act.put,List.setIfInBounds_toArray,List.set_cons_zero,List.set_cons_succ]
   refine wpAnyH_ready (rs:=[7]) (by kernel_rfl) (by simp) ?_
   refine AllReadyH.cons rfl (fun K hK=> ?_) AllReadyH.nil
   go_simp
   go_wp2_with (first|(go_at_call 127;refine cL.mono ?_;rintro e w9 ⟨rfl,h9,n9⟩;have H9:=hid h9;have N9:=hid (N5.out.trans n9);have st9:=SA.out.frm n9.fr HB4.out;have K3:Hid (w9.cell? ⟨q,1,none⟩=some (.int .i64 Z)∧w9.cell? ⟨w1.heap.size,3,none⟩=some (.slice xa xn xp)):=hid ⟨(h9.st.cell 1 _ rfl).trans (congrArg (fun z=>some (Value.int .i64 z)) hZ),st9.cell 3 _ rfl⟩;clear h9 n9 st9))
   refine hK.out _ _ (K3.out) (fun hHeld=> ?_)
   clear hK K
   (try simp only[Act.put,List.setIfInBounds_toArray,List.set_cons_zero,List.set_cons_succ])
   refine wpAnyH_done (by kernel_rfl) ?_ _
   (try simp only[Exit.then])
   go_wp2_with fail
   go_ret
   exact ⟨rfl,_,by first|exact H9.out|(rw[hZ];exact H9.out),N9.out⟩
  ·simp only[Option.map_some]
   rw[if_pos hx1]
   have cn:=fw_caseN h false (by rw[hl];intro y hy;injection hy with hy;subst hy;exact hx1)
   have hs:=h.hs
   clear h bd
   go_enter Tryz.func120,Tryz.ntmps120
   go_wp2_with (first|(go_at_call 130;refine cn.mono ?_;rintro e w1 ⟨rfl,b1⟩)|fail)
   go_ret
   exact ⟨rfl,(below_trans b1 (box_below _ _)).mono hs⟩
end Go.Proofs.YtkkehbdahniiaaaGreatDoor
