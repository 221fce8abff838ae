import Derived.Deep.RegionLaw
import Derived.Deep.RegionHeld2
import Derived.Test.YtkkehbdahniiaaaGreatDoorB15
set_option linter.unusedVariables false
set_option linter.unusedSimpArgs false
set_option maxRecDepth 100000
namespace Go.Proofs.YtkkehbdahniiaaaGreatDoor
open Go.ChangeShapes Go.WideShapes Go.ChangeAt Go.RowKit
set_option maxHeartbeats 4000000 in
set_option maxRecDepth 100000 in
theorem w_rbytes4n (c o:Int) (w:World) (o0: -9223372036854775808≤o) (o1:o < 9223372036854775808) (hc:cdd c=true) (hk:bhF c=4) (h1: -128≤o) (h2:o≤127):
  Calls Tryz.prog 27 #[.agg #[.int .i64 c, .int .u32 0, .string ⟨#[]⟩, .int .i64 o], .bool false] w fun e w'=>∃v1,e= .returned (.tuple #[v1, .bool true])∧OwB w.heap.size w' v1 (cbF c++[o%256])∧Below w.heap.size w w':=by
 obtain ⟨i0,hi,hz0,hz1,hz2⟩:=info_parts infoU8
 have cI:=fun w=>w_coded c w
 rw[hc] at cI
 have cB:=fun w=>w_rbehind c w
 rw[hk] at cB
 have cC:=fun w=>w_rcode c w hc
 have hcl:(cbF c).length≤2:=by unfold cbF;split <;> simp
 clear hk hc
 obtain ⟨X,hX⟩:∃X,cbF c=X:=⟨_,rfl⟩
 rw[hX] at hcl ⊢
 simp only[hX] at cC
 clear hX
 have bw:=box_below w (.cells #[.int .i64 c, .int .u32 0, .string ⟨#[]⟩, .int .i64 o] 40)
 have sw:=stands_new w #[.int .i64 c, .int .u32 0, .string ⟨#[]⟩, .int .i64 o] 40
 have HU:Hid (IntKind.u8.wrap ((IntKind.i64.wrap (o+256)).tmod 256)=o%256):=by
  show _=_
  rw[show IntKind.i64.wrap (o+256)=o+256 by rw[IntKind.wrap_i64];omega,Int.tmod_eq_emod_of_nonneg (by omega),IntKind.wrap_u8]
  omega
 go_enter Tryz.func27,Tryz.ntmps27
 go_upto_region 24 with (first
  |(go_at_call_of 51 (Value.int .i64 c);refine (cC _).mono ?_;rintro e w1 ⟨v1,rfl,p1,b1⟩;have hs1:w.heap.size≤w1.heap.size:=(by have h8:=b1.size;rw[size_al] at h8;omega);have q1:=OwB.le p1 (b:=w.heap.size) (by rw[size_al];omega);have l1:=Lay.new (Nat.le_refl w.heap.size) (below_trans bw b1);have st1:=sw.below b1;have f0:=st1.cell 0 _ rfl;have f1:=st1.cell 1 _ rfl;have f2:=st1.cell 2 _ rfl;have f3:=st1.cell 3 _ rfl)
  |(go_at_call 17;refine (cB _).mono ?_;rintro e q ⟨rfl,hw⟩;obtain rfl:=hw.symm)
  |(go_at_call_of 50 (Value.int .i64 c);refine (cI _).mono ?_;rintro e q ⟨rfl,hw⟩;obtain rfl:=hw.symm))
 have bd:Below w1.heap.size w1 w1.drew:=below_drewN (Below.refl _ _) 1
 have K1:=(st1.below bd).cell 3 _ rfl
 have bX:=box_below w1 (.cells #[.int .u8 (IntKind.u8.wrap ((IntKind.i64.wrap (o+256)).tmod 256))] 5)
 have bY:Below (w1.alloc (.cells #[.int .u8 (IntKind.u8.wrap ((IntKind.i64.wrap (o+256)).tmod 256))] 5)).heap.size (w1.alloc (.cells #[.int .u8 (IntKind.u8.wrap ((IntKind.i64.wrap (o+256)).tmod 256))] 5)) (w1.alloc (.cells #[.int .u8 (IntKind.u8.wrap ((IntKind.i64.wrap (o+256)).tmod 256))] 5)).drew:=below_drewN (Below.refl _ _) 1
 have b3:=below_trans bX bY
 have K2:=(st1.below b3).cell 3 _ rfl
 have qX:=OwB.below q1 b3
 have RX:=hid (Rd.below (rd_one (k:= .u8) w1 (IntKind.u8.wrap ((IntKind.i64.wrap (o+256)).tmod 256)) 5) bY)
 have hsX:w.heap.size≤(w1.alloc (.cells #[.int .u8 (IntKind.u8.wrap ((IntKind.i64.wrap (o+256)).tmod 256))] 5)).drew.heap.size:=Nat.le_trans hs1 b3.size
 have hb1:X.length+([IntKind.u8.wrap ((IntKind.i64.wrap (o+256)).tmod 256)]:List Int).length≤maxLen:=by simp[maxLen];omega
 have hb2:(X.length+([IntKind.u8.wrap ((IntKind.i64.wrap (o+256)).tmod 256)]:List Int).length)*1≤140737488355328:=by simp;omega
 have LX:=hid (l1.trans (Lay.new hs1 b3))
 have stX:=st1.below b3
 clear bd bX b3 bY
 refine wp_region_held_drew (S:=fun W=>W.cell? ⟨w.heap.size,3,none⟩=some (.int .i64 o)) (by kernel_rfl) (K1) (fun hHeld=> ?_)
 refine wpAnyH_take (i:=0) (v:= ?v1) rfl (by kernel_rfl) (by kernel_rfl) (by kernel_rfl) (fun _ _ _ h=>h) (Or.inl ⟨by kernel_rfl, ?h1⟩) hHeld ?r1
 case h1=>intro W hSw;(try dsimp only at hSw);obtain hS3:=hSw;go_simp;try with_reducible rfl
 simp only[Act.put,List.setIfInBounds_toArray,List.set_cons_zero,List.set_cons_succ]
 refine wpAnyH_take (i:=1) (v:= ?v2) rfl (by kernel_rfl) (by kernel_rfl) (by kernel_rfl) (fun _ _ _ h=>h) (Or.inl ⟨by kernel_rfl, ?h2⟩) hHeld ?r2
 case h2=>intro W hSw;(try dsimp only at hSw);obtain hS3:=hSw;go_simp;try with_reducible rfl
 simp only[Act.put,List.setIfInBounds_toArray,List.set_cons_zero,List.set_cons_succ]
 refine wpAnyH_take (i:=2) (v:= ?v3) rfl (by kernel_rfl) (by kernel_rfl) (by kernel_rfl) (fun _ _ _ h=>h) (Or.inl ⟨by kernel_rfl, ?h3⟩) hHeld ?r3
 case h3=>intro W hSw;(try dsimp only at hSw);obtain hS3:=hSw;go_simp;try with_reducible rfl
 simp only[Act.put,List.setIfInBounds_toArray,List.set_cons_zero,List.set_cons_succ]
 refine wpAnyH_take (i:=3) (v:= ?v4) rfl (by kernel_rfl) (by kernel_rfl) (by kernel_rfl) (fun _ _ _ h=>h) (Or.inl ⟨by kernel_rfl, ?h4⟩) hHeld ?r4
 case h4=>intro W hSw;(try dsimp only at hSw);obtain hS3:=hSw;go_simp;try with_reducible rfl
 simp only[Act.put,List.setIfInBounds_toArray,List.set_cons_zero,List.set_cons_succ]
 refine wpAnyH_take (i:=4) (v:= ?v5) rfl (by kernel_rfl) (by kernel_rfl) (by kernel_rfl) (fun _ _ _ h=>h) (Or.inl ⟨by kernel_rfl, ?h5⟩) hHeld ?r5
 case h5=>intro W hSw;(try dsimp only at hSw);obtain hS3:=hSw;go_simp;try with_reducible rfl
 simp only[Act.put,List.setIfInBounds_toArray,List.set_cons_zero,List.set_cons_succ]
 refine wpAnyH_take (i:=5) (v:= ?v6) rfl (by kernel_rfl) (by kernel_rfl) (by kernel_rfl) (fun _ _ _ h=>h) (Or.inl ⟨by kernel_rfl, ?h6⟩) hHeld ?r6
 case h6=>intro W hSw;(try dsimp only at hSw);obtain hS3:=hSw;go_simp;try with_reducible rfl
 simp only[Act.put,List.setIfInBounds_toArray,List.set_cons_zero,List.set_cons_succ]
 refine wpAnyH_take (i:=8) (v:= ?v7) rfl (by kernel_rfl) (by kernel_rfl) (by kernel_rfl) (fun _ _ _ h=>h) (Or.inl ⟨by kernel_rfl, ?h7⟩) hHeld ?r7
 case h7=>intro W hSw;(try dsimp only at hSw);obtain hS3:=hSw;go_simp;try with_reducible rfl
 simp only[Act.put,List.setIfInBounds_toArray,List.set_cons_zero,List.set_cons_succ]
 refine wpAnyH_take (i:=9) (v:= ?v8) rfl (by kernel_rfl) (by kernel_rfl) (by kernel_rfl) (fun _ _ _ h=>h) (Or.inl ⟨by kernel_rfl, ?h8⟩) hHeld ?r8
 case h8=>intro W hSw;(try dsimp only at hSw);obtain hS3:=hSw;go_simp;try with_reducible rfl
 simp only[Act.put,List.setIfInBounds_toArray,List.set_cons_zero,List.set_cons_succ]
 refine wpAnyH_take (i:=10) (v:= ?v9) rfl (by kernel_rfl) (by kernel_rfl) (by kernel_rfl) (fun _ _ _ h=>h) (Or.inl ⟨by kernel_rfl, ?h9⟩) hHeld ?r9
 case h9=>intro W hSw;(try dsimp only at hSw);obtain hS3:=hSw;go_simp;try with_reducible rfl
 simp only[Act.put,List.setIfInBounds_toArray,List.set_cons_zero,List.set_cons_succ]
 refine wpAnyH_ready (rs:=[6]) (by kernel_rfl) (by simp) ?_
 refine AllReadyH.cons rfl (fun K hK=> ?_) AllReadyH.nil
 go_simp
 refine hK.out _ _ (K2) (fun hHeld=> ?_)
 clear hK K
 (try simp only[Act.put,List.setIfInBounds_toArray,List.set_cons_zero,List.set_cons_succ])
 refine wpAnyH_ready (rs:=[7]) (by kernel_rfl) (by simp) ?_
 refine AllReadyH.cons rfl (fun K hK=> ?_) AllReadyH.nil
 refine step_append_rd (k:= .u8) rfl (.tmp 119) (.tmp 125) 29 rfl w.heap.size 5 i0 1 Tryz.underlying29 hi hz0 hz1 hz2 v1 X (by simp[Act.eval,Act.put]) qX (.slice (some ⟨w1.heap.size,0,none⟩) 1 1) [IntKind.u8.wrap ((IntKind.i64.wrap (o+256)).tmod 256)] (by simp[Act.eval,Act.put]) RX.out hb1 hb2 hsX ?_;intro v9 wn ho9 hg9;have y3:=(stX.agr (Lay.app qX hsX hg9).agr rfl (fun h=>h)).cell 3 _ rfl
 refine hK.out _ _ (y3) (fun hHeld=> ?_)
 clear hK K
 (try simp only[Act.put,List.setIfInBounds_toArray,List.set_cons_zero,List.set_cons_succ])
 refine wpAnyH_take (i:=11) (v:= ?v10) rfl (by kernel_rfl) (by kernel_rfl) (by kernel_rfl) (fun _ _ _ h=>h) (Or.inl ⟨by kernel_rfl, ?h10⟩) hHeld ?r10
 case h10=>intro W hSw;(try dsimp only at hSw);obtain hS3:=hSw;go_simp;try with_reducible rfl
 simp only[Act.put,List.setIfInBounds_toArray,List.set_cons_zero,List.set_cons_succ]
 refine wpAnyH_take (i:=12) (v:= ?v11) rfl (by kernel_rfl) (by kernel_rfl) (by kernel_rfl) (fun _ _ _ h=>h) (Or.inl ⟨by kernel_rfl, ?h11⟩) hHeld ?r11
 case h11=>intro W hSw;(try dsimp only at hSw);obtain hS3:=hSw;go_simp;try with_reducible rfl
 simp only[Act.put,List.setIfInBounds_toArray,List.set_cons_zero,List.set_cons_succ]
 refine wpAnyH_take (i:=13) (v:= ?v12) rfl (by kernel_rfl) (by kernel_rfl) (by kernel_rfl) (fun _ _ _ h=>h) (Or.inl ⟨by kernel_rfl, ?h12⟩) hHeld ?r12
 case h12=>intro W hSw;(try dsimp only at hSw);obtain hS3:=hSw;go_simp;try with_reducible rfl
 simp only[Act.put,List.setIfInBounds_toArray,List.set_cons_zero,List.set_cons_succ]
 refine wpAnyH_take (i:=14) (v:= ?v13) rfl (by kernel_rfl) (by kernel_rfl) (by kernel_rfl) (fun _ _ _ h=>h) (Or.inl ⟨by kernel_rfl, ?h13⟩) hHeld ?r13
 case h13=>intro W hSw;(try dsimp only at hSw);obtain hS3:=hSw;go_simp;try with_reducible rfl
 simp only[Act.put,List.setIfInBounds_toArray,List.set_cons_zero,List.set_cons_succ]
 refine wpAnyH_take (i:=15) (v:= ?v14) rfl (by kernel_rfl) (by kernel_rfl) (by kernel_rfl) (fun _ _ _ h=>h) (Or.inl ⟨by kernel_rfl, ?h14⟩) hHeld ?r14
 case h14=>intro W hSw;(try dsimp only at hSw);obtain hS3:=hSw;go_simp;try with_reducible rfl
 simp only[Act.put,List.setIfInBounds_toArray,List.set_cons_zero,List.set_cons_succ]
 refine wpAnyH_ready (rs:=[16]) (by kernel_rfl) (by simp) ?_
 refine AllReadyH.cons rfl (fun K hK=> ?_) AllReadyH.nil
 go_simp
 refine hK.out _ _ (y3) (fun hHeld=> ?_)
 clear hK K
 (try simp only[Act.put,List.setIfInBounds_toArray,List.set_cons_zero,List.set_cons_succ])
 refine wpAnyH_ready (rs:=[17]) (by kernel_rfl) (by simp) ?_
 refine AllReadyH.cons rfl (fun K hK=> ?_) AllReadyH.nil
 go_simp
 refine hK.out _ _ (y3) (fun hHeld=> ?_)
 clear hK K
 (try simp only[Act.put,List.setIfInBounds_toArray,List.set_cons_zero,List.set_cons_succ])
 refine wpAnyH_done (by kernel_rfl) ?_ _
 go_wp2_with fail
 go_ret2
 exact ⟨v9,rfl,by have:=ho9;rw[HU.out] at this;exact this,(LX.out.trans (Lay.app qX hsX hg9)).below⟩
set_option maxHeartbeats 4000000 in
set_option maxRecDepth 100000 in
theorem w_rbytes4nh (c o:Int) (w:World) (o0: -9223372036854775808≤o) (o1:o < 9223372036854775808) (hc:cdd c=true) (hk:bhF c=4) (h1: -128≤o) (h2:127 < o):
  Calls Tryz.prog 27 #[.agg #[.int .i64 c, .int .u32 0, .string ⟨#[]⟩, .int .i64 o], .bool false] w fun e w'=>∃v1,e= .returned (.tuple #[v1, .bool false])∧Below w.heap.size w w':=by
 obtain ⟨i0,hi,hz0,hz1,hz2⟩:=info_parts infoU8
 have cI:=fun w=>w_coded c w
 rw[hc] at cI
 have cB:=fun w=>w_rbehind c w
 rw[hk] at cB
 have cC:=fun w=>w_rcode c w hc
 have hcl:(cbF c).length≤2:=by unfold cbF;split <;> simp
 clear hk hc
 obtain ⟨X,hX⟩:∃X,cbF c=X:=⟨_,rfl⟩
 rw[hX] at hcl
 simp only[hX] at cC
 clear hX
 have bw:=box_below w (.cells #[.int .i64 c, .int .u32 0, .string ⟨#[]⟩, .int .i64 o] 40)
 have sw:=stands_new w #[.int .i64 c, .int .u32 0, .string ⟨#[]⟩, .int .i64 o] 40
 have h3:decide (o≤127)=false:=by simp;omega
 go_enter Tryz.func27,Tryz.ntmps27
 go_upto_region 24 with (first
  |(go_at_call_of 51 (Value.int .i64 c);refine (cC _).mono ?_;rintro e w1 ⟨v1,rfl,p1,b1⟩;have hs1:w.heap.size≤w1.heap.size:=(by have h8:=b1.size;rw[size_al] at h8;omega);have q1:=OwB.le p1 (b:=w.heap.size) (by rw[size_al];omega);have l1:=Lay.new (Nat.le_refl w.heap.size) (below_trans bw b1);have st1:=sw.below b1;have f0:=st1.cell 0 _ rfl;have f1:=st1.cell 1 _ rfl;have f2:=st1.cell 2 _ rfl;have f3:=st1.cell 3 _ rfl)
  |(go_at_call 17;refine (cB _).mono ?_;rintro e q ⟨rfl,hw⟩;obtain rfl:=hw.symm)
  |(go_at_call_of 50 (Value.int .i64 c);refine (cI _).mono ?_;rintro e q ⟨rfl,hw⟩;obtain rfl:=hw.symm))
 have bd:Below w1.heap.size w1 w1.drew:=below_drewN (Below.refl _ _) 1
 have K1:=(st1.below bd).cell 3 _ rfl
 have bX:=box_below w1 (.cells #[.int .u8 (IntKind.u8.wrap ((IntKind.i64.wrap (o+256)).tmod 256))] 5)
 have bY:Below (w1.alloc (.cells #[.int .u8 (IntKind.u8.wrap ((IntKind.i64.wrap (o+256)).tmod 256))] 5)).heap.size (w1.alloc (.cells #[.int .u8 (IntKind.u8.wrap ((IntKind.i64.wrap (o+256)).tmod 256))] 5)) (w1.alloc (.cells #[.int .u8 (IntKind.u8.wrap ((IntKind.i64.wrap (o+256)).tmod 256))] 5)).drew:=below_drewN (Below.refl _ _) 1
 have b3:=below_trans bX bY
 have K2:=(st1.below b3).cell 3 _ rfl
 have qX:=OwB.below q1 b3
 have RX:=hid (Rd.below (rd_one (k:= .u8) w1 (IntKind.u8.wrap ((IntKind.i64.wrap (o+256)).tmod 256)) 5) bY)
 have hsX:w.heap.size≤(w1.alloc (.cells #[.int .u8 (IntKind.u8.wrap ((IntKind.i64.wrap (o+256)).tmod 256))] 5)).drew.heap.size:=Nat.le_trans hs1 b3.size
 have hb1:X.length+([IntKind.u8.wrap ((IntKind.i64.wrap (o+256)).tmod 256)]:List Int).length≤maxLen:=by simp[maxLen];omega
 have hb2:(X.length+([IntKind.u8.wrap ((IntKind.i64.wrap (o+256)).tmod 256)]:List Int).length)*1≤140737488355328:=by simp;omega
 have LX:=hid (l1.trans (Lay.new hs1 b3))
 have stX:=st1.below b3
 clear bd bX b3 bY
 refine wp_region_held_drew (S:=fun W=>W.cell? ⟨w.heap.size,3,none⟩=some (.int .i64 o)) (by kernel_rfl) (K1) (fun hHeld=> ?_)
 refine wpAnyH_take (i:=0) (v:= ?v15) rfl (by kernel_rfl) (by kernel_rfl) (by kernel_rfl) (fun _ _ _ h=>h) (Or.inl ⟨by kernel_rfl, ?h15⟩) hHeld ?r15
 case h15=>intro W hSw;(try dsimp only at hSw);obtain hS3:=hSw;go_simp;try with_reducible rfl
 simp only[Act.put,List.setIfInBounds_toArray,List.set_cons_zero,List.set_cons_succ]
 refine wpAnyH_take (i:=1) (v:= ?v16) rfl (by kernel_rfl) (by kernel_rfl) (by kernel_rfl) (fun _ _ _ h=>h) (Or.inl ⟨by kernel_rfl, ?h16⟩) hHeld ?r16
 case h16=>intro W hSw;(try dsimp only at hSw);obtain hS3:=hSw;go_simp;try with_reducible rfl
 simp only[Act.put,List.setIfInBounds_toArray,List.set_cons_zero,List.set_cons_succ]
 refine wpAnyH_take (i:=2) (v:= ?v17) rfl (by kernel_rfl) (by kernel_rfl) (by kernel_rfl) (fun _ _ _ h=>h) (Or.inl ⟨by kernel_rfl, ?h17⟩) hHeld ?r17
 case h17=>intro W hSw;(try dsimp only at hSw);obtain hS3:=hSw;go_simp;try with_reducible rfl
 simp only[Act.put,List.setIfInBounds_toArray,List.set_cons_zero,List.set_cons_succ]
 refine wpAnyH_take (i:=3) (v:= ?v18) rfl (by kernel_rfl) (by kernel_rfl) (by kernel_rfl) (fun _ _ _ h=>h) (Or.inl ⟨by kernel_rfl, ?h18⟩) hHeld ?r18
 case h18=>intro W hSw;(try dsimp only at hSw);obtain hS3:=hSw;go_simp;try with_reducible rfl
 simp only[Act.put,List.setIfInBounds_toArray,List.set_cons_zero,List.set_cons_succ]
 refine wpAnyH_take (i:=4) (v:= ?v19) rfl (by kernel_rfl) (by kernel_rfl) (by kernel_rfl) (fun _ _ _ h=>h) (Or.inl ⟨by kernel_rfl, ?h19⟩) hHeld ?r19
 case h19=>intro W hSw;(try dsimp only at hSw);obtain hS3:=hSw;go_simp;try with_reducible rfl
 simp only[Act.put,List.setIfInBounds_toArray,List.set_cons_zero,List.set_cons_succ]
 refine wpAnyH_take (i:=5) (v:= ?v20) rfl (by kernel_rfl) (by kernel_rfl) (by kernel_rfl) (fun _ _ _ h=>h) (Or.inl ⟨by kernel_rfl, ?h20⟩) hHeld ?r20
 case h20=>intro W hSw;(try dsimp only at hSw);obtain hS3:=hSw;go_simp;try with_reducible rfl
 simp only[Act.put,List.setIfInBounds_toArray,List.set_cons_zero,List.set_cons_succ]
 refine wpAnyH_take (i:=8) (v:= ?v21) rfl (by kernel_rfl) (by kernel_rfl) (by kernel_rfl) (fun _ _ _ h=>h) (Or.inl ⟨by kernel_rfl, ?h21⟩) hHeld ?r21
 case h21=>intro W hSw;(try dsimp only at hSw);obtain hS3:=hSw;go_simp;try with_reducible rfl
 simp only[Act.put,List.setIfInBounds_toArray,List.set_cons_zero,List.set_cons_succ]
 refine wpAnyH_take (i:=9) (v:= ?v22) rfl (by kernel_rfl) (by kernel_rfl) (by kernel_rfl) (fun _ _ _ h=>h) (Or.inl ⟨by kernel_rfl, ?h22⟩) hHeld ?r22
 case h22=>intro W hSw;(try dsimp only at hSw);obtain hS3:=hSw;go_simp;try with_reducible rfl
 simp only[Act.put,List.setIfInBounds_toArray,List.set_cons_zero,List.set_cons_succ]
 refine wpAnyH_take (i:=10) (v:= ?v23) rfl (by kernel_rfl) (by kernel_rfl) (by kernel_rfl) (fun _ _ _ h=>h) (Or.inl ⟨by kernel_rfl, ?h23⟩) hHeld ?r23
 case h23=>intro W hSw;(try dsimp only at hSw);obtain hS3:=hSw;go_simp;try with_reducible rfl
 simp only[Act.put,List.setIfInBounds_toArray,List.set_cons_zero,List.set_cons_succ]
 refine wpAnyH_ready (rs:=[6]) (by kernel_rfl) (by simp) ?_
 refine AllReadyH.cons rfl (fun K hK=> ?_) AllReadyH.nil
 go_simp
 refine hK.out _ _ (K2) (fun hHeld=> ?_)
 clear hK K
 (try simp only[Act.put,List.setIfInBounds_toArray,List.set_cons_zero,List.set_cons_succ])
 refine wpAnyH_ready (rs:=[7]) (by kernel_rfl) (by simp) ?_
 refine AllReadyH.cons rfl (fun K hK=> ?_) AllReadyH.nil
 refine step_append_rd (k:= .u8) rfl (.tmp 119) (.tmp 125) 29 rfl w.heap.size 5 i0 1 Tryz.underlying29 hi hz0 hz1 hz2 v1 X (by simp[Act.eval,Act.put]) qX (.slice (some ⟨w1.heap.size,0,none⟩) 1 1) [IntKind.u8.wrap ((IntKind.i64.wrap (o+256)).tmod 256)] (by simp[Act.eval,Act.put]) RX.out hb1 hb2 hsX ?_;intro v9 wn ho9 hg9;have y3:=(stX.agr (Lay.app qX hsX hg9).agr rfl (fun h=>h)).cell 3 _ rfl
 refine hK.out _ _ (y3) (fun hHeld=> ?_)
 clear hK K
 (try simp only[Act.put,List.setIfInBounds_toArray,List.set_cons_zero,List.set_cons_succ])
 refine wpAnyH_take (i:=11) (v:= ?v24) rfl (by kernel_rfl) (by kernel_rfl) (by kernel_rfl) (fun _ _ _ h=>h) (Or.inl ⟨by kernel_rfl, ?h24⟩) hHeld ?r24
 case h24=>intro W hSw;(try dsimp only at hSw);obtain hS3:=hSw;go_simp;try with_reducible rfl
 simp only[Act.put,List.setIfInBounds_toArray,List.set_cons_zero,List.set_cons_succ]
 refine wpAnyH_take (i:=12) (v:= ?v25) rfl (by kernel_rfl) (by kernel_rfl) (by kernel_rfl) (fun _ _ _ h=>h) (Or.inl ⟨by kernel_rfl, ?h25⟩) hHeld ?r25
 case h25=>intro W hSw;(try dsimp only at hSw);obtain hS3:=hSw;go_simp;try with_reducible rfl
 simp only[Act.put,List.setIfInBounds_toArray,List.set_cons_zero,List.set_cons_succ]
 refine wpAnyH_take (i:=13) (v:= ?v26) rfl (by kernel_rfl) (by kernel_rfl) (by kernel_rfl) (fun _ _ _ h=>h) (Or.inl ⟨by kernel_rfl, ?h26⟩) hHeld ?r26
 case h26=>intro W hSw;(try dsimp only at hSw);obtain hS3:=hSw;go_simp;try with_reducible rfl
 simp only[Act.put,List.setIfInBounds_toArray,List.set_cons_zero,List.set_cons_succ]
 refine wpAnyH_take (i:=14) (v:= ?v27) rfl (by kernel_rfl) (by kernel_rfl) (by kernel_rfl) (fun _ _ _ h=>h) (Or.inl ⟨by kernel_rfl, ?h27⟩) hHeld ?r27
 case h27=>intro W hSw;(try dsimp only at hSw);obtain hS3:=hSw;go_simp;try with_reducible rfl
 simp only[Act.put,List.setIfInBounds_toArray,List.set_cons_zero,List.set_cons_succ]
 refine wpAnyH_take (i:=15) (v:= ?v28) rfl (by kernel_rfl) (by kernel_rfl) (by kernel_rfl) (fun _ _ _ h=>h) (Or.inl ⟨by kernel_rfl, ?h28⟩) hHeld ?r28
 case h28=>intro W hSw;(try dsimp only at hSw);obtain hS3:=hSw;go_simp;try with_reducible rfl
 simp only[Act.put,List.setIfInBounds_toArray,List.set_cons_zero,List.set_cons_succ]
 refine wpAnyH_ready (rs:=[16]) (by kernel_rfl) (by simp) ?_
 refine AllReadyH.cons rfl (fun K hK=> ?_) AllReadyH.nil
 go_simp
 refine hK.out _ _ (y3) (fun hHeld=> ?_)
 clear hK K
 (try simp only[Act.put,List.setIfInBounds_toArray,List.set_cons_zero,List.set_cons_succ])
 refine wpAnyH_ready (rs:=[17]) (by kernel_rfl) (by simp) ?_
 refine AllReadyH.cons rfl (fun K hK=> ?_) AllReadyH.nil
 go_simp
 refine hK.out _ _ (y3) (fun hHeld=> ?_)
 clear hK K
 (try simp only[Act.put,List.setIfInBounds_toArray,List.set_cons_zero,List.set_cons_succ])
 refine wpAnyH_done (by kernel_rfl) ?_ _
 go_wp2_with fail
 go_ret2
 first|exact ⟨v9,rfl,(LX.out.trans (Lay.app qX hsX hg9)).below⟩|exact ⟨⟨v9,rfl⟩,(LX.out.trans (Lay.app qX hsX hg9)).below⟩
set_option maxHeartbeats 4000000 in
set_option maxRecDepth 100000 in
theorem w_rbytes4nl (c o:Int) (w:World) (o0: -9223372036854775808≤o) (o1:o < 9223372036854775808) (hc:cdd c=true) (hk:bhF c=4) (h1:o < -128):
  Calls Tryz.prog 27 #[.agg #[.int .i64 c, .int .u32 0, .string ⟨#[]⟩, .int .i64 o], .bool false] w fun e w'=>∃v1,e= .returned (.tuple #[v1, .bool false])∧Below w.heap.size w w':=by
 obtain ⟨i0,hi,hz0,hz1,hz2⟩:=info_parts infoU8
 have cI:=fun w=>w_coded c w
 rw[hc] at cI
 have cB:=fun w=>w_rbehind c w
 rw[hk] at cB
 have cC:=fun w=>w_rcode c w hc
 have hcl:(cbF c).length≤2:=by unfold cbF;split <;> simp
 clear hk hc
 obtain ⟨X,hX⟩:∃X,cbF c=X:=⟨_,rfl⟩
 rw[hX] at hcl
 simp only[hX] at cC
 clear hX
 have bw:=box_below w (.cells #[.int .i64 c, .int .u32 0, .string ⟨#[]⟩, .int .i64 o] 40)
 have sw:=stands_new w #[.int .i64 c, .int .u32 0, .string ⟨#[]⟩, .int .i64 o] 40
 have h3:decide (-128≤o)=false:=by simp;omega
 go_enter Tryz.func27,Tryz.ntmps27
 go_upto_region 24 with (first
  |(go_at_call_of 51 (Value.int .i64 c);refine (cC _).mono ?_;rintro e w1 ⟨v1,rfl,p1,b1⟩;have hs1:w.heap.size≤w1.heap.size:=(by have h8:=b1.size;rw[size_al] at h8;omega);have q1:=OwB.le p1 (b:=w.heap.size) (by rw[size_al];omega);have l1:=Lay.new (Nat.le_refl w.heap.size) (below_trans bw b1);have st1:=sw.below b1;have f0:=st1.cell 0 _ rfl;have f1:=st1.cell 1 _ rfl;have f2:=st1.cell 2 _ rfl;have f3:=st1.cell 3 _ rfl)
  |(go_at_call 17;refine (cB _).mono ?_;rintro e q ⟨rfl,hw⟩;obtain rfl:=hw.symm)
  |(go_at_call_of 50 (Value.int .i64 c);refine (cI _).mono ?_;rintro e q ⟨rfl,hw⟩;obtain rfl:=hw.symm))
 have bd:Below w1.heap.size w1 w1.drew:=below_drewN (Below.refl _ _) 1
 have K1:=(st1.below bd).cell 3 _ rfl
 have bX:=box_below w1 (.cells #[.int .u8 (IntKind.u8.wrap ((IntKind.i64.wrap (o+256)).tmod 256))] 5)
 have bY:Below (w1.alloc (.cells #[.int .u8 (IntKind.u8.wrap ((IntKind.i64.wrap (o+256)).tmod 256))] 5)).heap.size (w1.alloc (.cells #[.int .u8 (IntKind.u8.wrap ((IntKind.i64.wrap (o+256)).tmod 256))] 5)) (w1.alloc (.cells #[.int .u8 (IntKind.u8.wrap ((IntKind.i64.wrap (o+256)).tmod 256))] 5)).drew:=below_drewN (Below.refl _ _) 1
 have b3:=below_trans bX bY
 have K2:=(st1.below b3).cell 3 _ rfl
 have qX:=OwB.below q1 b3
 have RX:=hid (Rd.below (rd_one (k:= .u8) w1 (IntKind.u8.wrap ((IntKind.i64.wrap (o+256)).tmod 256)) 5) bY)
 have hsX:w.heap.size≤(w1.alloc (.cells #[.int .u8 (IntKind.u8.wrap ((IntKind.i64.wrap (o+256)).tmod 256))] 5)).drew.heap.size:=Nat.le_trans hs1 b3.size
 have hb1:X.length+([IntKind.u8.wrap ((IntKind.i64.wrap (o+256)).tmod 256)]:List Int).length≤maxLen:=by simp[maxLen];omega
 have hb2:(X.length+([IntKind.u8.wrap ((IntKind.i64.wrap (o+256)).tmod 256)]:List Int).length)*1≤140737488355328:=by simp;omega
 have LX:=hid (l1.trans (Lay.new hs1 b3))
 have stX:=st1.below b3
 clear bd bX b3 bY
 refine wp_region_held_drew (S:=fun W=>W.cell? ⟨w.heap.size,3,none⟩=some (.int .i64 o)) (by kernel_rfl) (K1) (fun hHeld=> ?_)
 refine wpAnyH_take (i:=0) (v:= ?v29) rfl (by kernel_rfl) (by kernel_rfl) (by kernel_rfl) (fun _ _ _ h=>h) (Or.inl ⟨by kernel_rfl, ?h29⟩) hHeld ?r29
 case h29=>intro W hSw;(try dsimp only at hSw);obtain hS3:=hSw;go_simp;try with_reducible rfl
 simp only[Act.put,List.setIfInBounds_toArray,List.set_cons_zero,List.set_cons_succ]
 refine wpAnyH_take (i:=1) (v:= ?v30) rfl (by kernel_rfl) (by kernel_rfl) (by kernel_rfl) (fun _ _ _ h=>h) (Or.inl ⟨by kernel_rfl, ?h30⟩) hHeld ?r30
 case h30=>intro W hSw;(try dsimp only at hSw);obtain hS3:=hSw;go_simp;try with_reducible rfl
 simp only[Act.put,List.setIfInBounds_toArray,List.set_cons_zero,List.set_cons_succ]
 refine wpAnyH_take (i:=2) (v:= ?v31) rfl (by kernel_rfl) (by kernel_rfl) (by kernel_rfl) (fun _ _ _ h=>h) (Or.inl ⟨by kernel_rfl, ?h31⟩) hHeld ?r31
 case h31=>intro W hSw;(try dsimp only at hSw);obtain hS3:=hSw;go_simp;try with_reducible rfl
 simp only[Act.put,List.setIfInBounds_toArray,List.set_cons_zero,List.set_cons_succ]
 refine wpAnyH_take (i:=3) (v:= ?v32) rfl (by kernel_rfl) (by kernel_rfl) (by kernel_rfl) (fun _ _ _ h=>h) (Or.inl ⟨by kernel_rfl, ?h32⟩) hHeld ?r32
 case h32=>intro W hSw;(try dsimp only at hSw);obtain hS3:=hSw;go_simp;try with_reducible rfl
 simp only[Act.put,List.setIfInBounds_toArray,List.set_cons_zero,List.set_cons_succ]
 refine wpAnyH_take (i:=4) (v:= ?v33) rfl (by kernel_rfl) (by kernel_rfl) (by kernel_rfl) (fun _ _ _ h=>h) (Or.inl ⟨by kernel_rfl, ?h33⟩) hHeld ?r33
 case h33=>intro W hSw;(try dsimp only at hSw);obtain hS3:=hSw;go_simp;try with_reducible rfl
 simp only[Act.put,List.setIfInBounds_toArray,List.set_cons_zero,List.set_cons_succ]
 refine wpAnyH_take (i:=5) (v:= ?v34) rfl (by kernel_rfl) (by kernel_rfl) (by kernel_rfl) (fun _ _ _ h=>h) (Or.inl ⟨by kernel_rfl, ?h34⟩) hHeld ?r34
 case h34=>intro W hSw;(try dsimp only at hSw);obtain hS3:=hSw;go_simp;try with_reducible rfl
 simp only[Act.put,List.setIfInBounds_toArray,List.set_cons_zero,List.set_cons_succ]
 refine wpAnyH_take (i:=8) (v:= ?v35) rfl (by kernel_rfl) (by kernel_rfl) (by kernel_rfl) (fun _ _ _ h=>h) (Or.inl ⟨by kernel_rfl, ?h35⟩) hHeld ?r35
 case h35=>intro W hSw;(try dsimp only at hSw);obtain hS3:=hSw;go_simp;try with_reducible rfl
 simp only[Act.put,List.setIfInBounds_toArray,List.set_cons_zero,List.set_cons_succ]
 refine wpAnyH_take (i:=9) (v:= ?v36) rfl (by kernel_rfl) (by kernel_rfl) (by kernel_rfl) (fun _ _ _ h=>h) (Or.inl ⟨by kernel_rfl, ?h36⟩) hHeld ?r36
 case h36=>intro W hSw;(try dsimp only at hSw);obtain hS3:=hSw;go_simp;try with_reducible rfl
 simp only[Act.put,List.setIfInBounds_toArray,List.set_cons_zero,List.set_cons_succ]
 refine wpAnyH_take (i:=10) (v:= ?v37) rfl (by kernel_rfl) (by kernel_rfl) (by kernel_rfl) (fun _ _ _ h=>h) (Or.inl ⟨by kernel_rfl, ?h37⟩) hHeld ?r37
 case h37=>intro W hSw;(try dsimp only at hSw);obtain hS3:=hSw;go_simp;try with_reducible rfl
 simp only[Act.put,List.setIfInBounds_toArray,List.set_cons_zero,List.set_cons_succ]
 refine wpAnyH_ready (rs:=[6]) (by kernel_rfl) (by simp) ?_
 refine AllReadyH.cons rfl (fun K hK=> ?_) AllReadyH.nil
 go_simp
 refine hK.out _ _ (K2) (fun hHeld=> ?_)
 clear hK K
 (try simp only[Act.put,List.setIfInBounds_toArray,List.set_cons_zero,List.set_cons_succ])
 refine wpAnyH_ready (rs:=[7]) (by kernel_rfl) (by simp) ?_
 refine AllReadyH.cons rfl (fun K hK=> ?_) AllReadyH.nil
 refine step_append_rd (k:= .u8) rfl (.tmp 119) (.tmp 125) 29 rfl w.heap.size 5 i0 1 Tryz.underlying29 hi hz0 hz1 hz2 v1 X (by simp[Act.eval,Act.put]) qX (.slice (some ⟨w1.heap.size,0,none⟩) 1 1) [IntKind.u8.wrap ((IntKind.i64.wrap (o+256)).tmod 256)] (by simp[Act.eval,Act.put]) RX.out hb1 hb2 hsX ?_;intro v9 wn ho9 hg9;have y3:=(stX.agr (Lay.app qX hsX hg9).agr rfl (fun h=>h)).cell 3 _ rfl
 refine hK.out _ _ (y3) (fun hHeld=> ?_)
 clear hK K
 (try simp only[Act.put,List.setIfInBounds_toArray,List.set_cons_zero,List.set_cons_succ])
 refine wpAnyH_take (i:=11) (v:= ?v38) rfl (by kernel_rfl) (by kernel_rfl) (by kernel_rfl) (fun _ _ _ h=>h) (Or.inl ⟨by kernel_rfl, ?h38⟩) hHeld ?r38
 case h38=>intro W hSw;(try dsimp only at hSw);obtain hS3:=hSw;go_simp;try with_reducible rfl
 simp only[Act.put,List.setIfInBounds_toArray,List.set_cons_zero,List.set_cons_succ]
 refine wpAnyH_take (i:=12) (v:=undef) rfl (by kernel_rfl) (by kernel_rfl) (by kernel_rfl) (fun _ _ _ h=>h) (Or.inr ⟨by kernel_rfl,rfl⟩) hHeld ?_
 simp only[Act.put,List.setIfInBounds_toArray,List.set_cons_zero,List.set_cons_succ]
 refine wpAnyH_take (i:=13) (v:=undef) rfl (by kernel_rfl) (by kernel_rfl) (by kernel_rfl) (fun _ _ _ h=>h) (Or.inr ⟨by kernel_rfl,rfl⟩) hHeld ?_
 simp only[Act.put,List.setIfInBounds_toArray,List.set_cons_zero,List.set_cons_succ]
 refine wpAnyH_take (i:=14) (v:=undef) rfl (by kernel_rfl) (by kernel_rfl) (by kernel_rfl) (fun _ _ _ h=>h) (Or.inr ⟨by kernel_rfl,rfl⟩) hHeld ?_
 simp only[Act.put,List.setIfInBounds_toArray,List.set_cons_zero,List.set_cons_succ]
 refine wpAnyH_take (i:=15) (v:= ?v42) rfl (by kernel_rfl) (by kernel_rfl) (by kernel_rfl) (fun _ _ _ h=>h) (Or.inl ⟨by kernel_rfl, ?h42⟩) hHeld ?r42
 case h42=>intro W hSw;(try dsimp only at hSw);obtain hS3:=hSw;go_simp;try with_reducible rfl
 simp only[Act.put,List.setIfInBounds_toArray,List.set_cons_zero,List.set_cons_succ]
 refine wpAnyH_ready (rs:=[16]) (by kernel_rfl) (by simp) ?_
 refine AllReadyH.cons rfl (fun K hK=> ?_) AllReadyH.nil
 go_simp
 refine hK.out _ _ (y3) (fun hHeld=> ?_)
 clear hK K
 (try simp only[Act.put,List.setIfInBounds_toArray,List.set_cons_zero,List.set_cons_succ])
 refine wpAnyH_ready (rs:=[17]) (by kernel_rfl) (by simp) ?_
 refine AllReadyH.cons rfl (fun K hK=> ?_) AllReadyH.nil
 go_simp
 refine hK.out _ _ (y3) (fun hHeld=> ?_)
 clear hK K
 (try simp only[Act.put,List.setIfInBounds_toArray,List.set_cons_zero,List.set_cons_succ])
 refine wpAnyH_done (by kernel_rfl) ?_ _
 go_wp2_with fail
 go_ret2
 first|exact ⟨v9,rfl,(LX.out.trans (Lay.app qX hsX hg9)).below⟩|exact ⟨⟨v9,rfl⟩,(LX.out.trans (Lay.app qX hsX hg9)).below⟩
set_option maxHeartbeats 4000000 in
set_option maxRecDepth 100000 in
theorem w_rbytes4w (c o:Int) (w:World) (o0: -9223372036854775808≤o) (o1:o < 9223372036854775808) (hc:cdd c=true) (hk:bhF c=4) (h1: -32768≤o) (h2:o≤32767):
  Calls Tryz.prog 27 #[.agg #[.int .i64 c, .int .u32 0, .string ⟨#[]⟩, .int .i64 o], .bool true] w fun e w'=>∃v1,e= .returned (.tuple #[v1, .bool true])∧OwB w.heap.size w' v1 (cbF c++[o / 256%256,o%256])∧Below w.heap.size w w':=by
 obtain ⟨i0,hi,hz0,hz1,hz2⟩:=info_parts infoU8
 have cI:=fun w=>w_coded c w
 rw[hc] at cI
 have cB:=fun w=>w_rbehind c w
 rw[hk] at cB
 have cC:=fun w=>w_rcode c w hc
 have hcl:(cbF c).length≤2:=by unfold cbF;split <;> simp
 clear hk hc
 obtain ⟨X,hX⟩:∃X,cbF c=X:=⟨_,rfl⟩
 rw[hX] at hcl ⊢
 simp only[hX] at cC
 clear hX
 have bw:=box_below w (.cells #[.int .i64 c, .int .u32 0, .string ⟨#[]⟩, .int .i64 o] 40)
 have sw:=stands_new w #[.int .i64 c, .int .u32 0, .string ⟨#[]⟩, .int .i64 o] 40
 have cT:=fun w=>w_rtwo (IntKind.i64.wrap (o+65536)) w (by rw[IntKind.wrap_i64];omega) (by rw[IntKind.wrap_i64];omega)
 have HU:Hid (IntKind.i64.wrap (o+65536)=o+65536):=by show _=_;rw[IntKind.wrap_i64];omega
 go_enter Tryz.func27,Tryz.ntmps27
 go_upto_region 23 with (first
  |(go_at_call_of 51 (Value.int .i64 c);refine (cC _).mono ?_;rintro e w1 ⟨v1,rfl,p1,b1⟩;have hs1:w.heap.size≤w1.heap.size:=(by have h8:=b1.size;rw[size_al] at h8;omega);have q1:=OwB.le p1 (b:=w.heap.size) (by rw[size_al];omega);have l1:=Lay.new (Nat.le_refl w.heap.size) (below_trans bw b1);have st1:=sw.below b1;have f0:=st1.cell 0 _ rfl;have f1:=st1.cell 1 _ rfl;have f2:=st1.cell 2 _ rfl;have f3:=st1.cell 3 _ rfl)
  |(go_at_call 17;refine (cB _).mono ?_;rintro e q ⟨rfl,hw⟩;obtain rfl:=hw.symm)
  |(go_at_call_of 50 (Value.int .i64 c);refine (cI _).mono ?_;rintro e q ⟨rfl,hw⟩;obtain rfl:=hw.symm))
 have bd:Below w1.heap.size w1 w1.drew:=below_drewN (Below.refl _ _) 1
 have K1:=(st1.below bd).cell 3 _ rfl
 refine wp_region_held_drew (S:=fun W=>W.cell? ⟨w.heap.size,3,none⟩=some (.int .i64 o)) (by kernel_rfl) (K1) (fun hHeld=> ?_)
 refine wpAnyH_take (i:=0) (v:= ?v43) rfl (by kernel_rfl) (by kernel_rfl) (by kernel_rfl) (fun _ _ _ h=>h) (Or.inl ⟨by kernel_rfl, ?h43⟩) hHeld ?r43
 case h43=>intro W hSw;(try dsimp only at hSw);obtain hS3:=hSw;go_simp;try with_reducible rfl
 simp only[Act.put,List.setIfInBounds_toArray,List.set_cons_zero,List.set_cons_succ]
 refine wpAnyH_take (i:=1) (v:= ?v44) rfl (by kernel_rfl) (by kernel_rfl) (by kernel_rfl) (fun _ _ _ h=>h) (Or.inl ⟨by kernel_rfl, ?h44⟩) hHeld ?r44
 case h44=>intro W hSw;(try dsimp only at hSw);obtain hS3:=hSw;go_simp;try with_reducible rfl
 simp only[Act.put,List.setIfInBounds_toArray,List.set_cons_zero,List.set_cons_succ]
 refine wpAnyH_take (i:=2) (v:= ?v45) rfl (by kernel_rfl) (by kernel_rfl) (by kernel_rfl) (fun _ _ _ h=>h) (Or.inl ⟨by kernel_rfl, ?h45⟩) hHeld ?r45
 case h45=>intro W hSw;(try dsimp only at hSw);obtain hS3:=hSw;go_simp;try with_reducible rfl
 simp only[Act.put,List.setIfInBounds_toArray,List.set_cons_zero,List.set_cons_succ]
 refine wpAnyH_take (i:=3) (v:= ?v46) rfl (by kernel_rfl) (by kernel_rfl) (by kernel_rfl) (fun _ _ _ h=>h) (Or.inl ⟨by kernel_rfl, ?h46⟩) hHeld ?r46
 case h46=>intro W hSw;(try dsimp only at hSw);obtain hS3:=hSw;go_simp;try with_reducible rfl
 simp only[Act.put,List.setIfInBounds_toArray,List.set_cons_zero,List.set_cons_succ]
 refine wpAnyH_take (i:=6) (v:= ?v47) rfl (by kernel_rfl) (by kernel_rfl) (by kernel_rfl) (fun _ _ _ h=>h) (Or.inl ⟨by kernel_rfl, ?h47⟩) hHeld ?r47
 case h47=>intro W hSw;(try dsimp only at hSw);obtain hS3:=hSw;go_simp;try with_reducible rfl
 simp only[Act.put,List.setIfInBounds_toArray,List.set_cons_zero,List.set_cons_succ]
 refine wpAnyH_take (i:=7) (v:= ?v48) rfl (by kernel_rfl) (by kernel_rfl) (by kernel_rfl) (fun _ _ _ h=>h) (Or.inl ⟨by kernel_rfl, ?h48⟩) hHeld ?r48
 case h48=>intro W hSw;(try dsimp only at hSw);obtain hS3:=hSw;go_simp;try with_reducible rfl
 simp only[Act.put,List.setIfInBounds_toArray,List.set_cons_zero,List.set_cons_succ]
 refine wpAnyH_take (i:=8) (v:= ?v49) rfl (by kernel_rfl) (by kernel_rfl) (by kernel_rfl) (fun _ _ _ h=>h) (Or.inl ⟨by kernel_rfl, ?h49⟩) hHeld ?r49
 case h49=>intro W hSw;(try dsimp only at hSw);obtain hS3:=hSw;go_simp;try with_reducible rfl
 simp only[Act.put,List.setIfInBounds_toArray,List.set_cons_zero,List.set_cons_succ]
 refine wpAnyH_ready (rs:=[4]) (by kernel_rfl) (by simp) ?_
 refine AllReadyH.cons rfl (fun K hK=> ?_) AllReadyH.nil
 go_simp
 go_wp2_with (first|(go_at_call 52;refine (cT _).mono ?_;rintro e w2 ⟨v2,x2,y2,rfl,p2,b2,e2⟩;have b3:=below_trans bd b2;have st2:=st1.below b3;have K2:=st2.cell 3 _ rfl;have q2:=OwB.below q1 b3;have hs2:w.heap.size≤w2.heap.size:=Nat.le_trans hs1 b3.size;have l2:=l1.trans (Lay.new hs1 b3);have E2:=hid e2;clear e2))
 refine hK.out _ _ (K2) (fun hHeld=> ?_)
 clear hK K
 (try simp only[Act.put,List.setIfInBounds_toArray,List.set_cons_zero,List.set_cons_succ])
 refine wpAnyH_ready (rs:=[5]) (by kernel_rfl) (by simp) ?_
 refine AllReadyH.cons rfl (fun K hK=> ?_) AllReadyH.nil
 refine step_append_rd (k:= .u8) rfl (.tmp 105) (.tmp 109) 29 rfl w.heap.size 5 i0 1 Tryz.underlying29 hi hz0 hz1 hz2 v1 X (by simp[Act.eval,Act.put]) q2 v2 [x2,y2] (by simp[Act.eval,Act.put]) (Rd_own p2).1 (by simp[maxLen];omega) (by simp;omega) hs2 ?_;intro v9 wn ho9 hg9;have y3:=(st2.agr (Lay.app q2 hs2 hg9).agr rfl (fun h=>h)).cell 3 _ rfl
 refine hK.out _ _ (y3) (fun hHeld=> ?_)
 clear hK K
 (try simp only[Act.put,List.setIfInBounds_toArray,List.set_cons_zero,List.set_cons_succ])
 refine wpAnyH_take (i:=9) (v:= ?v50) rfl (by kernel_rfl) (by kernel_rfl) (by kernel_rfl) (fun _ _ _ h=>h) (Or.inl ⟨by kernel_rfl, ?h50⟩) hHeld ?r50
 case h50=>intro W hSw;(try dsimp only at hSw);obtain hS3:=hSw;go_simp;try with_reducible rfl
 simp only[Act.put,List.setIfInBounds_toArray,List.set_cons_zero,List.set_cons_succ]
 refine wpAnyH_take (i:=10) (v:= ?v51) rfl (by kernel_rfl) (by kernel_rfl) (by kernel_rfl) (fun _ _ _ h=>h) (Or.inl ⟨by kernel_rfl, ?h51⟩) hHeld ?r51
 case h51=>intro W hSw;(try dsimp only at hSw);obtain hS3:=hSw;go_simp;try with_reducible rfl
 simp only[Act.put,List.setIfInBounds_toArray,List.set_cons_zero,List.set_cons_succ]
 refine wpAnyH_take (i:=11) (v:= ?v52) rfl (by kernel_rfl) (by kernel_rfl) (by kernel_rfl) (fun _ _ _ h=>h) (Or.inl ⟨by kernel_rfl, ?h52⟩) hHeld ?r52
 case h52=>intro W hSw;(try dsimp only at hSw);obtain hS3:=hSw;go_simp;try with_reducible rfl
 simp only[Act.put,List.setIfInBounds_toArray,List.set_cons_zero,List.set_cons_succ]
 refine wpAnyH_take (i:=12) (v:= ?v53) rfl (by kernel_rfl) (by kernel_rfl) (by kernel_rfl) (fun _ _ _ h=>h) (Or.inl ⟨by kernel_rfl, ?h53⟩) hHeld ?r53
 case h53=>intro W hSw;(try dsimp only at hSw);obtain hS3:=hSw;go_simp;try with_reducible rfl
 simp only[Act.put,List.setIfInBounds_toArray,List.set_cons_zero,List.set_cons_succ]
 refine wpAnyH_take (i:=13) (v:= ?v54) rfl (by kernel_rfl) (by kernel_rfl) (by kernel_rfl) (fun _ _ _ h=>h) (Or.inl ⟨by kernel_rfl, ?h54⟩) hHeld ?r54
 case h54=>intro W hSw;(try dsimp only at hSw);obtain hS3:=hSw;go_simp;try with_reducible rfl
 simp only[Act.put,List.setIfInBounds_toArray,List.set_cons_zero,List.set_cons_succ]
 refine wpAnyH_ready (rs:=[14]) (by kernel_rfl) (by simp) ?_
 refine AllReadyH.cons rfl (fun K hK=> ?_) AllReadyH.nil
 go_simp
 refine hK.out _ _ (y3) (fun hHeld=> ?_)
 clear hK K
 (try simp only[Act.put,List.setIfInBounds_toArray,List.set_cons_zero,List.set_cons_succ])
 refine wpAnyH_ready (rs:=[15]) (by kernel_rfl) (by simp) ?_
 refine AllReadyH.cons rfl (fun K hK=> ?_) AllReadyH.nil
 go_simp
 refine hK.out _ _ (y3) (fun hHeld=> ?_)
 clear hK K
 (try simp only[Act.put,List.setIfInBounds_toArray,List.set_cons_zero,List.set_cons_succ])
 refine wpAnyH_done (by kernel_rfl) ?_ _
 go_wp2_with fail
 go_ret2
 obtain ⟨u1,u2⟩:=E2.out (by rw[HU.out];omega)
 rw[HU.out] at u1 u2
 obtain rfl:x2=o / 256%256:=by omega
 obtain rfl:y2=o%256:=by omega
 exact ⟨v9,rfl,ho9,(l2.trans (Lay.app q2 hs2 hg9)).below⟩
set_option maxHeartbeats 4000000 in
set_option maxRecDepth 100000 in
theorem w_rbytes4wh (c o:Int) (w:World) (o0: -9223372036854775808≤o) (o1:o < 9223372036854775808) (hc:cdd c=true) (hk:bhF c=4) (h1: -32768≤o) (h2:32767 < o):
  Calls Tryz.prog 27 #[.agg #[.int .i64 c, .int .u32 0, .string ⟨#[]⟩, .int .i64 o], .bool true] w fun e w'=>∃v1,e= .returned (.tuple #[v1, .bool false])∧Below w.heap.size w w':=by
 obtain ⟨i0,hi,hz0,hz1,hz2⟩:=info_parts infoU8
 have cI:=fun w=>w_coded c w
 rw[hc] at cI
 have cB:=fun w=>w_rbehind c w
 rw[hk] at cB
 have cC:=fun w=>w_rcode c w hc
 have hcl:(cbF c).length≤2:=by unfold cbF;split <;> simp
 clear hk hc
 obtain ⟨X,hX⟩:∃X,cbF c=X:=⟨_,rfl⟩
 rw[hX] at hcl
 simp only[hX] at cC
 clear hX
 have bw:=box_below w (.cells #[.int .i64 c, .int .u32 0, .string ⟨#[]⟩, .int .i64 o] 40)
 have sw:=stands_new w #[.int .i64 c, .int .u32 0, .string ⟨#[]⟩, .int .i64 o] 40
 have cT:=fun w=>w_rtwo (IntKind.i64.wrap (o+65536)) w (by rw[IntKind.wrap_i64];omega) (by rw[IntKind.wrap_i64];omega)
 have h3:decide (o≤32767)=false:=by simp;omega
 go_enter Tryz.func27,Tryz.ntmps27
 go_upto_region 23 with (first
  |(go_at_call_of 51 (Value.int .i64 c);refine (cC _).mono ?_;rintro e w1 ⟨v1,rfl,p1,b1⟩;have hs1:w.heap.size≤w1.heap.size:=(by have h8:=b1.size;rw[size_al] at h8;omega);have q1:=OwB.le p1 (b:=w.heap.size) (by rw[size_al];omega);have l1:=Lay.new (Nat.le_refl w.heap.size) (below_trans bw b1);have st1:=sw.below b1;have f0:=st1.cell 0 _ rfl;have f1:=st1.cell 1 _ rfl;have f2:=st1.cell 2 _ rfl;have f3:=st1.cell 3 _ rfl)
  |(go_at_call 17;refine (cB _).mono ?_;rintro e q ⟨rfl,hw⟩;obtain rfl:=hw.symm)
  |(go_at_call_of 50 (Value.int .i64 c);refine (cI _).mono ?_;rintro e q ⟨rfl,hw⟩;obtain rfl:=hw.symm))
 have bd:Below w1.heap.size w1 w1.drew:=below_drewN (Below.refl _ _) 1
 have K1:=(st1.below bd).cell 3 _ rfl
 refine wp_region_held_drew (S:=fun W=>W.cell? ⟨w.heap.size,3,none⟩=some (.int .i64 o)) (by kernel_rfl) (K1) (fun hHeld=> ?_)
 refine wpAnyH_take (i:=0) (v:= ?v55) rfl (by kernel_rfl) (by kernel_rfl) (by kernel_rfl) (fun _ _ _ h=>h) (Or.inl ⟨by kernel_rfl, ?h55⟩) hHeld ?r55
 case h55=>intro W hSw;(try dsimp only at hSw);obtain hS3:=hSw;go_simp;try with_reducible rfl
 simp only[Act.put,List.setIfInBounds_toArray,List.set_cons_zero,List.set_cons_succ]
 refine wpAnyH_take (i:=1) (v:= ?v56) rfl (by kernel_rfl) (by kernel_rfl) (by kernel_rfl) (fun _ _ _ h=>h) (Or.inl ⟨by kernel_rfl, ?h56⟩) hHeld ?r56
 case h56=>intro W hSw;(try dsimp only at hSw);obtain hS3:=hSw;go_simp;try with_reducible rfl
 simp only[Act.put,List.setIfInBounds_toArray,List.set_cons_zero,List.set_cons_succ]
 refine wpAnyH_take (i:=2) (v:= ?v57) rfl (by kernel_rfl) (by kernel_rfl) (by kernel_rfl) (fun _ _ _ h=>h) (Or.inl ⟨by kernel_rfl, ?h57⟩) hHeld ?r57
 case h57=>intro W hSw;(try dsimp only at hSw);obtain hS3:=hSw;go_simp;try with_reducible rfl
 simp only[Act.put,List.setIfInBounds_toArray,List.set_cons_zero,List.set_cons_succ]
 refine wpAnyH_take (i:=3) (v:= ?v58) rfl (by kernel_rfl) (by kernel_rfl) (by kernel_rfl) (fun _ _ _ h=>h) (Or.inl ⟨by kernel_rfl, ?h58⟩) hHeld ?r58
 case h58=>intro W hSw;(try dsimp only at hSw);obtain hS3:=hSw;go_simp;try with_reducible rfl
 simp only[Act.put,List.setIfInBounds_toArray,List.set_cons_zero,List.set_cons_succ]
 refine wpAnyH_take (i:=6) (v:= ?v59) rfl (by kernel_rfl) (by kernel_rfl) (by kernel_rfl) (fun _ _ _ h=>h) (Or.inl ⟨by kernel_rfl, ?h59⟩) hHeld ?r59
 case h59=>intro W hSw;(try dsimp only at hSw);obtain hS3:=hSw;go_simp;try with_reducible rfl
 simp only[Act.put,List.setIfInBounds_toArray,List.set_cons_zero,List.set_cons_succ]
 refine wpAnyH_take (i:=7) (v:= ?v60) rfl (by kernel_rfl) (by kernel_rfl) (by kernel_rfl) (fun _ _ _ h=>h) (Or.inl ⟨by kernel_rfl, ?h60⟩) hHeld ?r60
 case h60=>intro W hSw;(try dsimp only at hSw);obtain hS3:=hSw;go_simp;try with_reducible rfl
 simp only[Act.put,List.setIfInBounds_toArray,List.set_cons_zero,List.set_cons_succ]
 refine wpAnyH_take (i:=8) (v:= ?v61) rfl (by kernel_rfl) (by kernel_rfl) (by kernel_rfl) (fun _ _ _ h=>h) (Or.inl ⟨by kernel_rfl, ?h61⟩) hHeld ?r61
 case h61=>intro W hSw;(try dsimp only at hSw);obtain hS3:=hSw;go_simp;try with_reducible rfl
 simp only[Act.put,List.setIfInBounds_toArray,List.set_cons_zero,List.set_cons_succ]
 refine wpAnyH_ready (rs:=[4]) (by kernel_rfl) (by simp) ?_
 refine AllReadyH.cons rfl (fun K hK=> ?_) AllReadyH.nil
 go_simp
 go_wp2_with (first|(go_at_call 52;refine (cT _).mono ?_;rintro e w2 ⟨v2,x2,y2,rfl,p2,b2,e2⟩;have b3:=below_trans bd b2;have st2:=st1.below b3;have K2:=st2.cell 3 _ rfl;have q2:=OwB.below q1 b3;have hs2:w.heap.size≤w2.heap.size:=Nat.le_trans hs1 b3.size;have l2:=l1.trans (Lay.new hs1 b3);have E2:=hid e2;clear e2))
 refine hK.out _ _ (K2) (fun hHeld=> ?_)
 clear hK K
 (try simp only[Act.put,List.setIfInBounds_toArray,List.set_cons_zero,List.set_cons_succ])
 refine wpAnyH_ready (rs:=[5]) (by kernel_rfl) (by simp) ?_
 refine AllReadyH.cons rfl (fun K hK=> ?_) AllReadyH.nil
 refine step_append_rd (k:= .u8) rfl (.tmp 105) (.tmp 109) 29 rfl w.heap.size 5 i0 1 Tryz.underlying29 hi hz0 hz1 hz2 v1 X (by simp[Act.eval,Act.put]) q2 v2 [x2,y2] (by simp[Act.eval,Act.put]) (Rd_own p2).1 (by simp[maxLen];omega) (by simp;omega) hs2 ?_;intro v9 wn ho9 hg9;have y3:=(st2.agr (Lay.app q2 hs2 hg9).agr rfl (fun h=>h)).cell 3 _ rfl
 refine hK.out _ _ (y3) (fun hHeld=> ?_)
 clear hK K
 (try simp only[Act.put,List.setIfInBounds_toArray,List.set_cons_zero,List.set_cons_succ])
 refine wpAnyH_take (i:=9) (v:= ?v62) rfl (by kernel_rfl) (by kernel_rfl) (by kernel_rfl) (fun _ _ _ h=>h) (Or.inl ⟨by kernel_rfl, ?h62⟩) hHeld ?r62
 case h62=>intro W hSw;(try dsimp only at hSw);obtain hS3:=hSw;go_simp;try with_reducible rfl
 simp only[Act.put,List.setIfInBounds_toArray,List.set_cons_zero,List.set_cons_succ]
 refine wpAnyH_take (i:=10) (v:= ?v63) rfl (by kernel_rfl) (by kernel_rfl) (by kernel_rfl) (fun _ _ _ h=>h) (Or.inl ⟨by kernel_rfl, ?h63⟩) hHeld ?r63
 case h63=>intro W hSw;(try dsimp only at hSw);obtain hS3:=hSw;go_simp;try with_reducible rfl
 simp only[Act.put,List.setIfInBounds_toArray,List.set_cons_zero,List.set_cons_succ]
 refine wpAnyH_take (i:=11) (v:= ?v64) rfl (by kernel_rfl) (by kernel_rfl) (by kernel_rfl) (fun _ _ _ h=>h) (Or.inl ⟨by kernel_rfl, ?h64⟩) hHeld ?r64
 case h64=>intro W hSw;(try dsimp only at hSw);obtain hS3:=hSw;go_simp;try with_reducible rfl
 simp only[Act.put,List.setIfInBounds_toArray,List.set_cons_zero,List.set_cons_succ]
 refine wpAnyH_take (i:=12) (v:= ?v65) rfl (by kernel_rfl) (by kernel_rfl) (by kernel_rfl) (fun _ _ _ h=>h) (Or.inl ⟨by kernel_rfl, ?h65⟩) hHeld ?r65
 case h65=>intro W hSw;(try dsimp only at hSw);obtain hS3:=hSw;go_simp;try with_reducible rfl
 simp only[Act.put,List.setIfInBounds_toArray,List.set_cons_zero,List.set_cons_succ]
 refine wpAnyH_take (i:=13) (v:= ?v66) rfl (by kernel_rfl) (by kernel_rfl) (by kernel_rfl) (fun _ _ _ h=>h) (Or.inl ⟨by kernel_rfl, ?h66⟩) hHeld ?r66
 case h66=>intro W hSw;(try dsimp only at hSw);obtain hS3:=hSw;go_simp;try with_reducible rfl
 simp only[Act.put,List.setIfInBounds_toArray,List.set_cons_zero,List.set_cons_succ]
 refine wpAnyH_ready (rs:=[14]) (by kernel_rfl) (by simp) ?_
 refine AllReadyH.cons rfl (fun K hK=> ?_) AllReadyH.nil
 go_simp
 refine hK.out _ _ (y3) (fun hHeld=> ?_)
 clear hK K
 (try simp only[Act.put,List.setIfInBounds_toArray,List.set_cons_zero,List.set_cons_succ])
 refine wpAnyH_ready (rs:=[15]) (by kernel_rfl) (by simp) ?_
 refine AllReadyH.cons rfl (fun K hK=> ?_) AllReadyH.nil
 go_simp
 refine hK.out _ _ (y3) (fun hHeld=> ?_)
 clear hK K
 (try simp only[Act.put,List.setIfInBounds_toArray,List.set_cons_zero,List.set_cons_succ])
 refine wpAnyH_done (by kernel_rfl) ?_ _
 go_wp2_with fail
 go_ret2
 first|exact ⟨v9,rfl,(l2.trans (Lay.app q2 hs2 hg9)).below⟩|exact ⟨⟨v9,rfl⟩,(l2.trans (Lay.app q2 hs2 hg9)).below⟩
set_option maxHeartbeats 4000000 in
set_option maxRecDepth 100000 in
theorem w_rbytes4wl (c o:Int) (w:World) (o0: -9223372036854775808≤o) (o1:o < 9223372036854775808) (hc:cdd c=true) (hk:bhF c=4) (h1:o < -32768):
  Calls Tryz.prog 27 #[.agg #[.int .i64 c, .int .u32 0, .string ⟨#[]⟩, .int .i64 o], .bool true] w fun e w'=>∃v1,e= .returned (.tuple #[v1, .bool false])∧Below w.heap.size w w':=by
 obtain ⟨i0,hi,hz0,hz1,hz2⟩:=info_parts infoU8
 have cI:=fun w=>w_coded c w
 rw[hc] at cI
 have cB:=fun w=>w_rbehind c w
 rw[hk] at cB
 have cC:=fun w=>w_rcode c w hc
 have hcl:(cbF c).length≤2:=by unfold cbF;split <;> simp
 clear hk hc
 obtain ⟨X,hX⟩:∃X,cbF c=X:=⟨_,rfl⟩
 rw[hX] at hcl
 simp only[hX] at cC
 clear hX
 have bw:=box_below w (.cells #[.int .i64 c, .int .u32 0, .string ⟨#[]⟩, .int .i64 o] 40)
 have sw:=stands_new w #[.int .i64 c, .int .u32 0, .string ⟨#[]⟩, .int .i64 o] 40
 have cT:=fun w=>w_rtwo (IntKind.i64.wrap (o+65536)) w (by rw[IntKind.wrap_i64];omega) (by rw[IntKind.wrap_i64];omega)
 have h3:decide (-32768≤o)=false:=by simp;omega
 go_enter Tryz.func27,Tryz.ntmps27
 go_upto_region 23 with (first
  |(go_at_call_of 51 (Value.int .i64 c);refine (cC _).mono ?_;rintro e w1 ⟨v1,rfl,p1,b1⟩;have hs1:w.heap.size≤w1.heap.size:=(by have h8:=b1.size;rw[size_al] at h8;omega);have q1:=OwB.le p1 (b:=w.heap.size) (by rw[size_al];omega);have l1:=Lay.new (Nat.le_refl w.heap.size) (below_trans bw b1);have st1:=sw.below b1;have f0:=st1.cell 0 _ rfl;have f1:=st1.cell 1 _ rfl;have f2:=st1.cell 2 _ rfl;have f3:=st1.cell 3 _ rfl)
  |(go_at_call 17;refine (cB _).mono ?_;rintro e q ⟨rfl,hw⟩;obtain rfl:=hw.symm)
  |(go_at_call_of 50 (Value.int .i64 c);refine (cI _).mono ?_;rintro e q ⟨rfl,hw⟩;obtain rfl:=hw.symm))
 have bd:Below w1.heap.size w1 w1.drew:=below_drewN (Below.refl _ _) 1
 have K1:=(st1.below bd).cell 3 _ rfl
 refine wp_region_held_drew (S:=fun W=>W.cell? ⟨w.heap.size,3,none⟩=some (.int .i64 o)) (by kernel_rfl) (K1) (fun hHeld=> ?_)
 refine wpAnyH_take (i:=0) (v:= ?v67) rfl (by kernel_rfl) (by kernel_rfl) (by kernel_rfl) (fun _ _ _ h=>h) (Or.inl ⟨by kernel_rfl, ?h67⟩) hHeld ?r67
 case h67=>intro W hSw;(try dsimp only at hSw);obtain hS3:=hSw;go_simp;try with_reducible rfl
 simp only[Act.put,List.setIfInBounds_toArray,List.set_cons_zero,List.set_cons_succ]
 refine wpAnyH_take (i:=1) (v:= ?v68) rfl (by kernel_rfl) (by kernel_rfl) (by kernel_rfl) (fun _ _ _ h=>h) (Or.inl ⟨by kernel_rfl, ?h68⟩) hHeld ?r68
 case h68=>intro W hSw;(try dsimp only at hSw);obtain hS3:=hSw;go_simp;try with_reducible rfl
 simp only[Act.put,List.setIfInBounds_toArray,List.set_cons_zero,List.set_cons_succ]
 refine wpAnyH_take (i:=2) (v:= ?v69) rfl (by kernel_rfl) (by kernel_rfl) (by kernel_rfl) (fun _ _ _ h=>h) (Or.inl ⟨by kernel_rfl, ?h69⟩) hHeld ?r69
 case h69=>intro W hSw;(try dsimp only at hSw);obtain hS3:=hSw;go_simp;try with_reducible rfl
 simp only[Act.put,List.setIfInBounds_toArray,List.set_cons_zero,List.set_cons_succ]
 refine wpAnyH_take (i:=3) (v:= ?v70) rfl (by kernel_rfl) (by kernel_rfl) (by kernel_rfl) (fun _ _ _ h=>h) (Or.inl ⟨by kernel_rfl, ?h70⟩) hHeld ?r70
 case h70=>intro W hSw;(try dsimp only at hSw);obtain hS3:=hSw;go_simp;try with_reducible rfl
 simp only[Act.put,List.setIfInBounds_toArray,List.set_cons_zero,List.set_cons_succ]
 refine wpAnyH_take (i:=6) (v:= ?v71) rfl (by kernel_rfl) (by kernel_rfl) (by kernel_rfl) (fun _ _ _ h=>h) (Or.inl ⟨by kernel_rfl, ?h71⟩) hHeld ?r71
 case h71=>intro W hSw;(try dsimp only at hSw);obtain hS3:=hSw;go_simp;try with_reducible rfl
 simp only[Act.put,List.setIfInBounds_toArray,List.set_cons_zero,List.set_cons_succ]
 refine wpAnyH_take (i:=7) (v:= ?v72) rfl (by kernel_rfl) (by kernel_rfl) (by kernel_rfl) (fun _ _ _ h=>h) (Or.inl ⟨by kernel_rfl, ?h72⟩) hHeld ?r72
 case h72=>intro W hSw;(try dsimp only at hSw);obtain hS3:=hSw;go_simp;try with_reducible rfl
 simp only[Act.put,List.setIfInBounds_toArray,List.set_cons_zero,List.set_cons_succ]
 refine wpAnyH_take (i:=8) (v:= ?v73) rfl (by kernel_rfl) (by kernel_rfl) (by kernel_rfl) (fun _ _ _ h=>h) (Or.inl ⟨by kernel_rfl, ?h73⟩) hHeld ?r73
 case h73=>intro W hSw;(try dsimp only at hSw);obtain hS3:=hSw;go_simp;try with_reducible rfl
 simp only[Act.put,List.setIfInBounds_toArray,List.set_cons_zero,List.set_cons_succ]
 refine wpAnyH_ready (rs:=[4]) (by kernel_rfl) (by simp) ?_
 refine AllReadyH.cons rfl (fun K hK=> ?_) AllReadyH.nil
 go_simp
 go_wp2_with (first|(go_at_call 52;refine (cT _).mono ?_;rintro e w2 ⟨v2,x2,y2,rfl,p2,b2,e2⟩;have b3:=below_trans bd b2;have st2:=st1.below b3;have K2:=st2.cell 3 _ rfl;have q2:=OwB.below q1 b3;have hs2:w.heap.size≤w2.heap.size:=Nat.le_trans hs1 b3.size;have l2:=l1.trans (Lay.new hs1 b3);have E2:=hid e2;clear e2))
 refine hK.out _ _ (K2) (fun hHeld=> ?_)
 clear hK K
 (try simp only[Act.put,List.setIfInBounds_toArray,List.set_cons_zero,List.set_cons_succ])
 refine wpAnyH_ready (rs:=[5]) (by kernel_rfl) (by simp) ?_
 refine AllReadyH.cons rfl (fun K hK=> ?_) AllReadyH.nil
 refine step_append_rd (k:= .u8) rfl (.tmp 105) (.tmp 109) 29 rfl w.heap.size 5 i0 1 Tryz.underlying29 hi hz0 hz1 hz2 v1 X (by simp[Act.eval,Act.put]) q2 v2 [x2,y2] (by simp[Act.eval,Act.put]) (Rd_own p2).1 (by simp[maxLen];omega) (by simp;omega) hs2 ?_;intro v9 wn ho9 hg9;have y3:=(st2.agr (Lay.app q2 hs2 hg9).agr rfl (fun h=>h)).cell 3 _ rfl
 refine hK.out _ _ (y3) (fun hHeld=> ?_)
 clear hK K
 (try simp only[Act.put,List.setIfInBounds_toArray,List.set_cons_zero,List.set_cons_succ])
 refine wpAnyH_take (i:=9) (v:= ?v74) rfl (by kernel_rfl) (by kernel_rfl) (by kernel_rfl) (fun _ _ _ h=>h) (Or.inl ⟨by kernel_rfl, ?h74⟩) hHeld ?r74
 case h74=>intro W hSw;(try dsimp only at hSw);obtain hS3:=hSw;go_simp;try with_reducible rfl
 simp only[Act.put,List.setIfInBounds_toArray,List.set_cons_zero,List.set_cons_succ]
 refine wpAnyH_take (i:=10) (v:=undef) rfl (by kernel_rfl) (by kernel_rfl) (by kernel_rfl) (fun _ _ _ h=>h) (Or.inr ⟨by kernel_rfl,rfl⟩) hHeld ?_
 simp only[Act.put,List.setIfInBounds_toArray,List.set_cons_zero,List.set_cons_succ]
 refine wpAnyH_take (i:=11) (v:=undef) rfl (by kernel_rfl) (by kernel_rfl) (by kernel_rfl) (fun _ _ _ h=>h) (Or.inr ⟨by kernel_rfl,rfl⟩) hHeld ?_
 simp only[Act.put,List.setIfInBounds_toArray,List.set_cons_zero,List.set_cons_succ]
 refine wpAnyH_take (i:=12) (v:=undef) rfl (by kernel_rfl) (by kernel_rfl) (by kernel_rfl) (fun _ _ _ h=>h) (Or.inr ⟨by kernel_rfl,rfl⟩) hHeld ?_
 simp only[Act.put,List.setIfInBounds_toArray,List.set_cons_zero,List.set_cons_succ]
 refine wpAnyH_take (i:=13) (v:= ?v78) rfl (by kernel_rfl) (by kernel_rfl) (by kernel_rfl) (fun _ _ _ h=>h) (Or.inl ⟨by kernel_rfl, ?h78⟩) hHeld ?r78
 case h78=>intro W hSw;(try dsimp only at hSw);obtain hS3:=hSw;go_simp;try with_reducible rfl
 simp only[Act.put,List.setIfInBounds_toArray,List.set_cons_zero,List.set_cons_succ]
 refine wpAnyH_ready (rs:=[14]) (by kernel_rfl) (by simp) ?_
 refine AllReadyH.cons rfl (fun K hK=> ?_) AllReadyH.nil
 go_simp
 refine hK.out _ _ (y3) (fun hHeld=> ?_)
 clear hK K
 (try simp only[Act.put,List.setIfInBounds_toArray,List.set_cons_zero,List.set_cons_succ])
 refine wpAnyH_ready (rs:=[15]) (by kernel_rfl) (by simp) ?_
 refine AllReadyH.cons rfl (fun K hK=> ?_) AllReadyH.nil
 go_simp
 refine hK.out _ _ (y3) (fun hHeld=> ?_)
 clear hK K
 (try simp only[Act.put,List.setIfInBounds_toArray,List.set_cons_zero,List.set_cons_succ])
 refine wpAnyH_done (by kernel_rfl) ?_ _
 go_wp2_with fail
 go_ret2
 first|exact ⟨v9,rfl,(l2.trans (Lay.app q2 hs2 hg9)).below⟩|exact ⟨⟨v9,rfl⟩,(l2.trans (Lay.app q2 hs2 hg9)).below⟩
set_option maxHeartbeats 4000000 in
set_option maxRecDepth 100000 in
theorem w_rbytes4 (c n o:Int) (S:ByteArray) (wide:Bool) (w:World) (n0:0≤n) (n1:n < 4294967296) (o0: -9223372036854775808≤o) (o1:o < 9223372036854775808) (hs:S.size≤maxLen) (hc:cdd c=true) (hk:bhF c=4):
  Calls Tryz.prog 27 #[.agg #[.int .i64 c, .int .u32 n, .string S, .int .i64 o], .bool wide] w fun e w'=>∃v1,e= .returned (.tuple #[v1, .bool (okB 4 ⟨c,n,LB S,o⟩ wide)])∧(okB 4 ⟨c,n,LB S,o⟩ wide=true→OwB w.heap.size w' v1 (cbF c++beQ 4 ⟨c,n,LB S,o⟩ wide))∧Below w.heap.size w w':=by
 obtain ⟨i0,hi,hz0,hz1,hz2⟩:=info_parts infoU8
 have hs2:=hs
 unfold maxLen at hs2
 have cI:=fun w=>w_coded c w
 rw[hc] at cI
 have cB:=fun w=>w_rbehind c w
 rw[hk] at cB
 have cC:=fun w=>w_rcode c w hc
 have HC:=hid hc
 have HK:=hid hk
 clear hc hk
 rcases Decidable.em (¬n=0) with hn|hn
 ·have e:okB 4 ⟨c,n,LB S,o⟩ wide=false:=by simp[okB,hn]
  rw[e]
  have q1:(n !=0)=true:=by simpa using hn
  have bw:=box_below w (.cells #[.int .i64 c, .int .u32 n, .string S, .int .i64 o] 40)
  clear e hn cC
  go_enter Tryz.func27,Tryz.ntmps27
  go_wp2_with (first
   |(go_at_call 17;refine (cB _).mono ?_;rintro e q ⟨rfl,hw⟩;obtain rfl:=hw.symm)
   |(go_at_call_of 50 (Value.int .i64 c);refine (cI _).mono ?_;rintro e q ⟨rfl,hw⟩;obtain rfl:=hw.symm))
  go_ret2
  exact ⟨_,rfl,(by intro h;cases h),bw⟩
 ·have hn:=Decidable.not_not.1 hn
  subst hn
  rcases Decidable.em (¬LB S=[]) with hS|hS
  ·have e:okB 4 ⟨c,0,LB S,o⟩ wide=false:=by simp[okB,hS]
   rw[e]
   have q0:S.toList.isEmpty=false:=by rw[nil_emp];simpa using hS
   have q1:(S.toList !=(⟨#[]⟩:ByteArray).toList)=true:=by simp only[bne,nil_beq];simpa using hS
   have q2:(S.toList !=[])=true:=by simp only[bne];rw[show (S.toList==[])=S.toList.isEmpty by cases S.toList <;> rfl,q0];rfl
   have bw:=box_below w (.cells #[.int .i64 c, .int .u32 0, .string S, .int .i64 o] 40)
   clear e hS cC
   go_enter Tryz.func27,Tryz.ntmps27
   go_wp2_with (first
    |(go_at_call 17;refine (cB _).mono ?_;rintro e q ⟨rfl,hw⟩;obtain rfl:=hw.symm)
    |(go_at_call_of 50 (Value.int .i64 c);refine (cI _).mono ?_;rintro e q ⟨rfl,hw⟩;obtain rfl:=hw.symm))
   go_ret2
   exact ⟨_,rfl,(by intro h;cases h),bw⟩
  ·have hS:=Decidable.not_not.1 hS
   obtain rfl:S=⟨#[]⟩:=by rw[LB_eq,hS];rfl
   have bw:=box_below w (.cells #[.int .i64 c, .int .u32 0, .string ⟨#[]⟩, .int .i64 o] 40)
   have sw:=stands_new w #[.int .i64 c, .int .u32 0, .string ⟨#[]⟩, .int .i64 o] 40
   clear sw bw cC cB cI
   have e0:LB ⟨#[]⟩=[]:=rfl
   cases wide with
   |true=>
    by_cases h1:o < -32768
    ·have e:okB 4 ⟨c,0,LB ⟨#[]⟩,o⟩ true=false:=by simp[okB,offF];omega
     rw[e]
     exact (w_rbytes4wl c o w o0 o1 HC.out HK.out h1).mono (by rintro e w2 ⟨v2,rfl,b⟩;exact ⟨v2,rfl,(by intro h;cases h),b⟩)
    by_cases h2:32767 < o
    ·have e:okB 4 ⟨c,0,LB ⟨#[]⟩,o⟩ true=false:=by simp[okB,offF];omega
     rw[e]
     exact (w_rbytes4wh c o w o0 o1 HC.out HK.out (by omega) h2).mono (by rintro e w2 ⟨v2,rfl,b⟩;exact ⟨v2,rfl,(by intro h;cases h),b⟩)
    ·have e:okB 4 ⟨c,0,LB ⟨#[]⟩,o⟩ true=true:=by simp[okB,offF,e0];omega
     rw[e]
     exact (w_rbytes4w c o w o0 o1 HC.out HK.out (by omega) (by omega)).mono (by rintro e w2 ⟨v2,rfl,q,b⟩;exact ⟨v2,rfl,fun _=>q,b⟩)
   |false=>
    by_cases h1:o < -128
    ·have e:okB 4 ⟨c,0,LB ⟨#[]⟩,o⟩ false=false:=by simp[okB,offF];omega
     rw[e]
     exact (w_rbytes4nl c o w o0 o1 HC.out HK.out h1).mono (by rintro e w2 ⟨v2,rfl,b⟩;exact ⟨v2,rfl,(by intro h;cases h),b⟩)
    by_cases h2:127 < o
    ·have e:okB 4 ⟨c,0,LB ⟨#[]⟩,o⟩ false=false:=by simp[okB,offF];omega
     rw[e]
     exact (w_rbytes4nh c o w o0 o1 HC.out HK.out (by omega) h2).mono (by rintro e w2 ⟨v2,rfl,b⟩;exact ⟨v2,rfl,(by intro h;cases h),b⟩)
    ·have e:okB 4 ⟨c,0,LB ⟨#[]⟩,o⟩ false=true:=by simp[okB,offF,e0];omega
     rw[e]
     exact (w_rbytes4n c o w o0 o1 HC.out HK.out (by omega) (by omega)).mono (by rintro e w2 ⟨v2,rfl,q,b⟩;exact ⟨v2,rfl,fun _=>q,b⟩)
set_option maxHeartbeats 1000000 in
set_option maxRecDepth 100000 in
theorem w_rbytes (c n o:Int) (S:ByteArray) (wide:Bool) (w:World) (n0:0≤n) (n1:n < 4294967296) (o0: -9223372036854775808≤o) (o1:o < 9223372036854775808) (hs:S.size≤maxLen):
  Calls Tryz.prog 27 #[.agg #[.int .i64 c, .int .u32 n, .string S, .int .i64 o], .bool wide] w fun e w'=>∃v1,e= .returned (.tuple #[v1, .bool (okQ ⟨c,n,LB S,o⟩ wide)])∧(okQ ⟨c,n,LB S,o⟩ wide=true→OwB w.heap.size w' v1 (byQ ⟨c,n,LB S,o⟩ wide))∧Below w.heap.size w w':=by
 cases hc:cdd c with
 |true=>
  have e:okQ ⟨c,n,LB S,o⟩ wide=okB (bhF c) ⟨c,n,LB S,o⟩ wide:=by simp[okQ,hc]
  rw[e]
  unfold byQ
  have hk:=bh_le c
  obtain ⟨k,hkk⟩:∃k,bhF c=k:=⟨_,rfl⟩
  simp only[hkk]
  rw[hkk] at hk
  match k,hk with
  |0,_=>exact w_rbytes0 c n o S wide w n0 n1 hs hc hkk
  |1,_=>exact w_rbytes1 c n o S wide w n0 n1 hs hc hkk
  |2,_=>exact w_rbytes2 c n o S wide w n0 n1 hs hc hkk
  |3,_=>exact w_rbytes3 c n o S wide w n0 n1 hs hc hkk
  |4,_=>exact w_rbytes4 c n o S wide w n0 n1 o0 o1 hs hc hkk
  |5,_=>exact w_rbytes5 c n o S wide w n0 n1 hs hc hkk
  |6,_=>exact w_rbytes6 c n o S wide w n0 n1 hs hc hkk
 |false=>
  have e:okQ ⟨c,n,LB S,o⟩ wide=false:=by simp[okQ,hc]
  rw[e]
  have cI:=fun w=>w_coded c w
  rw[hc] at cI
  have bw:=box_below w (.cells #[.int .i64 c, .int .u32 n, .string S, .int .i64 o] 40)
  clear hc e
  go_enter Tryz.func27,Tryz.ntmps27
  go_wp2_with (go_at_call 50;refine (cI _).mono ?_;rintro e w1 ⟨rfl,hw⟩;obtain rfl:=hw.symm)
  go_ret2
  exact ⟨_,rfl,(by intro h;cases h),bw⟩
set_option maxHeartbeats 1000000 in
theorem w_rsize (c n o:Int) (S:ByteArray) (wide:Bool) (w:World) (n0:0≤n) (n1:n < 4294967296) (o0: -9223372036854775808≤o) (o1:o < 9223372036854775808) (hs:S.size≤maxLen):
  Calls Tryz.prog 16 #[.agg #[.int .i64 c, .int .u32 n, .string S, .int .i64 o], .bool wide] w fun e w'=>e= .returned (.int .i64 (sizF ⟨c,n,LB S,o⟩ wide:Nat))∧Below w.heap.size w w':=by
 have cB:=fun w=>w_rbytes c n o S wide w n0 n1 o0 o1 hs
 have bw:=box_below w (.cells #[.int .i64 c, .int .u32 n, .string S, .int .i64 o] 40)
 cases hk:okQ ⟨c,n,LB S,o⟩ wide with
 |true=>
  have hq:sizF ⟨c,n,LB S,o⟩ wide=(byQ ⟨c,n,LB S,o⟩ wide).length:=by simp[sizF,hk]
  rw[hq]
  rw[hk] at cB
  clear hq hk
  go_enter Tryz.func16,Tryz.ntmps16
  go_wp2_with (go_at_call 27;refine (cB _).mono ?_;rintro e w2 ⟨v2,rfl,o2,b2⟩;have hl2:=rd_len (Rd_own (o2 rfl)).1 uB (P:=Tryz.prog))
  go_ret
  exact ⟨rfl,below_trans bw b2⟩
 |false=>
  have hq:sizF ⟨c,n,LB S,o⟩ wide=0:=by simp[sizF,hk]
  rw[hq]
  rw[hk] at cB
  clear hq hk
  go_enter Tryz.func16,Tryz.ntmps16
  go_wp2_with (go_at_call 27;refine (cB _).mono ?_;rintro e w2 ⟨v2,rfl,o2,b2⟩)
  go_ret
  exact ⟨rfl,below_trans bw b2⟩
end Go.Proofs.YtkkehbdahniiaaaGreatDoor
