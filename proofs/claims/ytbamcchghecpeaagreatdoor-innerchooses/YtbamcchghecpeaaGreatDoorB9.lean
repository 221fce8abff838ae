import Derived.Scope
import Derived.ScopeJumps
import Derived.Test.YtbamcchghecpeaaGreatDoorB8
set_option linter.unusedVariables false
set_option linter.unusedSimpArgs false
set_option maxRecDepth 100000
namespace Go.Proofs.YtbamcchghecpeaaGreatDoor
open Go.ChangeShapes Go.WideShapes Go.ChangeAt Go.RowKit
theorem RunL.put25 {B:Nat} {D:Nat→Prop} {w:World} {q:Nat} {s b:Sv} {vf:Value} {fs:List Fm} {nxt fuel thr:Int} (h:RunL B D w q s b vf fs nxt fuel thr) (n:Int):RunL B D (w.setCell ⟨q,25,none⟩ (.int .i64 n)) q s b vf fs nxt n thr∧Below B w (w.setCell ⟨q,25,none⟩ (.int .i64 n)):=by
 have g1:w.grownBy (w.setCell ⟨q,25,none⟩ (.int .i64 n)) (some q):=gb_set (gb_refl _ _) 25 _
 exact ⟨h.upd (s':=s) g1 (h.st.set 25 _) (h.hs.agr (h.agr g1)) (h.hb.agr (h.agr g1)) rfl rfl rfl rfl h.bw h.bi,h.low g1⟩
theorem w_stepA {B:Nat} {D:Nat→Prop} {w:World} {q:Nat} {s b:Sv} {vf:Value} {fs:List Fm} {nxt fuel thr:Int} (h:RunL B D w q s b vf fs nxt fuel thr) (h0:0 < fuel) (h1:fuel≤100000):
  Calls Tryz.prog 78 #[.pointer (some ⟨q,0,none⟩)] w fun e w'=>e= .returned (.int .i64 0)∧RunL B D w' q s b vf fs nxt (fuel - 1) thr∧Below B w w'∧w.grownBy w' (some q):=by
 refine (w_step1 q _ _ fuel w h.st rfl h0 h1).mono ?_
 rintro e w2 ⟨rfl,rfl⟩
 exact ⟨rfl,(h.put25 _).1,(h.put25 _).2,gb_set (gb_refl _ _) _ _⟩
theorem w_stepN {B:Nat} {D:Nat→Prop} {w:World} {q:Nat} {s b:Sv} {vf:Value} {fs:List Fm} {nxt thr:Int} (h:RunL B D w q s b vf fs nxt 0 thr):
  Calls Tryz.prog 78 #[.pointer (some ⟨q,0,none⟩)] w fun e w'=>e= .returned (.int .i64 11)∧w'=w:=w_step0 q _ _ w h.st rfl
theorem NxP.ot {B:Nat} {D:Nat→Prop} {q:Nat} {s b:Sv} {fs:List Fm} {fuel thr:Int} {w w':World} {nx:Nx} {e:Ending} (h:NxP B D q s b fs fuel w nx (fun E=> .returned (.int .i64 E)) e w'):OtP B D q s b fuel w (nxO (toR s fs thr) fs nx) rtE e w':=by
 obtain ⟨L,s',vf',fs',nxt',thr',E,he,hr,hw,hi,m⟩:=h
 cases nx with
 |done r e'=>
  obtain ⟨rfl,rfl,rfl,rfl,p⟩:=m
  exact ⟨he,L,s',vf',hr,p,fun _=>⟨hw,hi⟩⟩
 |exec x r=>
  obtain ⟨rfl,rfl,rfl,rfl,p,p'⟩:=m
  exact ⟨he,L,s',vf',hr,fun _=>⟨p,p'⟩,fun _=>⟨hw,hi⟩⟩
 |«catch» x r=>
  obtain ⟨rfl,rfl,rfl,rfl,p,p'⟩:=m
  exact ⟨he,L,s',vf',hr,fun _=>⟨p,p'⟩,fun _=>⟨hw,hi⟩⟩
 |meth x r=>
  obtain ⟨rfl,rfl,rfl,rfl,p,p'⟩:=m
  exact ⟨he,L,s',vf',hr,fun _=>⟨p,p'⟩,fun _=>⟨hw,hi⟩⟩
set_option maxHeartbeats 1000000 in
theorem w_begin0 {B:Nat} {D:Nat→Prop} {w:World} {q:Nat} {s b:Sv} {vf:Value} {fs:List Fm} {xt thr:Int} (h:RunL B D w q s b vf fs xt 0 thr):
  Calls Tryz.prog 60 #[.pointer (some ⟨q,0,none⟩)] w fun e w'=>e= .returned (.int .i64 11)∧Below B w w'∧RunL B D w' q s b vf fs (-1) 0 thr:=by
 have f24:=h.c24
 have ff:=h.st.free 24
 have P:=hid (h.put24 (-1))
 have c:=w_stepN P.out.1
 clear h
 go_enter Tryz.func60,Tryz.ntmps60
 go_wp2_with (go_at_call 78;refine c.mono ?_;rintro e w2 ⟨rfl,rfl⟩)
 go_ret
 exact ⟨rfl,P.out.2,P.out.1⟩
set_option maxHeartbeats 2000000 in
theorem w_beginN {B:Nat} {D:Nat→Prop} {w:World} {q:Nat} {s b:Sv} {vf:Value} {fs:List Fm} {fuel thr:Int} (k:Nat) (h:RunL B D w q s b vf fs (k:Int) fuel thr) (ok:Okr (toR s fs thr)) (hl:fs.length≤1000000) (hb0:0≤bsF fs) (f0:0 < fuel) (f1:fuel≤100000) (hk:k < s.m.words.length) (hd:dpF fs≤32) (hkd:s.m.words[k].2.2.1=3∨s.m.words[k].2.2.1=4∨s.m.words[k].2.2.1=5):
  Calls Tryz.prog 60 #[.pointer (some ⟨q,0,none⟩)] w (OtP B D q s b (fuel - 1) w (begO (k:Int) (toR s fs thr) fs) rtE):=by
 have hsl:s.m.stack.length≤64:=h64_of ok
 have eW:iWd (toR s fs thr) (k:Int)=s.m.words[k]:=by
  unfold iWd
  rw[show (toR s fs thr).m.words=s.m.words from rfl,Int.toNat_natCast,List.getD_eq_getElem?_getD,List.getElem?_eq_getElem hk]
  rfl
 have hnum:=wd_num ok (k:Int)
 rw[eW] at hnum
 have f24:=h.c24
 have ff:=h.st.free 24
 have P:=hid (h.put24 (-1))
 have c1:=w_stepA P.out.1 f0 f1
 obtain ⟨wd,hwd⟩:∃x,s.m.words[k]=x:=⟨_,rfl⟩
 rw[hwd] at hnum eW hkd
 obtain ⟨NM,hNM⟩:∃x,strOfNums wd.1=x:=⟨_,rfl⟩
 obtain ⟨ND,hND⟩:∃x,wd.2.1=x:=⟨_,rfl⟩
 obtain ⟨KD,hKD⟩:∃x,wd.2.2.1=x:=⟨_,rfl⟩
 obtain ⟨NX,hNX⟩:∃x,wd.2.2.2.1=x:=⟨_,rfl⟩
 rw[hNX] at hnum
 rw[hKD] at hkd
 have eO:begO (k:Int) (toR s fs thr) fs=⟨(iSwp (toR s fs thr) 0 [NX]).1.m,s.ret,fs, -1,thr,(iSwp (toR s fs thr) 0 [NX]).2⟩:=by
  unfold begO
  dsimp only
  rw[eW,hKD,hNX,if_neg (by omega),if_neg (by omega),if_pos hkd]
  rfl
 rw[eO]
 obtain ⟨A,hA⟩:∃A,iSwp (toR s fs thr) 0 [NX]=A:=⟨_,rfl⟩
 rw[hA]
 have HA:=hid hA
 have HKD:=hid hKD
 have HNX:=hid hNX
 have HKK:=hid hkd
 clear eW eO hKD hNX hkd hA
 have C1:=hid c1
 have HWD:=hid hwd
 have HNM:=hid hNM
 have HND:=hid hND
 clear h c1 hNM hND hwd
 go_enter Tryz.func60,Tryz.ntmps60
 go_upto_region 6 with (go_at_call 78;refine C1.out.mono ?_;rintro e w2 ⟨rfl,h2,b2,g2⟩)
 obtain ⟨g,cap,vc,ev, -,hcl,sc⟩:=h2.wdAt k hk
 obtain ⟨va,vq,evc⟩:=slr_slice sc.now
 obtain ⟨vl,hvl⟩:∃l,s.m.words[k].2.2.2.2.length=l:=⟨_,rfl⟩
 rw[hvl] at evc
 subst evc
 have k0:=hcl 0 _ rfl
 rw[Nat.add_zero] at k0
 have k1:=hcl 1 _ rfl
 have k2:=hcl 2 _ rfl
 have k3:=hcl 3 _ rfl
 have k4:=hcl 4 _ rfl
 rw[HWD.out,HNM.out] at k0
 rw[HWD.out,HND.out] at k1
 rw[HWD.out,HKD.out] at k2
 rw[HWD.out,HNX.out] at k3
 have hix:=idx_wd .i64 g s.m.words.length cap k hk
 have f2:=h2.c2
 rw[ev] at f2
 have bb:=box_below w2 (.cells #[.string NM, .int .i64 ND, .int .i64 KD, .int .u32 NX, .slice va vl vq] 59)
 have h3:=h2.below bb
 have st3:=stands_new w2 #[.string NM, .int .i64 ND, .int .i64 KD, .int .u32 NX, .slice va vl vq] 59
 have hqb:¬w2.heap.size=q:=by have:=st_lt h2.st;omega
 have L3:Hid (Below B w (w2.alloc (.cells #[.string NM, .int .i64 ND, .int .i64 KD, .int .u32 NX, .slice va vl vq] 59))):=hid (Below.trans P.out.2 (Below.trans b2 (h2.low (gb_of bb))))
 clear hcl sc ev hvl h2 bb
 go_upto_region 7 with fail
 generalize hW:(w2.alloc (.cells #[.string NM, .int .i64 ND, .int .i64 KD, .int .u32 NX, .slice va vl vq] 59))=w3 at*
 clear hW k0 k1 k2 k3 k4 hix f2
 have y2:=st3.cell 2 _ rfl
 have y3:=st3.cell 3 _ rfl
 have hkd:=HKK.out
 rcases hkd with hkd|hkd|hkd
 ·subst hkd
  go_upto_region 11 with fail
  have ba:Below w3.heap.size w3 (w3.alloc (.cells #[.int .u32 NX] 26)).drew:=below_trans (box_below _ _) (below_drewN (Below.refl _ _) 1)
  have h4:=h3.below ba
  have cl:=w_leaveAg h4 (.slice (some ⟨w3.heap.size,0,none⟩) 1 1) [NX] ((rd_one w3 NX 26).below (below_drewN (Below.refl _ _) 1)) hsl (by simp)
  rw[HA.out] at cl
  have ST4:=hid (st3.below ba)
  have K1:Hid (w3.drew.cell? ⟨w2.heap.size,3,none⟩=some (.int .u32 NX)):=hid ((st3.below (below_drewN (Below.refl _ _) 1)).cell 3 _ rfl)
  have K3:Hid ((w3.alloc (.cells #[.int .u32 NX] 26)).drew.cell? ⟨w2.heap.size,3,none⟩=some (.int .u32 NX)):=hid (ST4.out.cell 3 _ rfl)
  have L4:Hid (Below B w (w3.alloc (.cells #[.int .u32 NX] 26)).drew):=hid (Below.trans L3.out (h3.low (gb_of ba)))
  clear h3 h4 ba st3 y2 y3
  go_wp2_with fail
  refine wp_region_held_drew (S:=fun W=>W.cell? ⟨w2.heap.size,3,none⟩=some (.int .u32 NX)) (by kernel_rfl) (K1.out) (fun hHeld=> ?_)
  refine wpAnyH_take (i:=0) (v:= ?v1) rfl (by kernel_rfl) (by kernel_rfl) (by kernel_rfl) (fun _ _ _ h=>h) (Or.inl ⟨by kernel_rfl, ?h1⟩) hHeld ?r1
  case h1=>intro W hSw;(try dsimp only at hSw);obtain s0:=hSw;go_simp;try with_reducible rfl
  simp only[Act.put,List.setIfInBounds_toArray,List.set_cons_zero,List.set_cons_succ]
  refine wpAnyH_take (i:=1) (v:= ?v2) rfl (by kernel_rfl) (by kernel_rfl) (by kernel_rfl) (fun _ _ _ h=>h) (Or.inl ⟨by kernel_rfl, ?h2⟩) hHeld ?r2
  case h2=>intro W hSw;(try dsimp only at hSw);obtain s0:=hSw;go_simp;try with_reducible rfl
  simp only[Act.put,List.setIfInBounds_toArray,List.set_cons_zero,List.set_cons_succ]
  refine wpAnyH_take (i:=2) (v:= ?v3) rfl (by kernel_rfl) (by kernel_rfl) (by kernel_rfl) (fun _ _ _ h=>h) (Or.inl ⟨by kernel_rfl, ?h3⟩) hHeld ?r3
  case h3=>intro W hSw;(try dsimp only at hSw);obtain s0:=hSw;go_simp;try with_reducible rfl
  simp only[Act.put,List.setIfInBounds_toArray,List.set_cons_zero,List.set_cons_succ]
  refine wpAnyH_take (i:=3) (v:= ?v4) rfl (by kernel_rfl) (by kernel_rfl) (by kernel_rfl) (fun _ _ _ h=>h) (Or.inl ⟨by kernel_rfl, ?h4⟩) hHeld ?r4
  case h4=>intro W hSw;(try dsimp only at hSw);obtain s0:=hSw;go_simp;try with_reducible rfl
  simp only[Act.put,List.setIfInBounds_toArray,List.set_cons_zero,List.set_cons_succ]
  refine wpAnyH_take (i:=4) (v:= ?v5) rfl (by kernel_rfl) (by kernel_rfl) (by kernel_rfl) (fun _ _ _ h=>h) (Or.inl ⟨by kernel_rfl, ?h5⟩) hHeld ?r5
  case h5=>intro W hSw;(try dsimp only at hSw);obtain s0:=hSw;go_simp;try with_reducible rfl
  simp only[Act.put,List.setIfInBounds_toArray,List.set_cons_zero,List.set_cons_succ]
  refine wpAnyH_ready (rs:=[5]) (by kernel_rfl) (by simp) ?_
  refine AllReadyH.cons rfl (fun K hK=> ?_) AllReadyH.nil
  go_simp
  refine hK.out _ _ (K3.out) (fun hHeld=> ?_)
  clear hK K
  (try simp only[Act.put,List.setIfInBounds_toArray,List.set_cons_zero,List.set_cons_succ])
  refine wpAnyH_ready (rs:=[6]) (by kernel_rfl) (by simp) ?_
  refine AllReadyH.cons rfl (fun K hK=> ?_) AllReadyH.nil
  go_simp
  go_wp2_with (first|(go_at_call 79;refine cl.mono ?_;rintro e w5 ⟨v5,l5,rfl,h5,b5,p5,n5,g5⟩;have K5:Hid (w5.cell? ⟨w2.heap.size,3,none⟩=some (.int .u32 NX)):=hid ((st_gb ST4.out g5 hqb).cell 3 _ rfl)))
  refine hK.out _ _ (K5.out) (fun hHeld=> ?_)
  clear hK K
  (try simp only[Act.put,List.setIfInBounds_toArray,List.set_cons_zero,List.set_cons_succ])
  refine wpAnyH_ready (rs:=[7]) (by kernel_rfl) (by simp) ?_
  refine AllReadyH.cons rfl (fun K hK=> ?_) AllReadyH.nil
  go_simp
  refine hK.out _ _ (K5.out) (fun hHeld=> ?_)
  clear hK K
  (try simp only[Act.put,List.setIfInBounds_toArray,List.set_cons_zero,List.set_cons_succ])
  refine wpAnyH_done (by kernel_rfl) ?_ _
  go_wp2_with fail
  go_ret
  refine ⟨rfl,Below.trans L4.out b5,_,_,h5,fun e=> ?_,fun _=>⟨rfl,rfl⟩⟩
  obtain ⟨p6,p7⟩:=p5 e
  subst p6
  refine ⟨?_,rfl⟩
  rw[p7]
  rfl
 ·subst hkd
  go_upto_region 11 with fail
  have ba:Below w3.heap.size w3 (w3.alloc (.cells #[.int .u32 NX] 26)).drew:=below_trans (box_below _ _) (below_drewN (Below.refl _ _) 1)
  have h4:=h3.below ba
  have cl:=w_leaveAg h4 (.slice (some ⟨w3.heap.size,0,none⟩) 1 1) [NX] ((rd_one w3 NX 26).below (below_drewN (Below.refl _ _) 1)) hsl (by simp)
  rw[HA.out] at cl
  have ST4:=hid (st3.below ba)
  have K1:Hid (w3.drew.cell? ⟨w2.heap.size,3,none⟩=some (.int .u32 NX)):=hid ((st3.below (below_drewN (Below.refl _ _) 1)).cell 3 _ rfl)
  have K3:Hid ((w3.alloc (.cells #[.int .u32 NX] 26)).drew.cell? ⟨w2.heap.size,3,none⟩=some (.int .u32 NX)):=hid (ST4.out.cell 3 _ rfl)
  have L4:Hid (Below B w (w3.alloc (.cells #[.int .u32 NX] 26)).drew):=hid (Below.trans L3.out (h3.low (gb_of ba)))
  clear h3 h4 ba st3 y2 y3
  go_wp2_with fail
  refine wp_region_held_drew (S:=fun W=>W.cell? ⟨w2.heap.size,3,none⟩=some (.int .u32 NX)) (by kernel_rfl) (K1.out) (fun hHeld=> ?_)
  refine wpAnyH_take (i:=0) (v:= ?v6) rfl (by kernel_rfl) (by kernel_rfl) (by kernel_rfl) (fun _ _ _ h=>h) (Or.inl ⟨by kernel_rfl, ?h6⟩) hHeld ?r6
  case h6=>intro W hSw;(try dsimp only at hSw);obtain s0:=hSw;go_simp;try with_reducible rfl
  simp only[Act.put,List.setIfInBounds_toArray,List.set_cons_zero,List.set_cons_succ]
  refine wpAnyH_take (i:=1) (v:= ?v7) rfl (by kernel_rfl) (by kernel_rfl) (by kernel_rfl) (fun _ _ _ h=>h) (Or.inl ⟨by kernel_rfl, ?h7⟩) hHeld ?r7
  case h7=>intro W hSw;(try dsimp only at hSw);obtain s0:=hSw;go_simp;try with_reducible rfl
  simp only[Act.put,List.setIfInBounds_toArray,List.set_cons_zero,List.set_cons_succ]
  refine wpAnyH_take (i:=2) (v:= ?v8) rfl (by kernel_rfl) (by kernel_rfl) (by kernel_rfl) (fun _ _ _ h=>h) (Or.inl ⟨by kernel_rfl, ?h8⟩) hHeld ?r8
  case h8=>intro W hSw;(try dsimp only at hSw);obtain s0:=hSw;go_simp;try with_reducible rfl
  simp only[Act.put,List.setIfInBounds_toArray,List.set_cons_zero,List.set_cons_succ]
  refine wpAnyH_take (i:=3) (v:= ?v9) rfl (by kernel_rfl) (by kernel_rfl) (by kernel_rfl) (fun _ _ _ h=>h) (Or.inl ⟨by kernel_rfl, ?h9⟩) hHeld ?r9
  case h9=>intro W hSw;(try dsimp only at hSw);obtain s0:=hSw;go_simp;try with_reducible rfl
  simp only[Act.put,List.setIfInBounds_toArray,List.set_cons_zero,List.set_cons_succ]
  refine wpAnyH_take (i:=4) (v:= ?v10) rfl (by kernel_rfl) (by kernel_rfl) (by kernel_rfl) (fun _ _ _ h=>h) (Or.inl ⟨by kernel_rfl, ?h10⟩) hHeld ?r10
  case h10=>intro W hSw;(try dsimp only at hSw);obtain s0:=hSw;go_simp;try with_reducible rfl
  simp only[Act.put,List.setIfInBounds_toArray,List.set_cons_zero,List.set_cons_succ]
  refine wpAnyH_ready (rs:=[5]) (by kernel_rfl) (by simp) ?_
  refine AllReadyH.cons rfl (fun K hK=> ?_) AllReadyH.nil
  go_simp
  refine hK.out _ _ (K3.out) (fun hHeld=> ?_)
  clear hK K
  (try simp only[Act.put,List.setIfInBounds_toArray,List.set_cons_zero,List.set_cons_succ])
  refine wpAnyH_ready (rs:=[6]) (by kernel_rfl) (by simp) ?_
  refine AllReadyH.cons rfl (fun K hK=> ?_) AllReadyH.nil
  go_simp
  go_wp2_with (first|(go_at_call 79;refine cl.mono ?_;rintro e w5 ⟨v5,l5,rfl,h5,b5,p5,n5,g5⟩;have K5:Hid (w5.cell? ⟨w2.heap.size,3,none⟩=some (.int .u32 NX)):=hid ((st_gb ST4.out g5 hqb).cell 3 _ rfl)))
  refine hK.out _ _ (K5.out) (fun hHeld=> ?_)
  clear hK K
  (try simp only[Act.put,List.setIfInBounds_toArray,List.set_cons_zero,List.set_cons_succ])
  refine wpAnyH_ready (rs:=[7]) (by kernel_rfl) (by simp) ?_
  refine AllReadyH.cons rfl (fun K hK=> ?_) AllReadyH.nil
  go_simp
  refine hK.out _ _ (K5.out) (fun hHeld=> ?_)
  clear hK K
  (try simp only[Act.put,List.setIfInBounds_toArray,List.set_cons_zero,List.set_cons_succ])
  refine wpAnyH_done (by kernel_rfl) ?_ _
  go_wp2_with fail
  go_ret
  refine ⟨rfl,Below.trans L4.out b5,_,_,h5,fun e=> ?_,fun _=>⟨rfl,rfl⟩⟩
  obtain ⟨p6,p7⟩:=p5 e
  subst p6
  refine ⟨?_,rfl⟩
  rw[p7]
  rfl
 ·subst hkd
  go_upto_region 11 with fail
  have ba:Below w3.heap.size w3 (w3.alloc (.cells #[.int .u32 NX] 26)).drew:=below_trans (box_below _ _) (below_drewN (Below.refl _ _) 1)
  have h4:=h3.below ba
  have cl:=w_leaveAg h4 (.slice (some ⟨w3.heap.size,0,none⟩) 1 1) [NX] ((rd_one w3 NX 26).below (below_drewN (Below.refl _ _) 1)) hsl (by simp)
  rw[HA.out] at cl
  have ST4:=hid (st3.below ba)
  have K1:Hid (w3.drew.cell? ⟨w2.heap.size,3,none⟩=some (.int .u32 NX)):=hid ((st3.below (below_drewN (Below.refl _ _) 1)).cell 3 _ rfl)
  have K3:Hid ((w3.alloc (.cells #[.int .u32 NX] 26)).drew.cell? ⟨w2.heap.size,3,none⟩=some (.int .u32 NX)):=hid (ST4.out.cell 3 _ rfl)
  have L4:Hid (Below B w (w3.alloc (.cells #[.int .u32 NX] 26)).drew):=hid (Below.trans L3.out (h3.low (gb_of ba)))
  clear h3 h4 ba st3 y2 y3
  go_wp2_with fail
  refine wp_region_held_drew (S:=fun W=>W.cell? ⟨w2.heap.size,3,none⟩=some (.int .u32 NX)) (by kernel_rfl) (K1.out) (fun hHeld=> ?_)
  refine wpAnyH_take (i:=0) (v:= ?v11) rfl (by kernel_rfl) (by kernel_rfl) (by kernel_rfl) (fun _ _ _ h=>h) (Or.inl ⟨by kernel_rfl, ?h11⟩) hHeld ?r11
  case h11=>intro W hSw;(try dsimp only at hSw);obtain s0:=hSw;go_simp;try with_reducible rfl
  simp only[Act.put,List.setIfInBounds_toArray,List.set_cons_zero,List.set_cons_succ]
  refine wpAnyH_take (i:=1) (v:= ?v12) rfl (by kernel_rfl) (by kernel_rfl) (by kernel_rfl) (fun _ _ _ h=>h) (Or.inl ⟨by kernel_rfl, ?h12⟩) hHeld ?r12
  case h12=>intro W hSw;(try dsimp only at hSw);obtain s0:=hSw;go_simp;try with_reducible rfl
  simp only[Act.put,List.setIfInBounds_toArray,List.set_cons_zero,List.set_cons_succ]
  refine wpAnyH_take (i:=2) (v:= ?v13) rfl (by kernel_rfl) (by kernel_rfl) (by kernel_rfl) (fun _ _ _ h=>h) (Or.inl ⟨by kernel_rfl, ?h13⟩) hHeld ?r13
  case h13=>intro W hSw;(try dsimp only at hSw);obtain s0:=hSw;go_simp;try with_reducible rfl
  simp only[Act.put,List.setIfInBounds_toArray,List.set_cons_zero,List.set_cons_succ]
  refine wpAnyH_take (i:=3) (v:= ?v14) rfl (by kernel_rfl) (by kernel_rfl) (by kernel_rfl) (fun _ _ _ h=>h) (Or.inl ⟨by kernel_rfl, ?h14⟩) hHeld ?r14
  case h14=>intro W hSw;(try dsimp only at hSw);obtain s0:=hSw;go_simp;try with_reducible rfl
  simp only[Act.put,List.setIfInBounds_toArray,List.set_cons_zero,List.set_cons_succ]
  refine wpAnyH_take (i:=4) (v:= ?v15) rfl (by kernel_rfl) (by kernel_rfl) (by kernel_rfl) (fun _ _ _ h=>h) (Or.inl ⟨by kernel_rfl, ?h15⟩) hHeld ?r15
  case h15=>intro W hSw;(try dsimp only at hSw);obtain s0:=hSw;go_simp;try with_reducible rfl
  simp only[Act.put,List.setIfInBounds_toArray,List.set_cons_zero,List.set_cons_succ]
  refine wpAnyH_ready (rs:=[5]) (by kernel_rfl) (by simp) ?_
  refine AllReadyH.cons rfl (fun K hK=> ?_) AllReadyH.nil
  go_simp
  refine hK.out _ _ (K3.out) (fun hHeld=> ?_)
  clear hK K
  (try simp only[Act.put,List.setIfInBounds_toArray,List.set_cons_zero,List.set_cons_succ])
  refine wpAnyH_ready (rs:=[6]) (by kernel_rfl) (by simp) ?_
  refine AllReadyH.cons rfl (fun K hK=> ?_) AllReadyH.nil
  go_simp
  go_wp2_with (first|(go_at_call 79;refine cl.mono ?_;rintro e w5 ⟨v5,l5,rfl,h5,b5,p5,n5,g5⟩;have K5:Hid (w5.cell? ⟨w2.heap.size,3,none⟩=some (.int .u32 NX)):=hid ((st_gb ST4.out g5 hqb).cell 3 _ rfl)))
  refine hK.out _ _ (K5.out) (fun hHeld=> ?_)
  clear hK K
  (try simp only[Act.put,List.setIfInBounds_toArray,List.set_cons_zero,List.set_cons_succ])
  refine wpAnyH_ready (rs:=[7]) (by kernel_rfl) (by simp) ?_
  refine AllReadyH.cons rfl (fun K hK=> ?_) AllReadyH.nil
  go_simp
  refine hK.out _ _ (K5.out) (fun hHeld=> ?_)
  clear hK K
  (try simp only[Act.put,List.setIfInBounds_toArray,List.set_cons_zero,List.set_cons_succ])
  refine wpAnyH_done (by kernel_rfl) ?_ _
  go_wp2_with fail
  go_ret
  refine ⟨rfl,Below.trans L4.out b5,_,_,h5,fun e=> ?_,fun _=>⟨rfl,rfl⟩⟩
  obtain ⟨p6,p7⟩:=p5 e
  subst p6
  refine ⟨?_,rfl⟩
  rw[p7]
  rfl
set_option maxHeartbeats 2000000 in
theorem w_beginD {B:Nat} {D:Nat→Prop} {w:World} {q:Nat} {s b:Sv} {vf:Value} {fs:List Fm} {fuel thr:Int} (k:Nat) (h:RunL B D w q s b vf fs (k:Int) fuel thr) (ok:Okr (toR s fs thr)) (hl:fs.length≤1000000) (hb0:0≤bsF fs) (f0:0 < fuel) (f1:fuel≤100000) (hk:k < s.m.words.length) (hd:dpF fs≤32) (hkd:s.m.words[k].2.2.1=6):
  Calls Tryz.prog 60 #[.pointer (some ⟨q,0,none⟩)] w (OtP B D q s b (fuel - 1) w (begO (k:Int) (toR s fs thr) fs) rtE):=by
 have hsl:s.m.stack.length≤64:=h64_of ok
 have eW:iWd (toR s fs thr) (k:Int)=s.m.words[k]:=by
  unfold iWd
  rw[show (toR s fs thr).m.words=s.m.words from rfl,Int.toNat_natCast,List.getD_eq_getElem?_getD,List.getElem?_eq_getElem hk]
  rfl
 have hnum:=wd_num ok (k:Int)
 rw[eW] at hnum
 have f24:=h.c24
 have ff:=h.st.free 24
 have P:=hid (h.put24 (-1))
 have c1:=w_stepA P.out.1 f0 f1
 obtain ⟨wd,hwd⟩:∃x,s.m.words[k]=x:=⟨_,rfl⟩
 rw[hwd] at hnum eW hkd
 obtain ⟨NM,hNM⟩:∃x,strOfNums wd.1=x:=⟨_,rfl⟩
 obtain ⟨ND,hND⟩:∃x,wd.2.1=x:=⟨_,rfl⟩
 obtain ⟨KD,hKD⟩:∃x,wd.2.2.1=x:=⟨_,rfl⟩
 obtain ⟨NX,hNX⟩:∃x,wd.2.2.2.1=x:=⟨_,rfl⟩
 rw[hNX] at hnum
 rw[hKD] at hkd
 have eO:begO (k:Int) (toR s fs thr) fs=⟨s.m,s.ret,fs,NX,thr,0⟩:=by
  unfold begO
  dsimp only
  rw[eW,hKD,hNX,if_neg (by omega),if_neg (by omega),if_neg (by omega),if_neg (by omega)]
  rfl
 rw[eO]
 have hwn:IntKind.i64.wrap NX=NX:=by rw[IntKind.wrap_i64];omega
 have HKD:=hid hKD
 have HNX:=hid hNX
 have HKK:=hid hkd
 clear eW eO hKD hNX hkd
 have C1:=hid c1
 have HWD:=hid hwd
 have HNM:=hid hNM
 have HND:=hid hND
 clear h c1 hNM hND hwd
 go_enter Tryz.func60,Tryz.ntmps60
 go_upto_region 6 with (go_at_call 78;refine C1.out.mono ?_;rintro e w2 ⟨rfl,h2,b2,g2⟩)
 obtain ⟨g,cap,vc,ev, -,hcl,sc⟩:=h2.wdAt k hk
 obtain ⟨va,vq,evc⟩:=slr_slice sc.now
 obtain ⟨vl,hvl⟩:∃l,s.m.words[k].2.2.2.2.length=l:=⟨_,rfl⟩
 rw[hvl] at evc
 subst evc
 have k0:=hcl 0 _ rfl
 rw[Nat.add_zero] at k0
 have k1:=hcl 1 _ rfl
 have k2:=hcl 2 _ rfl
 have k3:=hcl 3 _ rfl
 have k4:=hcl 4 _ rfl
 rw[HWD.out,HNM.out] at k0
 rw[HWD.out,HND.out] at k1
 rw[HWD.out,HKD.out] at k2
 rw[HWD.out,HNX.out] at k3
 have hix:=idx_wd .i64 g s.m.words.length cap k hk
 have f2:=h2.c2
 rw[ev] at f2
 have bb:=box_below w2 (.cells #[.string NM, .int .i64 ND, .int .i64 KD, .int .u32 NX, .slice va vl vq] 59)
 have h3:=h2.below bb
 have st3:=stands_new w2 #[.string NM, .int .i64 ND, .int .i64 KD, .int .u32 NX, .slice va vl vq] 59
 have hqb:¬w2.heap.size=q:=by have:=st_lt h2.st;omega
 have L3:Hid (Below B w (w2.alloc (.cells #[.string NM, .int .i64 ND, .int .i64 KD, .int .u32 NX, .slice va vl vq] 59))):=hid (Below.trans P.out.2 (Below.trans b2 (h2.low (gb_of bb))))
 clear hcl sc ev hvl h2 bb
 go_upto_region 7 with fail
 generalize hW:(w2.alloc (.cells #[.string NM, .int .i64 ND, .int .i64 KD, .int .u32 NX, .slice va vl vq] 59))=w3 at*
 clear hW k0 k1 k2 k3 k4 hix f2
 have y2:=st3.cell 2 _ rfl
 have y3:=st3.cell 3 _ rfl
 have hkd:=HKK.out
 subst hkd
 have f24':=h3.c24
 have ff':=h3.st.free 24
 have Q:=hid (h3.put24 NX)
 clear h3 st3
 go_wp2_with fail
 go_ret
 exact OtP.yes (Below.trans L3.out Q.out.2) Q.out.1 rfl rfl
set_option maxHeartbeats 2000000 in
theorem w_beginC {B:Nat} {D:Nat→Prop} {w:World} {q:Nat} {s b:Sv} {vf:Value} {fs:List Fm} {fuel thr:Int} (k:Nat) (h:RunL B D w q s b vf fs (k:Int) fuel thr) (ok:Okr (toR s fs thr)) (hl:fs.length≤1000000) (hb0:0≤bsF fs) (f0:0 < fuel) (f1:fuel≤100000) (hk:k < s.m.words.length) (hd:dpF fs≤32) (hkd:s.m.words[k].2.2.1=2):
  Calls Tryz.prog 60 #[.pointer (some ⟨q,0,none⟩)] w (OtP B D q s b (fuel - 1) w (begO (k:Int) (toR s fs thr) fs) rtE):=by
 have hsl:s.m.stack.length≤64:=h64_of ok
 have eW:iWd (toR s fs thr) (k:Int)=s.m.words[k]:=by
  unfold iWd
  rw[show (toR s fs thr).m.words=s.m.words from rfl,Int.toNat_natCast,List.getD_eq_getElem?_getD,List.getElem?_eq_getElem hk]
  rfl
 have hnum:=wd_num ok (k:Int)
 rw[eW] at hnum
 have f24:=h.c24
 have ff:=h.st.free 24
 have P:=hid (h.put24 (-1))
 have c1:=w_stepA P.out.1 f0 f1
 obtain ⟨wd,hwd⟩:∃x,s.m.words[k]=x:=⟨_,rfl⟩
 rw[hwd] at hnum eW hkd
 obtain ⟨NM,hNM⟩:∃x,strOfNums wd.1=x:=⟨_,rfl⟩
 obtain ⟨ND,hND⟩:∃x,wd.2.1=x:=⟨_,rfl⟩
 obtain ⟨KD,hKD⟩:∃x,wd.2.2.1=x:=⟨_,rfl⟩
 obtain ⟨NX,hNX⟩:∃x,wd.2.2.2.1=x:=⟨_,rfl⟩
 rw[hNX] at hnum
 rw[hKD] at hkd
 have hrl:s.ret.length≤64:=ok.ran.retL
 by_cases hdd:dpF fs=32
 ·have eO:begO (k:Int) (toR s fs thr) fs=⟨s.m,s.ret,fs, -1,thr,12⟩:=by
   unfold begO
   dsimp only
   rw[eW,hKD,if_neg (by omega),if_pos hkd,if_pos (by show 32≤dpF fs;omega)]
   rfl
  rw[eO]
  have HKD:=hid hKD
  have HNX:=hid hNX
  have HKK:=hid hkd
  clear eW eO hKD hNX hkd
  have C1:=hid c1
  have HWD:=hid hwd
  have HNM:=hid hNM
  have HND:=hid hND
  clear h c1 hNM hND hwd
  go_enter Tryz.func60,Tryz.ntmps60
  go_upto_region 6 with (go_at_call 78;refine C1.out.mono ?_;rintro e w2 ⟨rfl,h2,b2,g2⟩)
  obtain ⟨g,cap,vc,ev, -,hcl,sc⟩:=h2.wdAt k hk
  obtain ⟨va,vq,evc⟩:=slr_slice sc.now
  obtain ⟨vl,hvl⟩:∃l,s.m.words[k].2.2.2.2.length=l:=⟨_,rfl⟩
  rw[hvl] at evc
  subst evc
  have k0:=hcl 0 _ rfl
  rw[Nat.add_zero] at k0
  have k1:=hcl 1 _ rfl
  have k2:=hcl 2 _ rfl
  have k3:=hcl 3 _ rfl
  have k4:=hcl 4 _ rfl
  rw[HWD.out,HNM.out] at k0
  rw[HWD.out,HND.out] at k1
  rw[HWD.out,HKD.out] at k2
  rw[HWD.out,HNX.out] at k3
  have hix:=idx_wd .i64 g s.m.words.length cap k hk
  have f2:=h2.c2
  rw[ev] at f2
  have bb:=box_below w2 (.cells #[.string NM, .int .i64 ND, .int .i64 KD, .int .u32 NX, .slice va vl vq] 59)
  have h3:=h2.below bb
  have st3:=stands_new w2 #[.string NM, .int .i64 ND, .int .i64 KD, .int .u32 NX, .slice va vl vq] 59
  have hqb:¬w2.heap.size=q:=by have:=st_lt h2.st;omega
  have L3:Hid (Below B w (w2.alloc (.cells #[.string NM, .int .i64 ND, .int .i64 KD, .int .u32 NX, .slice va vl vq] 59))):=hid (Below.trans P.out.2 (Below.trans b2 (h2.low (gb_of bb))))
  clear hcl sc ev hvl h2 bb
  go_upto_region 7 with fail
  generalize hW:(w2.alloc (.cells #[.string NM, .int .i64 ND, .int .i64 KD, .int .u32 NX, .slice va vl vq] 59))=w3 at*
  clear hW k0 k1 k2 k3 k4 hix f2
  have y2:=st3.cell 2 _ rfl
  have y3:=st3.cell 3 _ rfl
  have hkd:=HKK.out
  subst hkd
  have c3:=w_openColonE h3 (k:Int) hdd
  have H3:=hid h3
  clear h3 st3
  go_wp2_with (go_at_call 81;refine c3.mono ?_;rintro e w4 ⟨rfl,hw4⟩;obtain rfl:=hw4.symm)
  go_ret
  exact OtP.no (by decide) L3.out H3.out rfl rfl
 ·have eO:begO (k:Int) (toR s fs thr) fs=⟨s.m,s.ret, .colon s.ret.length k 0::fs, -1,thr,0⟩:=by
   unfold begO
   dsimp only
   rw[eW,hKD,if_neg (by omega),if_pos hkd,if_neg (by show ¬32≤dpF fs;omega)]
   rfl
  rw[eO]
  have HKD:=hid hKD
  have HNX:=hid hNX
  have HKK:=hid hkd
  clear eW eO hKD hNX hkd
  have C1:=hid c1
  have HWD:=hid hwd
  have HNM:=hid hNM
  have HND:=hid hND
  clear h c1 hNM hND hwd
  go_enter Tryz.func60,Tryz.ntmps60
  go_upto_region 6 with (go_at_call 78;refine C1.out.mono ?_;rintro e w2 ⟨rfl,h2,b2,g2⟩)
  obtain ⟨g,cap,vc,ev, -,hcl,sc⟩:=h2.wdAt k hk
  obtain ⟨va,vq,evc⟩:=slr_slice sc.now
  obtain ⟨vl,hvl⟩:∃l,s.m.words[k].2.2.2.2.length=l:=⟨_,rfl⟩
  rw[hvl] at evc
  subst evc
  have k0:=hcl 0 _ rfl
  rw[Nat.add_zero] at k0
  have k1:=hcl 1 _ rfl
  have k2:=hcl 2 _ rfl
  have k3:=hcl 3 _ rfl
  have k4:=hcl 4 _ rfl
  rw[HWD.out,HNM.out] at k0
  rw[HWD.out,HND.out] at k1
  rw[HWD.out,HKD.out] at k2
  rw[HWD.out,HNX.out] at k3
  have hix:=idx_wd .i64 g s.m.words.length cap k hk
  have f2:=h2.c2
  rw[ev] at f2
  have bb:=box_below w2 (.cells #[.string NM, .int .i64 ND, .int .i64 KD, .int .u32 NX, .slice va vl vq] 59)
  have h3:=h2.below bb
  have st3:=stands_new w2 #[.string NM, .int .i64 ND, .int .i64 KD, .int .u32 NX, .slice va vl vq] 59
  have hqb:¬w2.heap.size=q:=by have:=st_lt h2.st;omega
  have L3:Hid (Below B w (w2.alloc (.cells #[.string NM, .int .i64 ND, .int .i64 KD, .int .u32 NX, .slice va vl vq] 59))):=hid (Below.trans P.out.2 (Below.trans b2 (h2.low (gb_of bb))))
  clear hcl sc ev hvl h2 bb
  go_upto_region 7 with fail
  generalize hW:(w2.alloc (.cells #[.string NM, .int .i64 ND, .int .i64 KD, .int .u32 NX, .slice va vl vq] 59))=w3 at*
  clear hW k0 k1 k2 k3 k4 hix f2
  have y2:=st3.cell 2 _ rfl
  have y3:=st3.cell 3 _ rfl
  have hkd:=HKK.out
  subst hkd
  have c3:=w_openColonK h3 hl (k:Int) (by omega) hrl
  clear h3 st3
  go_wp2_with (go_at_call 81;refine c3.mono ?_;rintro e w4 ⟨rfl,b4,vf',h4⟩)
  go_ret
  exact OtP.yes (Below.trans L3.out b4) h4 rfl rfl
set_option maxHeartbeats 2000000 in
theorem w_beginP {B:Nat} {D:Nat→Prop} {w:World} {q:Nat} {s b:Sv} {vf:Value} {fs:List Fm} {fuel thr:Int} (k:Nat) (h:RunL B D w q s b vf fs (k:Int) fuel thr) (ok:Okr (toR s fs thr)) (hl:fs.length≤1000000) (hb0:0≤bsF fs) (f0:0 < fuel) (f1:fuel≤100000) (hk:k < s.m.words.length) (hd:dpF fs≤32) (hkd:s.m.words[k].2.2.1=1) (hpr:s.m.words[k].2.2.2.1∈prmL.map (·.2)) (hcc:CC s.m.words[k].2.2.2.1):
  Calls Tryz.prog 60 #[.pointer (some ⟨q,0,none⟩)] w (OtP B D q s b (fuel - 1) w (begO (k:Int) (toR s fs thr) fs) rtE):=by
 have hsl:s.m.stack.length≤64:=h64_of ok
 have eW:iWd (toR s fs thr) (k:Int)=s.m.words[k]:=by
  unfold iWd
  rw[show (toR s fs thr).m.words=s.m.words from rfl,Int.toNat_natCast,List.getD_eq_getElem?_getD,List.getElem?_eq_getElem hk]
  rfl
 have hnum:=wd_num ok (k:Int)
 rw[eW] at hnum
 have f24:=h.c24
 have ff:=h.st.free 24
 have P:=hid (h.put24 (-1))
 have c1:=w_stepA P.out.1 f0 f1
 obtain ⟨wd,hwd⟩:∃x,s.m.words[k]=x:=⟨_,rfl⟩
 rw[hwd] at hnum eW hkd
 obtain ⟨NM,hNM⟩:∃x,strOfNums wd.1=x:=⟨_,rfl⟩
 obtain ⟨ND,hND⟩:∃x,wd.2.1=x:=⟨_,rfl⟩
 obtain ⟨KD,hKD⟩:∃x,wd.2.2.1=x:=⟨_,rfl⟩
 obtain ⟨NX,hNX⟩:∃x,wd.2.2.2.1=x:=⟨_,rfl⟩
 rw[hNX] at hnum
 rw[hKD] at hkd
 rw[hwd,hNX] at hpr hcc
 have eO:begO (k:Int) (toR s fs thr) fs=nxO (toR s fs thr) fs (iPrm iP NX (toR s fs thr)):=by
  unfold begO
  dsimp only
  rw[eW,hKD,hNX,if_pos hkd]
 rw[eO]
 have hwn:IntKind.i64.wrap NX=NX:=by rw[IntKind.wrap_i64];omega
 have HPR:=hid (And.intro hpr hcc)
 obtain ⟨nx,hnx⟩:∃nx,iPrm iP NX (toR s fs thr)=nx:=⟨_,rfl⟩
 rw[hnx]
 have HNNX:=hid hnx
 clear hpr hcc hnx
 have HKD:=hid hKD
 have HNX:=hid hNX
 have HKK:=hid hkd
 clear eW eO hKD hNX hkd
 have C1:=hid c1
 have HWD:=hid hwd
 have HNM:=hid hNM
 have HND:=hid hND
 clear h c1 hNM hND hwd
 go_enter Tryz.func60,Tryz.ntmps60
 go_upto_region 6 with (go_at_call 78;refine C1.out.mono ?_;rintro e w2 ⟨rfl,h2,b2,g2⟩)
 obtain ⟨g,cap,vc,ev, -,hcl,sc⟩:=h2.wdAt k hk
 obtain ⟨va,vq,evc⟩:=slr_slice sc.now
 obtain ⟨vl,hvl⟩:∃l,s.m.words[k].2.2.2.2.length=l:=⟨_,rfl⟩
 rw[hvl] at evc
 subst evc
 have k0:=hcl 0 _ rfl
 rw[Nat.add_zero] at k0
 have k1:=hcl 1 _ rfl
 have k2:=hcl 2 _ rfl
 have k3:=hcl 3 _ rfl
 have k4:=hcl 4 _ rfl
 rw[HWD.out,HNM.out] at k0
 rw[HWD.out,HND.out] at k1
 rw[HWD.out,HKD.out] at k2
 rw[HWD.out,HNX.out] at k3
 have hix:=idx_wd .i64 g s.m.words.length cap k hk
 have f2:=h2.c2
 rw[ev] at f2
 have bb:=box_below w2 (.cells #[.string NM, .int .i64 ND, .int .i64 KD, .int .u32 NX, .slice va vl vq] 59)
 have h3:=h2.below bb
 have st3:=stands_new w2 #[.string NM, .int .i64 ND, .int .i64 KD, .int .u32 NX, .slice va vl vq] 59
 have hqb:¬w2.heap.size=q:=by have:=st_lt h2.st;omega
 have L3:Hid (Below B w (w2.alloc (.cells #[.string NM, .int .i64 ND, .int .i64 KD, .int .u32 NX, .slice va vl vq] 59))):=hid (Below.trans P.out.2 (Below.trans b2 (h2.low (gb_of bb))))
 clear hcl sc ev hvl h2 bb
 go_upto_region 7 with fail
 generalize hW:(w2.alloc (.cells #[.string NM, .int .i64 ND, .int .i64 KD, .int .u32 NX, .slice va vl vq] 59))=w3 at*
 clear hW k0 k1 k2 k3 k4 hix f2
 have y2:=st3.cell 2 _ rfl
 have y3:=st3.cell 3 _ rfl
 have hkd:=HKK.out
 subst hkd
 have c3:=w_firstC h3 ok hl hb0 NX HPR.out.1 HPR.out.2
 rw[HNNX.out] at c3
 clear h3 st3
 go_wp2_with (go_at_call 82;refine c3.mono ?_;rintro e w4 P4;have Q4:=NxP.ot (thr:=thr) P4;obtain rfl:e= .returned (.int .i64 (nxO (toR s fs thr) fs nx).e):=Q4.1;clear P4)
 go_ret
 exact Q4.from L3.out rfl rfl
theorem cell_gb {w W:World} {q c j:Nat} {u:Value} (h:w.cell? ⟨c,j,none⟩=some u) (hc:c < w.heap.size) (g:w.grownBy W (some q)) (hne:¬c=q):W.cell? ⟨c,j,none⟩=some u:=by
 have e:=g.block c hc (fun e=>by injection e with e;exact hne e)
 unfold World.cell? at h ⊢
 simp only at h ⊢
 rw[e]
 exact h
set_option maxHeartbeats 4000000 in
theorem w_beginI {B:Nat} {D:Nat→Prop} {w:World} {q:Nat} {s b:Sv} {vf:Value} {fs:List Fm} {fuel thr:Int} (k:Nat) (h:RunL B D w q s b vf fs (k:Int) fuel thr) (ok:Okr (toR s fs thr)) (hl:fs.length≤1000000) (hb0:0≤bsF fs) (f0:0 < fuel) (f1:fuel≤100000) (hk:k < s.m.words.length) (hd:dpF fs≤32) (hkd:s.m.words[k].2.2.1=7):
  Calls Tryz.prog 60 #[.pointer (some ⟨q,0,none⟩)] w (OtP B D q s b (fuel - 1) w (begO (k:Int) (toR s fs thr) fs) rtE):=by
 have hsl:s.m.stack.length≤64:=h64_of ok
 have eW:iWd (toR s fs thr) (k:Int)=s.m.words[k]:=by
  unfold iWd
  rw[show (toR s fs thr).m.words=s.m.words from rfl,Int.toNat_natCast,List.getD_eq_getElem?_getD,List.getElem?_eq_getElem hk]
  rfl
 have hnum:=wd_num ok (k:Int)
 rw[eW] at hnum
 have f24:=h.c24
 have ff:=h.st.free 24
 have P:=hid (h.put24 (-1))
 have c1:=w_stepA P.out.1 f0 f1
 obtain ⟨wd,hwd⟩:∃x,s.m.words[k]=x:=⟨_,rfl⟩
 rw[hwd] at hnum eW hkd
 obtain ⟨NM,hNM⟩:∃x,strOfNums wd.1=x:=⟨_,rfl⟩
 obtain ⟨ND,hND⟩:∃x,wd.2.1=x:=⟨_,rfl⟩
 obtain ⟨KD,hKD⟩:∃x,wd.2.2.1=x:=⟨_,rfl⟩
 obtain ⟨NX,hNX⟩:∃x,wd.2.2.2.1=x:=⟨_,rfl⟩
 rw[hNX] at hnum
 rw[hKD] at hkd
 by_cases hs:iSlf (toR s fs thr) wd=false
 ·have eO:begO (k:Int) (toR s fs thr) fs=⟨s.m,s.ret,fs, -1,thr,21⟩:=by
   unfold begO
   dsimp only
   rw[eW,hKD,if_neg (by omega),if_neg (by omega),if_neg (by omega),if_pos hkd,if_pos hs]
   rfl
  rw[eO]
  have HSL:=hid hs
  clear hs
  have HKD:=hid hKD
  have HNX:=hid hNX
  have HKK:=hid hkd
  clear eW eO hKD hNX hkd
  have C1:=hid c1
  have HWD:=hid hwd
  have HNM:=hid hNM
  have HND:=hid hND
  clear h c1 hNM hND hwd
  go_enter Tryz.func60,Tryz.ntmps60
  go_upto_region 6 with (go_at_call 78;refine C1.out.mono ?_;rintro e w2 ⟨rfl,h2,b2,g2⟩)
  obtain ⟨g,cap,vc,ev, -,hcl,sc⟩:=h2.wdAt k hk
  obtain ⟨va,vq,evc⟩:=slr_slice sc.now
  obtain ⟨vl,hvl⟩:∃l,s.m.words[k].2.2.2.2.length=l:=⟨_,rfl⟩
  rw[hvl] at evc
  subst evc
  have k0:=hcl 0 _ rfl
  rw[Nat.add_zero] at k0
  have k1:=hcl 1 _ rfl
  have k2:=hcl 2 _ rfl
  have k3:=hcl 3 _ rfl
  have k4:=hcl 4 _ rfl
  rw[HWD.out,HNM.out] at k0
  rw[HWD.out,HND.out] at k1
  rw[HWD.out,HKD.out] at k2
  rw[HWD.out,HNX.out] at k3
  have hix:=idx_wd .i64 g s.m.words.length cap k hk
  have f2:=h2.c2
  rw[ev] at f2
  have bb:=box_below w2 (.cells #[.string NM, .int .i64 ND, .int .i64 KD, .int .u32 NX, .slice va vl vq] 59)
  have h3:=h2.below bb
  have st3:=stands_new w2 #[.string NM, .int .i64 ND, .int .i64 KD, .int .u32 NX, .slice va vl vq] 59
  have hqb:¬w2.heap.size=q:=by have:=st_lt h2.st;omega
  have L3:Hid (Below B w (w2.alloc (.cells #[.string NM, .int .i64 ND, .int .i64 KD, .int .u32 NX, .slice va vl vq] 59))):=hid (Below.trans P.out.2 (Below.trans b2 (h2.low (gb_of bb))))
  clear hcl sc ev hvl h2 bb
  go_upto_region 7 with fail
  generalize hW:(w2.alloc (.cells #[.string NM, .int .i64 ND, .int .i64 KD, .int .u32 NX, .slice va vl vq] 59))=w3 at*
  clear hW k0 k1 k2 k3 k4 hix f2
  have y2:=st3.cell 2 _ rfl
  have y3:=st3.cell 3 _ rfl
  have hkd:=HKK.out
  subst hkd
  go_upto_region 13 with fail
  have hd3:Below w3.heap.size w3 w3.drew:=below_drewN (Below.refl _ _) 1
  have c4:=w_serves (h3.below hd3) ok NM ND 7 NX wd HND.out (.slice va vl vq)
  rw[HSL.out] at c4
  have sd3:=st3.below hd3
  have K1:Hid (w3.drew.cell? ⟨w2.heap.size,0,none⟩=some (.string NM)∧w3.drew.cell? ⟨w2.heap.size,1,none⟩=some (.int .i64 ND)∧w3.drew.cell? ⟨w2.heap.size,2,none⟩=some (.int .i64 7)∧w3.drew.cell? ⟨w2.heap.size,3,none⟩=some (.int .u32 NX)∧w3.drew.cell? ⟨w2.heap.size,4,none⟩=some (.slice va vl vq)):=hid ⟨sd3.cell 0 _ rfl,sd3.cell 1 _ rfl,sd3.cell 2 _ rfl,sd3.cell 3 _ rfl,sd3.cell 4 _ rfl⟩
  have ST3:=hid sd3
  have H3:=hid h3
  have HD3:=hid hd3
  clear h3 st3 sd3 hd3 y2 y3
  go_wp2_with fail
  refine wp_region_held_drew (S:=fun W=>W.cell? ⟨w2.heap.size,0,none⟩=some (.string NM)∧W.cell? ⟨w2.heap.size,1,none⟩=some (.int .i64 ND)∧W.cell? ⟨w2.heap.size,2,none⟩=some (.int .i64 7)∧W.cell? ⟨w2.heap.size,3,none⟩=some (.int .u32 NX)∧W.cell? ⟨w2.heap.size,4,none⟩=some (.slice va vl vq)) (by kernel_rfl) (K1.out) (fun hHeld=> ?_)
  refine wpAnyH_take (i:=0) (v:= ?v1) rfl (by kernel_rfl) (by kernel_rfl) (by kernel_rfl) (fun _ _ _ h=>h) (Or.inl ⟨by kernel_rfl, ?h1⟩) hHeld ?r1
  case h1=>intro W hSw;(try dsimp only at hSw);obtain ⟨s0,s1,s2,s3,s4⟩:=hSw;go_simp;try with_reducible rfl
  simp only[Act.put,List.setIfInBounds_toArray,List.set_cons_zero,List.set_cons_succ]
  refine wpAnyH_take (i:=1) (v:= ?v2) rfl (by kernel_rfl) (by kernel_rfl) (by kernel_rfl) (fun _ _ _ h=>h) (Or.inl ⟨by kernel_rfl, ?h2⟩) hHeld ?r2
  case h2=>intro W hSw;(try dsimp only at hSw);obtain ⟨s0,s1,s2,s3,s4⟩:=hSw;go_simp;try with_reducible rfl
  simp only[Act.put,List.setIfInBounds_toArray,List.set_cons_zero,List.set_cons_succ]
  refine wpAnyH_take (i:=2) (v:= ?v3) rfl (by kernel_rfl) (by kernel_rfl) (by kernel_rfl) (fun _ _ _ h=>h) (Or.inl ⟨by kernel_rfl, ?h3⟩) hHeld ?r3
  case h3=>intro W hSw;(try dsimp only at hSw);obtain ⟨s0,s1,s2,s3,s4⟩:=hSw;go_simp;try with_reducible rfl
  simp only[Act.put,List.setIfInBounds_toArray,List.set_cons_zero,List.set_cons_succ]
  refine wpAnyH_take (i:=3) (v:= ?v4) rfl (by kernel_rfl) (by kernel_rfl) (by kernel_rfl) (fun _ _ _ h=>h) (Or.inl ⟨by kernel_rfl, ?h4⟩) hHeld ?r4
  case h4=>intro W hSw;(try dsimp only at hSw);obtain ⟨s0,s1,s2,s3,s4⟩:=hSw;go_simp;try with_reducible rfl
  simp only[Act.put,List.setIfInBounds_toArray,List.set_cons_zero,List.set_cons_succ]
  refine wpAnyH_ready (rs:=[4]) (by kernel_rfl) (by simp) ?_
  refine AllReadyH.cons rfl (fun K hK=> ?_) AllReadyH.nil
  go_simp
  go_wp2_with (first|(go_at_call 80;refine c4.mono ?_;rintro e w4 ⟨rfl,b4⟩;have ST4:=hid (ST3.out.below b4);have K4:Hid (w4.cell? ⟨w2.heap.size,0,none⟩=some (.string NM)∧w4.cell? ⟨w2.heap.size,1,none⟩=some (.int .i64 ND)∧w4.cell? ⟨w2.heap.size,2,none⟩=some (.int .i64 7)∧w4.cell? ⟨w2.heap.size,3,none⟩=some (.int .u32 NX)∧w4.cell? ⟨w2.heap.size,4,none⟩=some (.slice va vl vq)):=hid ⟨ST4.out.cell 0 _ rfl,ST4.out.cell 1 _ rfl,ST4.out.cell 2 _ rfl,ST4.out.cell 3 _ rfl,ST4.out.cell 4 _ rfl⟩))
  refine hK.out _ _ (K4.out) (fun hHeld=> ?_)
  clear hK K
  (try simp only[Act.put,List.setIfInBounds_toArray,List.set_cons_zero,List.set_cons_succ])
  refine wpAnyH_take (i:=5) (v:= ?v5) rfl (by kernel_rfl) (by kernel_rfl) (by kernel_rfl) (fun _ _ _ h=>h) (Or.inl ⟨by kernel_rfl, ?h5⟩) hHeld ?r5
  case h5=>intro W hSw;(try dsimp only at hSw);obtain ⟨s0,s1,s2,s3,s4⟩:=hSw;go_simp;try with_reducible rfl
  simp only[Act.put,List.setIfInBounds_toArray,List.set_cons_zero,List.set_cons_succ]
  refine wpAnyH_done (by kernel_rfl) ?_ _
  go_wp2_with fail
  go_ret
  exact OtP.no (by decide) (Below.trans L3.out (H3.out.low (gb_of (below_trans HD3.out b4)))) (H3.out.below (below_trans HD3.out b4)) rfl rfl
 ·have hs':iSlf (toR s fs thr) wd=true:=by simpa using hs
  obtain ⟨c1',c2',c3'⟩:=cel_lt ok (n:=k) hk (by rw[eW,hKD,hkd]) (by rw[eW];exact hs')
  rw[eW,hNX] at c3'
  have e1:(toR s fs thr).m.self=s.m.self:=rfl
  have e2:(toR s fs thr).m.insts=s.m.insts:=rfl
  rw[e1] at c1' c2' c3'
  rw[e2] at c2' c3'
  have eG:s.m.insts.getD s.m.self.toNat (-1, -1,[],[])=s.m.insts[s.m.self.toNat]:=by
   rw[List.getD_eq_getElem?_getD,List.getElem?_eq_getElem c2']
   rfl
  obtain ⟨X,hX⟩:∃X,(s.m.insts.getD s.m.self.toNat (-1, -1,[],[])).2.2.2.getD NX.toNat 0=X:=⟨_,rfl⟩
  have eO:begO (k:Int) (toR s fs thr) fs=⟨(iSwp (toR s fs thr) 0 [X]).1.m,s.ret,fs, -1,thr,(iSwp (toR s fs thr) 0 [X]).2⟩:=by
   unfold begO
   dsimp only
   rw[eW,hKD,hNX,if_neg (by omega),if_neg (by omega),if_neg (by omega),if_pos hkd,if_neg (by rw[hs'];simp),e1,e2,hX]
   rfl
  rw[eO]
  obtain ⟨A,hA⟩:∃A,iSwp (toR s fs thr) 0 [X]=A:=⟨_,rfl⟩
  rw[hA]
  have HA:=hid hA
  have HSL:=hid hs'
  have HX:=hid hX
  have C1':=hid c1'
  have C2':=hid c2'
  have C3':=hid c3'
  have EG:=hid eG
  have HNU:=hid hnum
  clear hs hs' hX hA e1 e2 c3' eG c1'
  have HKD:=hid hKD
  have HNX:=hid hNX
  have HKK:=hid hkd
  clear eW eO hKD hNX hkd
  have C1:=hid c1
  have HWD:=hid hwd
  have HNM:=hid hNM
  have HND:=hid hND
  clear h c1 hNM hND hwd
  go_enter Tryz.func60,Tryz.ntmps60
  go_upto_region 6 with (go_at_call 78;refine C1.out.mono ?_;rintro e w2 ⟨rfl,h2,b2,g2⟩)
  obtain ⟨g,cap,vc,ev, -,hcl,sc⟩:=h2.wdAt k hk
  obtain ⟨va,vq,evc⟩:=slr_slice sc.now
  obtain ⟨vl,hvl⟩:∃l,s.m.words[k].2.2.2.2.length=l:=⟨_,rfl⟩
  rw[hvl] at evc
  subst evc
  have k0:=hcl 0 _ rfl
  rw[Nat.add_zero] at k0
  have k1:=hcl 1 _ rfl
  have k2:=hcl 2 _ rfl
  have k3:=hcl 3 _ rfl
  have k4:=hcl 4 _ rfl
  rw[HWD.out,HNM.out] at k0
  rw[HWD.out,HND.out] at k1
  rw[HWD.out,HKD.out] at k2
  rw[HWD.out,HNX.out] at k3
  have hix:=idx_wd .i64 g s.m.words.length cap k hk
  have f2:=h2.c2
  rw[ev] at f2
  have bb:=box_below w2 (.cells #[.string NM, .int .i64 ND, .int .i64 KD, .int .u32 NX, .slice va vl vq] 59)
  have h3:=h2.below bb
  have st3:=stands_new w2 #[.string NM, .int .i64 ND, .int .i64 KD, .int .u32 NX, .slice va vl vq] 59
  have hqb:¬w2.heap.size=q:=by have:=st_lt h2.st;omega
  have L3:Hid (Below B w (w2.alloc (.cells #[.string NM, .int .i64 ND, .int .i64 KD, .int .u32 NX, .slice va vl vq] 59))):=hid (Below.trans P.out.2 (Below.trans b2 (h2.low (gb_of bb))))
  clear hcl sc ev hvl h2 bb
  go_upto_region 7 with fail
  generalize hW:(w2.alloc (.cells #[.string NM, .int .i64 ND, .int .i64 KD, .int .u32 NX, .slice va vl vq] 59))=w3 at*
  clear hW k0 k1 k2 k3 k4 hix f2
  have y2:=st3.cell 2 _ rfl
  have y3:=st3.cell 3 _ rfl
  have hkd:=HKK.out
  subst hkd
  go_upto_region 13 with fail
  have hd3:Below w3.heap.size w3 w3.drew:=below_drewN (Below.refl _ _) 1
  have c4:=w_serves (h3.below hd3) ok NM ND 7 NX wd HND.out (.slice va vl vq)
  rw[HSL.out] at c4
  have sd3:=st3.below hd3
  have K1:Hid (w3.drew.cell? ⟨w2.heap.size,0,none⟩=some (.string NM)∧w3.drew.cell? ⟨w2.heap.size,1,none⟩=some (.int .i64 ND)∧w3.drew.cell? ⟨w2.heap.size,2,none⟩=some (.int .i64 7)∧w3.drew.cell? ⟨w2.heap.size,3,none⟩=some (.int .u32 NX)∧w3.drew.cell? ⟨w2.heap.size,4,none⟩=some (.slice va vl vq)):=hid ⟨sd3.cell 0 _ rfl,sd3.cell 1 _ rfl,sd3.cell 2 _ rfl,sd3.cell 3 _ rfl,sd3.cell 4 _ rfl⟩
  have ST3:=hid sd3
  have H3:=hid h3
  have HD3:=hid hd3
  clear h3 st3 sd3 hd3 y2 y3
  go_wp2_with fail
  refine wp_region_held_drew (S:=fun W=>W.cell? ⟨w2.heap.size,0,none⟩=some (.string NM)∧W.cell? ⟨w2.heap.size,1,none⟩=some (.int .i64 ND)∧W.cell? ⟨w2.heap.size,2,none⟩=some (.int .i64 7)∧W.cell? ⟨w2.heap.size,3,none⟩=some (.int .u32 NX)∧W.cell? ⟨w2.heap.size,4,none⟩=some (.slice va vl vq)) (by kernel_rfl) (K1.out) (fun hHeld=> ?_)
  refine wpAnyH_take (i:=0) (v:= ?v6) rfl (by kernel_rfl) (by kernel_rfl) (by kernel_rfl) (fun _ _ _ h=>h) (Or.inl ⟨by kernel_rfl, ?h6⟩) hHeld ?r6
  case h6=>intro W hSw;(try dsimp only at hSw);obtain ⟨s0,s1,s2,s3,s4⟩:=hSw;go_simp;try with_reducible rfl
  simp only[Act.put,List.setIfInBounds_toArray,List.set_cons_zero,List.set_cons_succ]
  refine wpAnyH_take (i:=1) (v:= ?v7) rfl (by kernel_rfl) (by kernel_rfl) (by kernel_rfl) (fun _ _ _ h=>h) (Or.inl ⟨by kernel_rfl, ?h7⟩) hHeld ?r7
  case h7=>intro W hSw;(try dsimp only at hSw);obtain ⟨s0,s1,s2,s3,s4⟩:=hSw;go_simp;try with_reducible rfl
  simp only[Act.put,List.setIfInBounds_toArray,List.set_cons_zero,List.set_cons_succ]
  refine wpAnyH_take (i:=2) (v:= ?v8) rfl (by kernel_rfl) (by kernel_rfl) (by kernel_rfl) (fun _ _ _ h=>h) (Or.inl ⟨by kernel_rfl, ?h8⟩) hHeld ?r8
  case h8=>intro W hSw;(try dsimp only at hSw);obtain ⟨s0,s1,s2,s3,s4⟩:=hSw;go_simp;try with_reducible rfl
  simp only[Act.put,List.setIfInBounds_toArray,List.set_cons_zero,List.set_cons_succ]
  refine wpAnyH_take (i:=3) (v:= ?v9) rfl (by kernel_rfl) (by kernel_rfl) (by kernel_rfl) (fun _ _ _ h=>h) (Or.inl ⟨by kernel_rfl, ?h9⟩) hHeld ?r9
  case h9=>intro W hSw;(try dsimp only at hSw);obtain ⟨s0,s1,s2,s3,s4⟩:=hSw;go_simp;try with_reducible rfl
  simp only[Act.put,List.setIfInBounds_toArray,List.set_cons_zero,List.set_cons_succ]
  refine wpAnyH_ready (rs:=[4]) (by kernel_rfl) (by simp) ?_
  refine AllReadyH.cons rfl (fun K hK=> ?_) AllReadyH.nil
  go_simp
  go_wp2_with (first|(go_at_call 80;refine c4.mono ?_;rintro e w4 ⟨rfl,b4⟩;have ST4:=hid (ST3.out.below b4);have K4:Hid (w4.cell? ⟨w2.heap.size,0,none⟩=some (.string NM)∧w4.cell? ⟨w2.heap.size,1,none⟩=some (.int .i64 ND)∧w4.cell? ⟨w2.heap.size,2,none⟩=some (.int .i64 7)∧w4.cell? ⟨w2.heap.size,3,none⟩=some (.int .u32 NX)∧w4.cell? ⟨w2.heap.size,4,none⟩=some (.slice va vl vq)):=hid ⟨ST4.out.cell 0 _ rfl,ST4.out.cell 1 _ rfl,ST4.out.cell 2 _ rfl,ST4.out.cell 3 _ rfl,ST4.out.cell 4 _ rfl⟩))
  refine hK.out _ _ (K4.out) (fun hHeld=> ?_)
  clear hK K
  (try simp only[Act.put,List.setIfInBounds_toArray,List.set_cons_zero,List.set_cons_succ])
  refine wpAnyH_take (i:=5) (v:= ?v10) rfl (by kernel_rfl) (by kernel_rfl) (by kernel_rfl) (fun _ _ _ h=>h) (Or.inl ⟨by kernel_rfl, ?h10⟩) hHeld ?r10
  case h10=>intro W hSw;(try dsimp only at hSw);obtain ⟨s0,s1,s2,s3,s4⟩:=hSw;go_simp;try with_reducible rfl
  simp only[Act.put,List.setIfInBounds_toArray,List.set_cons_zero,List.set_cons_succ]
  refine wpAnyH_done (by kernel_rfl) ?_ _
  go_upto_region 15 with fail
  have b34:=below_trans HD3.out b4
  have h4:=H3.out.below b34
  have hd4:Below w4.heap.size w4 w4.drew:=below_drewN (Below.refl _ _) 1
  have h5:=h4.below hd4
  obtain ⟨bi,oi,vI,irun,ikey,iown,ist⟩:=h5.inAt s.m.self.toNat C2'.out
  have hlt:NX.toNat < (s.m.insts[s.m.self.toNat]'C2'.out).2.2.2.length:=by have:=C3'.out;rw[EG.out] at this;exact this
  obtain ⟨gi,capi,evI,ci0,cif,cD, -⟩:=ist NX.toNat hlt
  have hgq:¬gi=q∧gi < w4.drew.heap.size:=by
   have o:=iown
   rw[evI] at o
   rcases o.2 with ⟨o1,_⟩|⟨g',cap',cur,o1,_,o3,_⟩
   ·cases o1
   ·injection o1 with o1
    injection o1 with o1
    injection o1 with o1
    subst o1
    refine ⟨fun e=> ?_,heap_lt' o3⟩
    have st:=h5.st
    unfold Stands at st
    rw[←e,o3] at st
    injection st with st
    injection st with _ st
    revert st
    decide
  have enx:((NX.toNat:Nat):Int)=NX:=Int.toNat_of_nonneg HNU.out.1
  have iix:=idx_c32 .u32 gi _ capi NX.toNat hlt
  rw[enx] at iix
  have ecx:(s.m.insts[s.m.self.toNat]'C2'.out).2.2.2.getD NX.toNat 0=X:=by rw[←EG.out];exact HX.out
  rw[ecx] at ci0
  rw[show ((s.m.self.toNat:Nat):Int)=s.m.self from Int.toNat_of_nonneg C1'.out] at irun
  obtain ⟨ia,iq,ei⟩:=slr_slice h5.rdm.insts
  have irun':∀w',(Instr.indexAt 28 (.slice ia s.m.insts.length iq) (.int .i64 s.m.self)).run Tryz.prog w'= .ok (.pointer (some ⟨bi,oi,none⟩)) w':=fun w'=>by rw[←ei];exact irun w'
  obtain ⟨LL,hLL⟩:∃l,(s.m.insts[s.m.self.toNat]'C2'.out).2.2.2.length=l:=⟨_,rfl⟩
  have evI':vI= .slice (some ⟨gi,0,none⟩) LL capi:=by rw[evI,←hLL]
  rw[hLL] at iix
  have ba:Below w4.drew.heap.size w4.drew (w4.alloc (.cells #[.int .u32 X] 26)).drew:=⟨rfl,rfl,rfl,(box_below w4 (.cells #[.int .u32 X] 26)).size,fun k hk=>(box_below w4 (.cells #[.int .u32 X] 26)).block k hk⟩
  have ba4:Below w4.heap.size w4 (w4.alloc (.cells #[.int .u32 X] 26)).drew:=below_trans (box_below _ _) (below_drewN (Below.refl _ _) 1)
  have h6:=h4.below ba4
  have cl:=w_leaveAg h6 (.slice (some ⟨w4.heap.size,0,none⟩) 1 1) [X] ((rd_one w4 X 26).below (below_drewN (Below.refl _ _) 1)) hsl (by simp)
  rw[HA.out] at cl
  have ST6:=hid (ST4.out.below ba4)
  have S5:=ST4.out.below hd4
  have GC:Hid ((w4.alloc (.cells #[.int .u32 X] 26)).drew.cell? ⟨gi,NX.toNat,none⟩=some (.int .u32 X)∧gi < (w4.alloc (.cells #[.int .u32 X] 26)).drew.heap.size):=hid ⟨below_cell ba ci0,Nat.lt_of_lt_of_le hgq.2 ba.size⟩
  have K5:Hid (w4.drew.cell? ⟨q,7,none⟩=some (.slice ia s.m.insts.length iq)∧w4.drew.cell? ⟨q,8,none⟩=some (.int .i64 s.m.self)∧w4.drew.cell? ⟨bi,oi+3,none⟩=some (.slice (some ⟨gi,0,none⟩) LL capi)∧w4.drew.cell? ⟨w2.heap.size,3,none⟩=some (.int .u32 NX)∧w4.drew.cell? ⟨gi,NX.toNat,none⟩=some (.int .u32 X)):=hid ⟨by rw[←ei];exact h5.c7,h5.c8,by rw[←evI'];exact (ikey _ (Agr.refl _ _ _)).2,S5.cell 3 _ rfl,ci0⟩
  have IK:Hid (∀W,Agr kR D w4.drew W→W.cell? ⟨bi,oi+3,none⟩=some (.slice (some ⟨gi,0,none⟩) LL capi)):=hid (fun W g=>by rw[←evI'];exact (ikey W g).2)
  have KQ:Hid (∀W vs l,RunL B D W q (s.stk vs l) b vf fs (-1) (fuel - 1) thr→W.cell? ⟨q,7,none⟩=some (.slice ia s.m.insts.length iq)∧W.cell? ⟨q,8,none⟩=some (.int .i64 s.m.self)):=hid (fun W vs l hh=>⟨by rw[←ei];exact hh.c7,hh.c8⟩)
  have K6:Hid ((w4.alloc (.cells #[.int .u32 X] 26)).drew.cell? ⟨q,7,none⟩=some (.slice ia s.m.insts.length iq)∧(w4.alloc (.cells #[.int .u32 X] 26)).drew.cell? ⟨q,8,none⟩=some (.int .i64 s.m.self)∧(w4.alloc (.cells #[.int .u32 X] 26)).drew.cell? ⟨bi,oi+3,none⟩=some (.slice (some ⟨gi,0,none⟩) LL capi)∧(w4.alloc (.cells #[.int .u32 X] 26)).drew.cell? ⟨w2.heap.size,3,none⟩=some (.int .u32 NX)∧(w4.alloc (.cells #[.int .u32 X] 26)).drew.cell? ⟨gi,NX.toNat,none⟩=some (.int .u32 X)):=hid ⟨by rw[←ei];exact h6.c7,h6.c8,IK.out _ (Agr.below ba),ST6.out.cell 3 _ rfl,GC.out.1⟩
  have H6:=hid h6
  have BA:=hid ba
  have L6:Hid (Below B w (w4.alloc (.cells #[.int .u32 X] 26)).drew):=hid (Below.trans L3.out (Below.trans (H3.out.low (gb_of b34)) (h4.low (gb_of ba4))))
  obtain ⟨SS,hSS⟩:∃S,s.m.self=S:=⟨_,rfl⟩
  obtain ⟨NN,hNN⟩:∃S,NX.toNat=S:=⟨_,rfl⟩
  rw[hSS] at K5 K6 KQ irun'
  rw[hNN] at K5 K6 iix GC
  have HGQ:=hid hgq
  clear h4 h5 h6 ikey irun iown ist evI evI' ci0 cif cD ei ba ba4 S5 hLL hSS hNN b34 hd4 enx ecx hgq hlt
  go_wp2_with fail
  refine wp_region_held_drew (S:=fun W=>W.cell? ⟨q,7,none⟩=some (.slice ia s.m.insts.length iq)∧W.cell? ⟨q,8,none⟩=some (.int .i64 SS)∧W.cell? ⟨bi,oi+3,none⟩=some (.slice (some ⟨gi,0,none⟩) LL capi)∧W.cell? ⟨w2.heap.size,3,none⟩=some (.int .u32 NX)∧W.cell? ⟨gi,NN,none⟩=some (.int .u32 X)) (by kernel_rfl) (K5.out) (fun hHeld=> ?_)
  refine wpAnyH_take (i:=0) (v:= ?v11) rfl (by kernel_rfl) (by kernel_rfl) (by kernel_rfl) (fun _ _ _ h=>h) (Or.inl ⟨by kernel_rfl, ?h11⟩) hHeld ?r11
  case h11=>intro W hSw;(try dsimp only at hSw);obtain ⟨s0,s1,s2,s3,s4⟩:=hSw;go_simp;try with_reducible rfl
  simp only[Act.put,List.setIfInBounds_toArray,List.set_cons_zero,List.set_cons_succ]
  refine wpAnyH_take (i:=1) (v:= ?v12) rfl (by kernel_rfl) (by kernel_rfl) (by kernel_rfl) (fun _ _ _ h=>h) (Or.inl ⟨by kernel_rfl, ?h12⟩) hHeld ?r12
  case h12=>intro W hSw;(try dsimp only at hSw);obtain ⟨s0,s1,s2,s3,s4⟩:=hSw;go_simp;try with_reducible rfl
  simp only[Act.put,List.setIfInBounds_toArray,List.set_cons_zero,List.set_cons_succ]
  refine wpAnyH_take (i:=2) (v:= ?v13) rfl (by kernel_rfl) (by kernel_rfl) (by kernel_rfl) (fun _ _ _ h=>h) (Or.inl ⟨by kernel_rfl, ?h13⟩) hHeld ?r13
  case h13=>intro W hSw;(try dsimp only at hSw);obtain ⟨s0,s1,s2,s3,s4⟩:=hSw;go_simp;try with_reducible rfl
  simp only[Act.put,List.setIfInBounds_toArray,List.set_cons_zero,List.set_cons_succ]
  refine wpAnyH_take (i:=3) (v:= ?v14) rfl (by kernel_rfl) (by kernel_rfl) (by kernel_rfl) (fun _ _ _ h=>h) (Or.inl ⟨by kernel_rfl, ?h14⟩) hHeld ?r14
  case h14=>intro W hSw;(try dsimp only at hSw);obtain ⟨s0,s1,s2,s3,s4⟩:=hSw;go_simp;try with_reducible rfl
  simp only[Act.put,List.setIfInBounds_toArray,List.set_cons_zero,List.set_cons_succ]
  refine wpAnyH_take (i:=4) (v:= ?v15) rfl (by kernel_rfl) (by kernel_rfl) (by kernel_rfl) (fun _ _ _ h=>h) (Or.inl ⟨by kernel_rfl, ?h15⟩) hHeld ?r15
  case h15=>intro W hSw;(try dsimp only at hSw);obtain ⟨s0,s1,s2,s3,s4⟩:=hSw;go_simp;try with_reducible rfl
  simp only[Act.put,List.setIfInBounds_toArray,List.set_cons_zero,List.set_cons_succ]
  refine wpAnyH_take (i:=5) (v:= ?v16) rfl (by kernel_rfl) (by kernel_rfl) (by kernel_rfl) (fun _ _ _ h=>h) (Or.inl ⟨by kernel_rfl, ?h16⟩) hHeld ?r16
  case h16=>intro W hSw;(try dsimp only at hSw);obtain ⟨s0,s1,s2,s3,s4⟩:=hSw;go_simp;try with_reducible rfl
  simp only[Act.put,List.setIfInBounds_toArray,List.set_cons_zero,List.set_cons_succ]
  refine wpAnyH_take (i:=6) (v:= ?v17) rfl (by kernel_rfl) (by kernel_rfl) (by kernel_rfl) (fun _ _ _ h=>h) (Or.inl ⟨by kernel_rfl, ?h17⟩) hHeld ?r17
  case h17=>intro W hSw;(try dsimp only at hSw);obtain ⟨s0,s1,s2,s3,s4⟩:=hSw;go_simp;try with_reducible rfl
  simp only[Act.put,List.setIfInBounds_toArray,List.set_cons_zero,List.set_cons_succ]
  refine wpAnyH_take (i:=7) (v:= ?v18) rfl (by kernel_rfl) (by kernel_rfl) (by kernel_rfl) (fun _ _ _ h=>h) (Or.inl ⟨by kernel_rfl, ?h18⟩) hHeld ?r18
  case h18=>intro W hSw;(try dsimp only at hSw);obtain ⟨s0,s1,s2,s3,s4⟩:=hSw;go_simp;try with_reducible rfl
  simp only[Act.put,List.setIfInBounds_toArray,List.set_cons_zero,List.set_cons_succ]
  refine wpAnyH_take (i:=8) (v:= ?v19) rfl (by kernel_rfl) (by kernel_rfl) (by kernel_rfl) (fun _ _ _ h=>h) (Or.inl ⟨by kernel_rfl, ?h19⟩) hHeld ?r19
  case h19=>intro W hSw;(try dsimp only at hSw);obtain ⟨s0,s1,s2,s3,s4⟩:=hSw;go_simp;try with_reducible rfl
  simp only[Act.put,List.setIfInBounds_toArray,List.set_cons_zero,List.set_cons_succ]
  refine wpAnyH_take (i:=9) (v:= ?v20) rfl (by kernel_rfl) (by kernel_rfl) (by kernel_rfl) (fun _ _ _ h=>h) (Or.inl ⟨by kernel_rfl, ?h20⟩) hHeld ?r20
  case h20=>intro W hSw;(try dsimp only at hSw);obtain ⟨s0,s1,s2,s3,s4⟩:=hSw;go_simp;try with_reducible rfl
  simp only[Act.put,List.setIfInBounds_toArray,List.set_cons_zero,List.set_cons_succ]
  refine wpAnyH_take (i:=10) (v:= ?v21) rfl (by kernel_rfl) (by kernel_rfl) (by kernel_rfl) (fun _ _ _ h=>h) (Or.inl ⟨by kernel_rfl, ?h21⟩) hHeld ?r21
  case h21=>intro W hSw;(try dsimp only at hSw);obtain ⟨s0,s1,s2,s3,s4⟩:=hSw;go_simp;try with_reducible rfl
  simp only[Act.put,List.setIfInBounds_toArray,List.set_cons_zero,List.set_cons_succ]
  refine wpAnyH_take (i:=11) (v:= ?v22) rfl (by kernel_rfl) (by kernel_rfl) (by kernel_rfl) (fun _ _ _ h=>h) (Or.inl ⟨by kernel_rfl, ?h22⟩) hHeld ?r22
  case h22=>intro W hSw;(try dsimp only at hSw);obtain ⟨s0,s1,s2,s3,s4⟩:=hSw;go_simp;try with_reducible rfl
  simp only[Act.put,List.setIfInBounds_toArray,List.set_cons_zero,List.set_cons_succ]
  refine wpAnyH_take (i:=12) (v:= ?v23) rfl (by kernel_rfl) (by kernel_rfl) (by kernel_rfl) (fun _ _ _ h=>h) (Or.inl ⟨by kernel_rfl, ?h23⟩) hHeld ?r23
  case h23=>intro W hSw;(try dsimp only at hSw);obtain ⟨s0,s1,s2,s3,s4⟩:=hSw;go_simp;try with_reducible rfl
  simp only[Act.put,List.setIfInBounds_toArray,List.set_cons_zero,List.set_cons_succ]
  refine wpAnyH_take (i:=13) (v:= ?v24) rfl (by kernel_rfl) (by kernel_rfl) (by kernel_rfl) (fun _ _ _ h=>h) (Or.inl ⟨by kernel_rfl, ?h24⟩) hHeld ?r24
  case h24=>intro W hSw;(try dsimp only at hSw);obtain ⟨s0,s1,s2,s3,s4⟩:=hSw;go_simp;try with_reducible rfl
  simp only[Act.put,List.setIfInBounds_toArray,List.set_cons_zero,List.set_cons_succ]
  refine wpAnyH_take (i:=14) (v:= ?v25) rfl (by kernel_rfl) (by kernel_rfl) (by kernel_rfl) (fun _ _ _ h=>h) (Or.inl ⟨by kernel_rfl, ?h25⟩) hHeld ?r25
  case h25=>intro W hSw;(try dsimp only at hSw);obtain ⟨s0,s1,s2,s3,s4⟩:=hSw;go_simp;try with_reducible rfl
  simp only[Act.put,List.setIfInBounds_toArray,List.set_cons_zero,List.set_cons_succ]
  refine wpAnyH_take (i:=15) (v:= ?v26) rfl (by kernel_rfl) (by kernel_rfl) (by kernel_rfl) (fun _ _ _ h=>h) (Or.inl ⟨by kernel_rfl, ?h26⟩) hHeld ?r26
  case h26=>intro W hSw;(try dsimp only at hSw);obtain ⟨s0,s1,s2,s3,s4⟩:=hSw;go_simp;try with_reducible rfl
  simp only[Act.put,List.setIfInBounds_toArray,List.set_cons_zero,List.set_cons_succ]
  refine wpAnyH_take (i:=16) (v:= ?v27) rfl (by kernel_rfl) (by kernel_rfl) (by kernel_rfl) (fun _ _ _ h=>h) (Or.inl ⟨by kernel_rfl, ?h27⟩) hHeld ?r27
  case h27=>intro W hSw;(try dsimp only at hSw);obtain ⟨s0,s1,s2,s3,s4⟩:=hSw;go_simp;try with_reducible rfl
  simp only[Act.put,List.setIfInBounds_toArray,List.set_cons_zero,List.set_cons_succ]
  refine wpAnyH_take (i:=17) (v:= ?v28) rfl (by kernel_rfl) (by kernel_rfl) (by kernel_rfl) (fun _ _ _ h=>h) (Or.inl ⟨by kernel_rfl, ?h28⟩) hHeld ?r28
  case h28=>intro W hSw;(try dsimp only at hSw);obtain ⟨s0,s1,s2,s3,s4⟩:=hSw;go_simp;try with_reducible rfl
  simp only[Act.put,List.setIfInBounds_toArray,List.set_cons_zero,List.set_cons_succ]
  refine wpAnyH_take (i:=18) (v:= ?v29) rfl (by kernel_rfl) (by kernel_rfl) (by kernel_rfl) (fun _ _ _ h=>h) (Or.inl ⟨by kernel_rfl, ?h29⟩) hHeld ?r29
  case h29=>intro W hSw;(try dsimp only at hSw);obtain ⟨s0,s1,s2,s3,s4⟩:=hSw;go_simp;try with_reducible rfl
  simp only[Act.put,List.setIfInBounds_toArray,List.set_cons_zero,List.set_cons_succ]
  refine wpAnyH_take (i:=19) (v:= ?v30) rfl (by kernel_rfl) (by kernel_rfl) (by kernel_rfl) (fun _ _ _ h=>h) (Or.inl ⟨by kernel_rfl, ?h30⟩) hHeld ?r30
  case h30=>intro W hSw;(try dsimp only at hSw);obtain ⟨s0,s1,s2,s3,s4⟩:=hSw;go_simp;try with_reducible rfl
  simp only[Act.put,List.setIfInBounds_toArray,List.set_cons_zero,List.set_cons_succ]
  refine wpAnyH_take (i:=20) (v:= ?v31) rfl (by kernel_rfl) (by kernel_rfl) (by kernel_rfl) (fun _ _ _ h=>h) (Or.inl ⟨by kernel_rfl, ?h31⟩) hHeld ?r31
  case h31=>intro W hSw;(try dsimp only at hSw);obtain ⟨s0,s1,s2,s3,s4⟩:=hSw;go_simp;try with_reducible rfl
  simp only[Act.put,List.setIfInBounds_toArray,List.set_cons_zero,List.set_cons_succ]
  refine wpAnyH_take (i:=21) (v:= ?v32) rfl (by kernel_rfl) (by kernel_rfl) (by kernel_rfl) (fun _ _ _ h=>h) (Or.inl ⟨by kernel_rfl, ?h32⟩) hHeld ?r32
  case h32=>intro W hSw;(try dsimp only at hSw);obtain ⟨s0,s1,s2,s3,s4⟩:=hSw;go_simp;try with_reducible rfl
  simp only[Act.put,List.setIfInBounds_toArray,List.set_cons_zero,List.set_cons_succ]
  refine wpAnyH_ready (rs:=[22]) (by kernel_rfl) (by simp) ?_
  refine AllReadyH.cons rfl (fun K hK=> ?_) AllReadyH.nil
  go_simp
  refine hK.out _ _ (K6.out) (fun hHeld=> ?_)
  clear hK K
  (try simp only[Act.put,List.setIfInBounds_toArray,List.set_cons_zero,List.set_cons_succ])
  refine wpAnyH_ready (rs:=[23]) (by kernel_rfl) (by simp) ?_
  refine AllReadyH.cons rfl (fun K hK=> ?_) AllReadyH.nil
  go_simp
  go_wp2_with (first|(go_at_call 79;refine cl.mono ?_;rintro e w7 ⟨v7,l7,rfl,h7,b7,p7,n7,g7⟩;have K7:Hid (w7.cell? ⟨q,7,none⟩=some (.slice ia s.m.insts.length iq)∧w7.cell? ⟨q,8,none⟩=some (.int .i64 SS)∧w7.cell? ⟨bi,oi+3,none⟩=some (.slice (some ⟨gi,0,none⟩) LL capi)∧w7.cell? ⟨w2.heap.size,3,none⟩=some (.int .u32 NX)∧w7.cell? ⟨gi,NN,none⟩=some (.int .u32 X)):=hid ⟨(KQ.out _ _ _ h7).1,(KQ.out _ _ _ h7).2,IK.out _ ((Agr.below BA.out).trans (H6.out.agr g7)),(st_gb ST6.out g7 hqb).cell 3 _ rfl,cell_gb GC.out.1 GC.out.2 g7 HGQ.out.1⟩))
  refine hK.out _ _ (K7.out) (fun hHeld=> ?_)
  clear hK K
  (try simp only[Act.put,List.setIfInBounds_toArray,List.set_cons_zero,List.set_cons_succ])
  refine wpAnyH_ready (rs:=[24]) (by kernel_rfl) (by simp) ?_
  refine AllReadyH.cons rfl (fun K hK=> ?_) AllReadyH.nil
  go_simp
  refine hK.out _ _ (K7.out) (fun hHeld=> ?_)
  clear hK K
  (try simp only[Act.put,List.setIfInBounds_toArray,List.set_cons_zero,List.set_cons_succ])
  refine wpAnyH_done (by kernel_rfl) ?_ _
  go_wp2_with fail
  go_ret
  refine ⟨rfl,Below.trans L6.out b7,_,_,h7,fun e=> ?_,fun _=>⟨rfl,rfl⟩⟩
  obtain ⟨p8,p9⟩:=p7 e
  subst p8
  refine ⟨?_,rfl⟩
  rw[p9]
  rfl
theorem w_begin {B:Nat} {D:Nat→Prop} {w:World} {q:Nat} {s b:Sv} {vf:Value} {fs:List Fm} {fuel thr:Int} (k:Nat) (h:RunL B D w q s b vf fs (k:Int) fuel thr) (ok:Okr (toR s fs thr)) (hl:fs.length≤1000000) (hb0:0≤bsF fs) (f0:0 < fuel) (f1:fuel≤100000) (hk:k < s.m.words.length) (hd:dpF fs≤32) (ha:Acc s.m.words fs) (hx:aX (k:Int)):
  Calls Tryz.prog 60 #[.pointer (some ⟨q,0,none⟩)] w (OtP B D q s b (fuel - 1) w (begO (k:Int) (toR s fs thr) fs) rtE):=by
 have eg:s.m.words.getD k ([],0,0,0,[])=s.m.words[k]:=by
  rw[List.getD_eq_getElem?_getD,List.getElem?_eq_getElem hk]
  rfl
 rcases wd_is (m:=s.m) ok.frm hk with c|c
 ·rw[eg] at c
  have hcc:=acc_prim (xt:=(k:Int)) ha hx (by omega) (by rw[Int.toNat_natCast,eg];exact c.1) (by omega)
  rw[Int.toNat_natCast,eg] at hcc
  exact w_beginP k h ok hl hb0 f0 f1 hk hd c.1 c.2 hcc
 ·rw[eg] at c
  rcases (show s.m.words[k].2.2.1=2∨(s.m.words[k].2.2.1=3∨s.m.words[k].2.2.1=4∨s.m.words[k].2.2.1=5)∨s.m.words[k].2.2.1=6∨s.m.words[k].2.2.1=7 by omega) with e|e|e|e
  ·exact w_beginC k h ok hl hb0 f0 f1 hk hd e
  ·exact w_beginN k h ok hl hb0 f0 f1 hk hd e
  ·exact w_beginD k h ok hl hb0 f0 f1 hk hd e
  ·exact w_beginI k h ok hl hb0 f0 f1 hk hd e
set_option maxHeartbeats 1000000 in
theorem w_closeCol {B:Nat} {D:Nat→Prop} {w:World} {q:Nat} {s b:Sv} {vf:Value} {bs wd at_:Int} {r:List Fm} {fuel thr:Int} (h:RunL B D w q s b vf (.colon bs wd at_::r) (-1) fuel thr) (hrl:s.ret.length≤64) (hl:r.length≤999999) (hd:dpF r≤32):
  Calls Tryz.prog 86 #[.pointer (some ⟨q,0,none⟩)] w (OtP B D q s b fuel w (if (s.ret.length:Int)=bs then ⟨s.m,s.ret,r, -1,thr,0⟩ else ⟨s.m,s.ret, .colon bs wd at_::r, -1,thr,12⟩) rtE):=by
 have cv:=w_level h (by simp;omega) hrl
 rw[show bsF (.colon bs wd at_::r)=bs from rfl] at cv
 have cc:=fun W (b2:Below w.heap.size w W)=>w_closeColonF (h.below b2) (by omega) hd
 have CC:=hid cc
 have HH:=hid h
 clear h cc
 by_cases hc:(s.ret.length:Int)=bs
 ·rw[if_pos hc] at cv ⊢
  clear hc
  go_enter Tryz.func86,Tryz.ntmps86
  go_wp2_with (first
   |(go_at_call 61;refine cv.mono ?_;rintro e w2 ⟨rfl,b2⟩)
   |(go_at_call 85;refine (CC.out _ b2).mono ?_;rintro e w3 ⟨rfl,b3,vf',h3⟩))
  go_ret
  exact OtP.yes (Below.trans (HH.out.low (gb_of b2)) b3) h3 rfl rfl
 ·rw[if_neg hc] at cv ⊢
  clear hc
  go_enter Tryz.func86,Tryz.ntmps86
  go_wp2_with (go_at_call 61;refine cv.mono ?_;rintro e w2 ⟨rfl,b2⟩)
  go_ret
  exact OtP.no (by decide) (HH.out.low (gb_of b2)) (HH.out.below b2) rfl rfl
set_option maxHeartbeats 1000000 in
theorem w_closeCat {B:Nat} {D:Nat→Prop} {w:World} {q:Nat} {s b:Sv} {vf:Value} {bs hh sl:Int} {r:List Fm} {fuel thr:Int} (h:RunL B D w q s b vf (.catch bs hh sl::r) (-1) fuel thr) (hsl:s.m.stack.length≤64) (hrl:s.ret.length≤64) (hl:r.length≤999999):
  Calls Tryz.prog 84 #[.pointer (some ⟨q,0,none⟩)] w (OtP B D q s b fuel w (if (s.ret.length:Int)=bs then ⟨(iSwp (toR s r thr) 0 [0]).1.m,s.ret,r, -1,thr,(iSwp (toR s r thr) 0 [0]).2⟩ else ⟨s.m,s.ret, .catch bs hh sl::r, -1,thr,12⟩) rtE):=by
 have cv:=w_level h (by simp;omega) hrl
 rw[show bsF (.catch bs hh sl::r)=bs from rfl] at cv
 have cc:=fun W (b2:Below w.heap.size w W)=>w_closeCatchF (h.below b2) (by omega)
 have CC:=hid cc
 have HH:=hid h
 clear h cc
 by_cases hc:(s.ret.length:Int)=bs
 ·rw[if_pos hc] at cv ⊢
  clear hc
  have cl:=fun W vf' (h3:RunL B D W q s b vf' r (-1) fuel thr)=>w_leaveA (h3.below (box_below W (.cells #[.int .u32 0] 26))) _ _ (rd_one W 0 26) hsl (by simp)
  obtain ⟨E,hE⟩:∃E,(iSwp (toR s r thr) 0 [0]).2=E:=⟨_,rfl⟩
  obtain ⟨O,hO⟩:∃O:Ot,(⟨(iSwp (toR s r thr) 0 [0]).1.m,s.ret,r, -1,thr,(iSwp (toR s r thr) 0 [0]).2⟩:Ot)=O:=⟨_,rfl⟩
  rw[hO]
  rw[hE] at hO
  simp only[hE] at cl
  have CL:=hid cl
  have HO:=hid hO
  clear hE hO cl
  go_enter Tryz.func84,Tryz.ntmps84
  go_wp2_with (first
   |(go_at_call 61;refine cv.mono ?_;rintro e w2 ⟨rfl,b2⟩)
   |(go_at_call 85;refine (CC.out _ b2).mono ?_;rintro e w3 ⟨rfl,b3,vf',h3⟩;have H3:Hid (RunL B D w3 q s b vf' r (-1) fuel thr):=hid h3;clear h3)
   |(go_at_call 79;refine (CL.out _ _ H3.out).mono ?_;rintro e w4 ⟨v1,l,rfl,h4,b4,p4,n4⟩))
  go_ret
  have eo:=HO.out
  subst eo
  refine ⟨rfl,Below.trans (HH.out.low (gb_of b2)) (Below.trans b3 (Below.trans (H3.out.low (gb_of (box_below _ _))) b4)),_,_,h4,fun e=> ?_,fun _=>⟨rfl,rfl⟩⟩
  obtain ⟨p5,p6⟩:=p4 e
  subst p5
  refine ⟨?_,rfl⟩
  rw[p6]
  rfl
 ·rw[if_neg hc] at cv ⊢
  clear hc
  go_enter Tryz.func84,Tryz.ntmps84
  go_wp2_with (go_at_call 61;refine cv.mono ?_;rintro e w2 ⟨rfl,b2⟩)
  go_ret
  exact OtP.no (by decide) (HH.out.low (gb_of b2)) (HH.out.below b2) rfl rfl
set_option maxHeartbeats 1000000 in
theorem w_ins4 {B:Nat} {D:Nat→Prop} {w:World} {q:Nat} {s b:Sv} {vf:Value} {bs wd at_:Int} {r:List Fm} {fuel thr:Int} (h:RunL B D w q s b vf (.colon bs wd at_::r) (-1) fuel thr) (ok:Okr (toR s (.colon bs wd at_::r) thr)) (hl:r.length≤999999) (hb0:0≤bs) (hd:dpF r≤32) (n:Int) (hn:0≤n∧n < 4294967296):
  Calls Tryz.prog 87 #[.pointer (some ⟨q,0,none⟩), .agg #[.int .i64 4, .int .u32 n]] w (OtP B D q s b fuel w (opO (4,n) (toR s (.colon bs wd at_::r) thr) bs wd at_ r) rtE):=by
 have hsl:s.m.stack.length≤64:=h64_of ok
 have hrl:s.ret.length≤64:=ok.ran.retL
 have hown:iOwn (toR s (.colon bs wd at_::r) thr)=(s.ret.length:Int) - bs:=rfl
 have bb:=box_below w (.cells #[.int .i64 4, .int .u32 n] 47)
 have h1:=h.below bb
 have L1:Hid (Below B w (w.alloc (.cells #[.int .i64 4, .int .u32 n] 47))):=hid (h.low (gb_of bb))
 have c:=w_ifZero h1 ok hl hb0 n hn
 obtain ⟨O,hO⟩:∃O:Ot,opO (4,n) (toR s (.colon bs wd at_::r) thr) bs wd at_ r=O:=⟨_,rfl⟩
 rw[hO] at c ⊢
 clear h h1 hO bb hown
 go_enter Tryz.func87,Tryz.ntmps87
 go_wp2_with (go_at_call 128;refine c.mono ?_;rintro e w2 P2;obtain rfl:e= .returned (.int .i64 O.e):=P2.1)
 go_ret
 exact P2.from L1.out rfl rfl
set_option maxHeartbeats 1000000 in
theorem w_ins5 {B:Nat} {D:Nat→Prop} {w:World} {q:Nat} {s b:Sv} {vf:Value} {bs wd at_:Int} {r:List Fm} {fuel thr:Int} (h:RunL B D w q s b vf (.colon bs wd at_::r) (-1) fuel thr) (ok:Okr (toR s (.colon bs wd at_::r) thr)) (hl:r.length≤999999) (hb0:0≤bs) (hd:dpF r≤32) (n:Int) (hn:0≤n∧n < 4294967296):
  Calls Tryz.prog 87 #[.pointer (some ⟨q,0,none⟩), .agg #[.int .i64 5, .int .u32 n]] w (OtP B D q s b fuel w (opO (5,n) (toR s (.colon bs wd at_::r) thr) bs wd at_ r) rtE):=by
 have hsl:s.m.stack.length≤64:=h64_of ok
 have hrl:s.ret.length≤64:=ok.ran.retL
 have hown:iOwn (toR s (.colon bs wd at_::r) thr)=(s.ret.length:Int) - bs:=rfl
 have bb:=box_below w (.cells #[.int .i64 5, .int .u32 n] 47)
 have h1:=h.below bb
 have L1:Hid (Below B w (w.alloc (.cells #[.int .i64 5, .int .u32 n] 47))):=hid (h.low (gb_of bb))
 have c:=w_openLoop h1 ok hl hb0 n hn 5 (Or.inl rfl)
 obtain ⟨O,hO⟩:∃O:Ot,opO (5,n) (toR s (.colon bs wd at_::r) thr) bs wd at_ r=O:=⟨_,rfl⟩
 rw[hO] at c ⊢
 clear h h1 hO bb hown
 go_enter Tryz.func87,Tryz.ntmps87
 go_wp2_with (go_at_call 129;refine c.mono ?_;rintro e w2 P2;obtain rfl:e= .returned (.int .i64 O.e):=P2.1)
 go_ret
 exact P2.from L1.out rfl rfl
set_option maxHeartbeats 1000000 in
theorem w_ins6 {B:Nat} {D:Nat→Prop} {w:World} {q:Nat} {s b:Sv} {vf:Value} {bs wd at_:Int} {r:List Fm} {fuel thr:Int} (h:RunL B D w q s b vf (.colon bs wd at_::r) (-1) fuel thr) (ok:Okr (toR s (.colon bs wd at_::r) thr)) (hl:r.length≤999999) (hb0:0≤bs) (hd:dpF r≤32) (n:Int) (hn:0≤n∧n < 4294967296):
  Calls Tryz.prog 87 #[.pointer (some ⟨q,0,none⟩), .agg #[.int .i64 6, .int .u32 n]] w (OtP B D q s b fuel w (opO (6,n) (toR s (.colon bs wd at_::r) thr) bs wd at_ r) rtE):=by
 have hsl:s.m.stack.length≤64:=h64_of ok
 have hrl:s.ret.length≤64:=ok.ran.retL
 have hown:iOwn (toR s (.colon bs wd at_::r) thr)=(s.ret.length:Int) - bs:=rfl
 have bb:=box_below w (.cells #[.int .i64 6, .int .u32 n] 47)
 have h1:=h.below bb
 have L1:Hid (Below B w (w.alloc (.cells #[.int .i64 6, .int .u32 n] 47))):=hid (h.low (gb_of bb))
 have c:=w_openLoop h1 ok hl hb0 n hn 6 (Or.inr rfl)
 obtain ⟨O,hO⟩:∃O:Ot,opO (6,n) (toR s (.colon bs wd at_::r) thr) bs wd at_ r=O:=⟨_,rfl⟩
 rw[hO] at c ⊢
 clear h h1 hO bb hown
 go_enter Tryz.func87,Tryz.ntmps87
 go_wp2_with (go_at_call 129;refine c.mono ?_;rintro e w2 P2;obtain rfl:e= .returned (.int .i64 O.e):=P2.1)
 go_ret
 exact P2.from L1.out rfl rfl
set_option maxHeartbeats 1000000 in
theorem w_ins8 {B:Nat} {D:Nat→Prop} {w:World} {q:Nat} {s b:Sv} {vf:Value} {bs wd at_:Int} {r:List Fm} {fuel thr:Int} (h:RunL B D w q s b vf (.colon bs wd at_::r) (-1) fuel thr) (ok:Okr (toR s (.colon bs wd at_::r) thr)) (hl:r.length≤999999) (hb0:0≤bs) (hd:dpF r≤32) (n:Int) (hn:0≤n∧n < 4294967296):
  Calls Tryz.prog 87 #[.pointer (some ⟨q,0,none⟩), .agg #[.int .i64 8, .int .u32 n]] w (OtP B D q s b fuel w (opO (8,n) (toR s (.colon bs wd at_::r) thr) bs wd at_ r) rtE):=by
 have hsl:s.m.stack.length≤64:=h64_of ok
 have hrl:s.ret.length≤64:=ok.ran.retL
 have hown:iOwn (toR s (.colon bs wd at_::r) thr)=(s.ret.length:Int) - bs:=rfl
 have bb:=box_below w (.cells #[.int .i64 8, .int .u32 n] 47)
 have h1:=h.below bb
 have L1:Hid (Below B w (w.alloc (.cells #[.int .i64 8, .int .u32 n] 47))):=hid (h.low (gb_of bb))
 have c:=w_againBy h1 ok hl hb0 n hn
 obtain ⟨O,hO⟩:∃O:Ot,opO (8,n) (toR s (.colon bs wd at_::r) thr) bs wd at_ r=O:=⟨_,rfl⟩
 rw[hO] at c ⊢
 clear h h1 hO bb hown
 go_enter Tryz.func87,Tryz.ntmps87
 go_wp2_with (go_at_call 131;refine c.mono ?_;rintro e w2 P2;obtain rfl:e= .returned (.int .i64 O.e):=P2.1)
 go_ret
 exact P2.from L1.out rfl rfl
set_option maxHeartbeats 1000000 in
theorem w_ins9 {B:Nat} {D:Nat→Prop} {w:World} {q:Nat} {s b:Sv} {vf:Value} {bs wd at_:Int} {r:List Fm} {fuel thr:Int} (h:RunL B D w q s b vf (.colon bs wd at_::r) (-1) fuel thr) (ok:Okr (toR s (.colon bs wd at_::r) thr)) (hl:r.length≤999999) (hb0:0≤bs) (hd:dpF r≤32) (n:Int) (hn:0≤n∧n < 4294967296):
  Calls Tryz.prog 87 #[.pointer (some ⟨q,0,none⟩), .agg #[.int .i64 9, .int .u32 n]] w (OtP B D q s b fuel w (opO (9,n) (toR s (.colon bs wd at_::r) thr) bs wd at_ r) rtE):=by
 have hsl:s.m.stack.length≤64:=h64_of ok
 have hrl:s.ret.length≤64:=ok.ran.retL
 have hown:iOwn (toR s (.colon bs wd at_::r) thr)=(s.ret.length:Int) - bs:=rfl
 have bb:=box_below w (.cells #[.int .i64 9, .int .u32 n] 47)
 have h1:=h.below bb
 have L1:Hid (Below B w (w.alloc (.cells #[.int .i64 9, .int .u32 n] 47))):=hid (h.low (gb_of bb))
 have c:=w_outLoop h1 ok hl hb0 n hn
 obtain ⟨O,hO⟩:∃O:Ot,opO (9,n) (toR s (.colon bs wd at_::r) thr) bs wd at_ r=O:=⟨_,rfl⟩
 rw[hO] at c ⊢
 clear h h1 hO bb hown
 go_enter Tryz.func87,Tryz.ntmps87
 go_wp2_with (go_at_call 132;refine c.mono ?_;rintro e w2 P2;obtain rfl:e= .returned (.int .i64 O.e):=P2.1)
 go_ret
 exact P2.from L1.out rfl rfl
set_option maxHeartbeats 1000000 in
theorem w_ins10 {B:Nat} {D:Nat→Prop} {w:World} {q:Nat} {s b:Sv} {vf:Value} {bs wd at_:Int} {r:List Fm} {fuel thr:Int} (h:RunL B D w q s b vf (.colon bs wd at_::r) (-1) fuel thr) (ok:Okr (toR s (.colon bs wd at_::r) thr)) (hl:r.length≤999999) (hb0:0≤bs) (hd:dpF r≤32) (n:Int) (hn:0≤n∧n < 4294967296):
  Calls Tryz.prog 87 #[.pointer (some ⟨q,0,none⟩), .agg #[.int .i64 10, .int .u32 n]] w (OtP B D q s b fuel w (opO (10,n) (toR s (.colon bs wd at_::r) thr) bs wd at_ r) rtE):=by
 have hsl:s.m.stack.length≤64:=h64_of ok
 have hrl:s.ret.length≤64:=ok.ran.retL
 have hown:iOwn (toR s (.colon bs wd at_::r) thr)=(s.ret.length:Int) - bs:=rfl
 have bb:=box_below w (.cells #[.int .i64 10, .int .u32 n] 47)
 have h1:=h.below bb
 have L1:Hid (Below B w (w.alloc (.cells #[.int .i64 10, .int .u32 n] 47))):=hid (h.low (gb_of bb))
 have c:=w_ofCase h1 ok hl hb0 n hn
 obtain ⟨O,hO⟩:∃O:Ot,opO (10,n) (toR s (.colon bs wd at_::r) thr) bs wd at_ r=O:=⟨_,rfl⟩
 rw[hO] at c ⊢
 clear h h1 hO bb hown
 go_enter Tryz.func87,Tryz.ntmps87
 go_wp2_with (go_at_call 133;refine c.mono ?_;rintro e w2 P2;obtain rfl:e= .returned (.int .i64 O.e):=P2.1)
 go_ret
 exact P2.from L1.out rfl rfl
set_option maxHeartbeats 1000000 in
theorem w_ins2 {B:Nat} {D:Nat→Prop} {w:World} {q:Nat} {s b:Sv} {vf:Value} {bs wd at_:Int} {r:List Fm} {fuel thr:Int} (h:RunL B D w q s b vf (.colon bs wd at_::r) (-1) fuel thr) (ok:Okr (toR s (.colon bs wd at_::r) thr)) (hl:r.length≤999999) (hb0:0≤bs) (hd:dpF r≤32) (n:Int) (hn:0≤n∧n < 4294967296):
  Calls Tryz.prog 87 #[.pointer (some ⟨q,0,none⟩), .agg #[.int .i64 2, .int .u32 n]] w (OtP B D q s b fuel w (opO (2,n) (toR s (.colon bs wd at_::r) thr) bs wd at_ r) rtE):=by
 have hsl:s.m.stack.length≤64:=h64_of ok
 have hrl:s.ret.length≤64:=ok.ran.retL
 have hown:iOwn (toR s (.colon bs wd at_::r) thr)=(s.ret.length:Int) - bs:=rfl
 have bb:=box_below w (.cells #[.int .i64 2, .int .u32 n] 47)
 have h1:=h.below bb
 have L1:Hid (Below B w (w.alloc (.cells #[.int .i64 2, .int .u32 n] 47))):=hid (h.low (gb_of bb))
 have eO:opO (2,n) (toR s (.colon bs wd at_::r) thr) bs wd at_ r=⟨s.m,s.ret, .colon bs wd at_::r,n,thr,0⟩:=by
  unfold opO
  rw[if_neg (by simp),if_pos rfl]
  rfl
 rw[eO]
 have f24:=h1.c24
 have ff:=h1.st.free 24
 have hw:IntKind.i64.wrap n=n:=by rw[IntKind.wrap_i64];omega
 have P:=hid (h1.put24 n)
 clear h h1 bb hown eO
 go_enter Tryz.func87,Tryz.ntmps87
 go_wp2_with fail
 go_ret
 exact OtP.yes (Below.trans L1.out P.out.2) P.out.1 rfl rfl
set_option maxHeartbeats 1000000 in
theorem w_ins3 {B:Nat} {D:Nat→Prop} {w:World} {q:Nat} {s b:Sv} {vf:Value} {bs wd at_:Int} {r:List Fm} {fuel thr:Int} (h:RunL B D w q s b vf (.colon bs wd at_::r) (-1) fuel thr) (ok:Okr (toR s (.colon bs wd at_::r) thr)) (hl:r.length≤999999) (hb0:0≤bs) (hd:dpF r≤32) (n:Int) (hn:0≤n∧n < 4294967296):
  Calls Tryz.prog 87 #[.pointer (some ⟨q,0,none⟩), .agg #[.int .i64 3, .int .u32 n]] w (OtP B D q s b fuel w (opO (3,n) (toR s (.colon bs wd at_::r) thr) bs wd at_ r) rtE):=by
 have hsl:s.m.stack.length≤64:=h64_of ok
 have hrl:s.ret.length≤64:=ok.ran.retL
 have hown:iOwn (toR s (.colon bs wd at_::r) thr)=(s.ret.length:Int) - bs:=rfl
 have bb:=box_below w (.cells #[.int .i64 3, .int .u32 n] 47)
 have h1:=h.below bb
 have L1:Hid (Below B w (w.alloc (.cells #[.int .i64 3, .int .u32 n] 47))):=hid (h.low (gb_of bb))
 rw[opO_op (R:=(toR s (.colon bs wd at_::r) thr)) (by simp) (by simp) (op3 _ n)]
 show Calls _ _ _ _ (OtP B D q s b fuel w ⟨s.m,s.ret, .colon bs wd n::r, -1,thr,0⟩ rtE)
 have c:=w_jump h1 (by omega) n hn
 clear h h1 bb hown
 go_enter Tryz.func87,Tryz.ntmps87
 go_wp2_with (go_at_call 127;refine c.mono ?_;rintro e w3 ⟨rfl,h3,b3,a3⟩)
 go_ret
 exact OtP.yes (Below.trans L1.out b3) h3 rfl rfl
set_option maxHeartbeats 1000000 in
theorem w_ins7 {B:Nat} {D:Nat→Prop} {w:World} {q:Nat} {s b:Sv} {vf:Value} {bs wd at_:Int} {r:List Fm} {fuel thr:Int} (h:RunL B D w q s b vf (.colon bs wd at_::r) (-1) fuel thr) (ok:Okr (toR s (.colon bs wd at_::r) thr)) (hl:r.length≤999999) (hb0:0≤bs) (hd:dpF r≤32) (n:Int) (hn:0≤n∧n < 4294967296):
  Calls Tryz.prog 87 #[.pointer (some ⟨q,0,none⟩), .agg #[.int .i64 7, .int .u32 n]] w (OtP B D q s b fuel w (opO (7,n) (toR s (.colon bs wd at_::r) thr) bs wd at_ r) rtE):=by
 have hsl:s.m.stack.length≤64:=h64_of ok
 have hrl:s.ret.length≤64:=ok.ran.retL
 have hown:iOwn (toR s (.colon bs wd at_::r) thr)=(s.ret.length:Int) - bs:=rfl
 have bb:=box_below w (.cells #[.int .i64 7, .int .u32 n] 47)
 have h1:=h.below bb
 have L1:Hid (Below B w (w.alloc (.cells #[.int .i64 7, .int .u32 n] 47))):=hid (h.low (gb_of bb))
 by_cases hk:(s.ret.length:Int) - bs < 2
 ·rw[opO_op (R:=(toR s (.colon bs wd at_::r) thr)) (by simp) (by simp) (opLE (by omega) (by rw[hown];exact hk))]
  have c:=w_againE h1 ok hl hb0 n hn 1 hk
  have H1:=hid h1
  clear h h1 bb hown
  go_enter Tryz.func87,Tryz.ntmps87
  go_wp2_with (go_at_call 130;refine c.mono ?_;rintro e w2 ⟨rfl,b2⟩)
  go_ret
  exact OtP.no (by decide) (Below.trans L1.out (H1.out.low (gb_of b2))) (H1.out.below b2) rfl rfl
 ·have c:=w_againK h1 ok hl hb0 n hn 1 (by omega) (by omega) hk
  have e7:=op7K (R:=(toR s (.colon bs wd at_::r) thr)) (n:=n) (by rw[hown];exact hk) hb0 ok.ran.ret
  have eA:(agn (toR s (.colon bs wd at_::r) thr) 1).2.2=0:=by
   unfold agn
   dsimp only
   split <;> rfl
  have e9:iOp (toR s (.colon bs wd at_::r) thr) (7,n)=((agn (toR s (.colon bs wd at_::r) thr) 1).1,(agn (toR s (.colon bs wd at_::r) thr) 1).2.1,0):=by rw[e7,←eA]
  rw[opO_op (R:=(toR s (.colon bs wd at_::r) thr)) (by simp) (by simp) e9]
  have eif:(if (agn (toR s (.colon bs wd at_::r) thr) 1).2.1=true∧(0:Int)=0 then ((7,n):Opd).2 else at_)=if (agn (toR s (.colon bs wd at_::r) thr) 1).2.1=true then n else at_:=by simp
  rw[eif]
  show Calls _ _ _ _ (OtP B D q s b fuel w ⟨(agn (toR s (.colon bs wd at_::r) thr) 1).1.m,(agn (toR s (.colon bs wd at_::r) thr) 1).1.ret, .colon bs wd (if (agn (toR s (.colon bs wd at_::r) thr) 1).2.1=true then n else at_)::r, -1,thr,0⟩ rtE)
  obtain ⟨O,hO⟩:∃O:Ot,(⟨(agn (toR s (.colon bs wd at_::r) thr) 1).1.m,(agn (toR s (.colon bs wd at_::r) thr) 1).1.ret, .colon bs wd (if (agn (toR s (.colon bs wd at_::r) thr) 1).2.1=true then n else at_)::r, -1,thr,0⟩:Ot)=O:=⟨_,rfl⟩
  rw[hO] at c ⊢
  clear h h1 hO bb hown e7 eA e9 eif
  go_enter Tryz.func87,Tryz.ntmps87
  go_wp2_with (go_at_call 130;refine c.mono ?_;rintro e w2 P2;obtain rfl:e= .returned (.int .i64 O.e):=P2.1)
  go_ret
  exact P2.from L1.out rfl rfl
set_option maxHeartbeats 1000000 in
theorem w_ins11 {B:Nat} {D:Nat→Prop} {w:World} {q:Nat} {s b:Sv} {vf:Value} {bs wd at_:Int} {r:List Fm} {fuel thr:Int} (h:RunL B D w q s b vf (.colon bs wd at_::r) (-1) fuel thr) (ok:Okr (toR s (.colon bs wd at_::r) thr)) (hl:r.length≤999999) (hb0:0≤bs) (hd:dpF r≤32) (n:Int) (hn:0≤n∧n < 4294967296):
  Calls Tryz.prog 87 #[.pointer (some ⟨q,0,none⟩), .agg #[.int .i64 11, .int .u32 n]] w (OtP B D q s b fuel w (opO (11,n) (toR s (.colon bs wd at_::r) thr) bs wd at_ r) rtE):=by
 have hsl:s.m.stack.length≤64:=h64_of ok
 have hrl:s.ret.length≤64:=ok.ran.retL
 have hown:iOwn (toR s (.colon bs wd at_::r) thr)=(s.ret.length:Int) - bs:=rfl
 have bb:=box_below w (.cells #[.int .i64 11, .int .u32 n] 47)
 have h1:=h.below bb
 have L1:Hid (Below B w (w.alloc (.cells #[.int .i64 11, .int .u32 n] 47))):=hid (h.low (gb_of bb))
 by_cases hk:s.m.stack.length < 1
 ·rw[opO_op (R:=(toR s (.colon bs wd at_::r) thr)) (by simp) (by simp) (op11U hk)]
  have ct:=w_takeU h1 1 hk hsl
  clear h h1 bb hown
  go_enter Tryz.func87,Tryz.ntmps87
  go_wp2_with (go_at_call 134;refine ct.mono ?_;rintro e w2 ⟨v1,v2,rfl,h2,b2⟩)
  go_ret
  exact OtP.no (by decide) (Below.trans L1.out b2) h2 rfl rfl
 ·have hk1:1≤s.m.stack.length:=by omega
  rw[opO_op (R:=(toR s (.colon bs wd at_::r) thr)) (by simp) (by simp) (op11K hk1 hsl)]
  show Calls _ _ _ _ (OtP B D q s b fuel w ⟨{s.m with stack:=s.m.stack.take (s.m.stack.length - 1)},s.ret, .colon bs wd at_::r, -1,thr,0⟩ rtE)
  have ct:=w_takeK h1 1 hk1 hsl
  clear h h1 bb hown
  go_enter Tryz.func87,Tryz.ntmps87
  go_wp2_with (go_at_call 134;refine ct.mono ?_;rintro e w2 ⟨v1,v2,rfl,h2,o2,b2⟩)
  go_ret
  exact OtP.yes (Below.trans L1.out b2) h2 rfl rfl
set_option maxHeartbeats 1000000 in
theorem w_ins12 {B:Nat} {D:Nat→Prop} {w:World} {q:Nat} {s b:Sv} {vf:Value} {bs wd at_:Int} {r:List Fm} {fuel thr:Int} (h:RunL B D w q s b vf (.colon bs wd at_::r) (-1) fuel thr) (ok:Okr (toR s (.colon bs wd at_::r) thr)) (hl:r.length≤999999) (hb0:0≤bs) (hd:dpF r≤32) (n:Int) (hn:0≤n∧n < 4294967296):
  Calls Tryz.prog 87 #[.pointer (some ⟨q,0,none⟩), .agg #[.int .i64 12, .int .u32 n]] w (OtP B D q s b fuel w (opO (12,n) (toR s (.colon bs wd at_::r) thr) bs wd at_ r) rtE):=by
 have hsl:s.m.stack.length≤64:=h64_of ok
 have hrl:s.ret.length≤64:=ok.ran.retL
 have hown:iOwn (toR s (.colon bs wd at_::r) thr)=(s.ret.length:Int) - bs:=rfl
 have bb:=box_below w (.cells #[.int .i64 12, .int .u32 n] 47)
 have h1:=h.below bb
 have L1:Hid (Below B w (w.alloc (.cells #[.int .i64 12, .int .u32 n] 47))):=hid (h.low (gb_of bb))
 have c:=w_closeCol h1 hrl hl hd
 have eO:opO (12,n) (toR s (.colon bs wd at_::r) thr) bs wd at_ r=if (s.ret.length:Int)=bs then ⟨s.m,s.ret,r, -1,thr,0⟩ else ⟨s.m,s.ret, .colon bs wd at_::r, -1,thr,12⟩:=by
  unfold opO
  rw[if_pos rfl,hown]
  by_cases hc:(s.ret.length:Int)=bs
  ·rw[if_pos (by omega),if_pos hc];rfl
  ·rw[if_neg (by omega),if_neg hc];rfl
 rw[eO]
 obtain ⟨O,hO⟩:∃O:Ot,(if (s.ret.length:Int)=bs then ⟨s.m,s.ret,r, -1,thr,0⟩ else ⟨s.m,s.ret, .colon bs wd at_::r, -1,thr,12⟩:Ot)=O:=⟨_,rfl⟩
 rw[hO] at c ⊢
 clear h h1 hO bb hown eO
 go_enter Tryz.func87,Tryz.ntmps87
 go_wp2_with (go_at_call 86;refine c.mono ?_;rintro e w2 P2;obtain rfl:e= .returned (.int .i64 O.e):=P2.1)
 go_ret
 exact P2.from L1.out rfl rfl
set_option maxHeartbeats 2000000 in
theorem w_ins13 {B:Nat} {D:Nat→Prop} {w:World} {q:Nat} {s b:Sv} {vf:Value} {bs wd at_:Int} {r:List Fm} {fuel thr:Int} (h:RunL B D w q s b vf (.colon bs wd at_::r) (-1) fuel thr) (ok:Okr (toR s (.colon bs wd at_::r) thr)) (hl:r.length≤999999) (hb0:0≤bs) (hd:dpF r≤32) (n:Int) (hn:0≤n∧n < 4294967296) (hw:n < s.m.words.length):
  Calls Tryz.prog 87 #[.pointer (some ⟨q,0,none⟩), .agg #[.int .i64 13, .int .u32 n]] w (OtP B D q s b fuel w (opO (13,n) (toR s (.colon bs wd at_::r) thr) bs wd at_ r) rtE):=by
 have hsl:s.m.stack.length≤64:=h64_of ok
 have hrl:s.ret.length≤64:=ok.ran.retL
 have hown:iOwn (toR s (.colon bs wd at_::r) thr)=(s.ret.length:Int) - bs:=rfl
 have bb:=box_below w (.cells #[.int .i64 13, .int .u32 n] 47)
 have h1:=h.below bb
 have L1:Hid (Below B w (w.alloc (.cells #[.int .i64 13, .int .u32 n] 47))):=hid (h.low (gb_of bb))
 obtain ⟨k,hkn⟩:=Int.eq_ofNat_of_zero_le hn.1
 have bd:Below w.heap.size w (w.alloc (.cells #[.int .i64 13, .int .u32 n] 47)).drew:=below_trans bb (below_drewN (Below.refl _ _) 1)
 have c:=w_into (h.below bd) ok k (by omega)
 rw[←hkn] at c
 rw[opO_op (R:=(toR s (.colon bs wd at_::r) thr)) (by simp) (by simp) opTo]
 obtain ⟨A,hA⟩:∃A,iTo (toR s (.colon bs wd at_::r) thr) n=A:=⟨_,rfl⟩
 rw[hA] at c ⊢
 have en:(if false=true∧A.2=0 then ((13,n):Opd).2 else at_)=at_:=by simp
 rw[en]
 show Calls _ _ _ _ (OtP B D q s b fuel w ⟨A.1.m,A.1.ret, .colon bs wd at_::r, -1,thr,A.2⟩ rtE)
 have K1:(w.alloc (.cells #[.int .i64 13, .int .u32 n] 47)).drew.cell? ⟨w.heap.size,1,none⟩=some (.int .u32 n):=((stands_new w #[.int .i64 13, .int .u32 n] 47).below (below_drewN (Below.refl _ _) 1)).cell 1 _ rfl
 have L2:Hid (Below B w (w.alloc (.cells #[.int .i64 13, .int .u32 n] 47)).drew):=hid (h.low (gb_of bd))
 clear h h1 bb hown bd hA hkn en
 go_enter Tryz.func87,Tryz.ntmps87
 go_wp2_with fail
 go_region_with (go_at_call 135;refine c.mono ?_;rintro e w2 P2;obtain rfl:e= .returned (.int .i64 A.2):=P2.1)
 all_goals (
  go_wp2_with fail
  go_ret
  obtain ⟨-,p2,s',p3,p4,p5⟩:=P2
  exact ⟨rfl,Below.trans L2.out p2,s',vf,p3,p4,p5⟩)
set_option maxHeartbeats 2000000 in
theorem w_ins1 {B:Nat} {D:Nat→Prop} {w:World} {q:Nat} {s b:Sv} {vf:Value} {bs wd at_:Int} {r:List Fm} {fuel thr:Int} (h:RunL B D w q s b vf (.colon bs wd at_::r) (-1) fuel thr) (ok:Okr (toR s (.colon bs wd at_::r) thr)) (hl:r.length≤999999) (hb0:0≤bs) (hd:dpF r≤32) (n:Int) (hn:0≤n∧n < 4294967296):
  Calls Tryz.prog 87 #[.pointer (some ⟨q,0,none⟩), .agg #[.int .i64 1, .int .u32 n]] w (OtP B D q s b fuel w (opO (1,n) (toR s (.colon bs wd at_::r) thr) bs wd at_ r) rtE):=by
 have hsl:s.m.stack.length≤64:=h64_of ok
 have hrl:s.ret.length≤64:=ok.ran.retL
 have hown:iOwn (toR s (.colon bs wd at_::r) thr)=(s.ret.length:Int) - bs:=rfl
 have bb:=box_below w (.cells #[.int .i64 1, .int .u32 n] 47)
 have h1:=h.below bb
 have L1:Hid (Below B w (w.alloc (.cells #[.int .i64 1, .int .u32 n] 47))):=hid (h.low (gb_of bb))
 rw[opO_op (R:=(toR s (.colon bs wd at_::r) thr)) (by simp) (by simp) (op1 _ n)]
 obtain ⟨A,hA⟩:∃A,iSwp (toR s (.colon bs wd at_::r) thr) 0 [n]=A:=⟨_,rfl⟩
 have en:(if false=true∧A.2=0 then ((1,n):Opd).2 else at_)=at_:=by simp
 have eret:(iSwp (toR s (.colon bs wd at_::r) thr) 0 [n]).1.ret=s.ret:=(iSwp_mo _ 0 [n]).2.2
 rw[hA] at eret ⊢
 rw[en]
 show Calls _ _ _ _ (OtP B D q s b fuel w ⟨A.1.m,A.1.ret, .colon bs wd at_::r, -1,thr,A.2⟩ rtE)
 have st1:=stands_new w #[.int .i64 1, .int .u32 n] 47
 have hqb:¬w.heap.size=q:=by have:=st_lt h.st;omega
 have b0':=st1.cell 0 _ rfl
 have HA:=hid hA
 clear h bb hown en hA
 go_enter Tryz.func87,Tryz.ntmps87
 go_upto_region 3 with fail
 generalize hW:(w.alloc (.cells #[.int .i64 1, .int .u32 n] 47))=w1 at*
 clear hW b0'
 have ba:Below w1.heap.size w1 (w1.alloc (.cells #[.int .u32 n] 26)).drew:=below_trans (box_below _ _) (below_drewN (Below.refl _ _) 1)
 have h3:=h1.below ba
 have cl:=w_leaveAg h3 (.slice (some ⟨w1.heap.size,0,none⟩) 1 1) [n] ((rd_one w1 n 26).below (below_drewN (Below.refl _ _) 1)) hsl (by simp)
 rw[HA.out] at cl
 have ST3:=hid (st1.below ba)
 have K1:Hid (w1.drew.cell? ⟨w.heap.size,1,none⟩=some (.int .u32 n)):=hid ((st1.below (below_drewN (Below.refl _ _) 1)).cell 1 _ rfl)
 have K3:Hid ((w1.alloc (.cells #[.int .u32 n] 26)).drew.cell? ⟨w.heap.size,1,none⟩=some (.int .u32 n)):=hid (ST3.out.cell 1 _ rfl)
 have L3:Hid (Below B w (w1.alloc (.cells #[.int .u32 n] 26)).drew):=hid (Below.trans L1.out (h1.low (gb_of ba)))
 clear h1 h3 ba st1
 go_wp2_with fail
 refine wp_region_held_drew (S:=fun W=>W.cell? ⟨w.heap.size,1,none⟩=some (.int .u32 n)) (by kernel_rfl) (K1.out) (fun hHeld=> ?_)
 refine wpAnyH_take (i:=0) (v:= ?v1) rfl (by kernel_rfl) (by kernel_rfl) (by kernel_rfl) (fun _ _ _ h=>h) (Or.inl ⟨by kernel_rfl, ?h1⟩) hHeld ?r1
 case h1=>intro W hSw;(try dsimp only at hSw);obtain s0:=hSw;go_simp;try with_reducible rfl
 simp only[Act.put,List.setIfInBounds_toArray,List.set_cons_zero,List.set_cons_succ]
 refine wpAnyH_take (i:=1) (v:= ?v2) rfl (by kernel_rfl) (by kernel_rfl) (by kernel_rfl) (fun _ _ _ h=>h) (Or.inl ⟨by kernel_rfl, ?h2⟩) hHeld ?r2
 case h2=>intro W hSw;(try dsimp only at hSw);obtain s0:=hSw;go_simp;try with_reducible rfl
 simp only[Act.put,List.setIfInBounds_toArray,List.set_cons_zero,List.set_cons_succ]
 refine wpAnyH_take (i:=2) (v:= ?v3) rfl (by kernel_rfl) (by kernel_rfl) (by kernel_rfl) (fun _ _ _ h=>h) (Or.inl ⟨by kernel_rfl, ?h3⟩) hHeld ?r3
 case h3=>intro W hSw;(try dsimp only at hSw);obtain s0:=hSw;go_simp;try with_reducible rfl
 simp only[Act.put,List.setIfInBounds_toArray,List.set_cons_zero,List.set_cons_succ]
 refine wpAnyH_take (i:=3) (v:= ?v4) rfl (by kernel_rfl) (by kernel_rfl) (by kernel_rfl) (fun _ _ _ h=>h) (Or.inl ⟨by kernel_rfl, ?h4⟩) hHeld ?r4
 case h4=>intro W hSw;(try dsimp only at hSw);obtain s0:=hSw;go_simp;try with_reducible rfl
 simp only[Act.put,List.setIfInBounds_toArray,List.set_cons_zero,List.set_cons_succ]
 refine wpAnyH_take (i:=4) (v:= ?v5) rfl (by kernel_rfl) (by kernel_rfl) (by kernel_rfl) (fun _ _ _ h=>h) (Or.inl ⟨by kernel_rfl, ?h5⟩) hHeld ?r5
 case h5=>intro W hSw;(try dsimp only at hSw);obtain s0:=hSw;go_simp;try with_reducible rfl
 simp only[Act.put,List.setIfInBounds_toArray,List.set_cons_zero,List.set_cons_succ]
 refine wpAnyH_ready (rs:=[5]) (by kernel_rfl) (by simp) ?_
 refine AllReadyH.cons rfl (fun K hK=> ?_) AllReadyH.nil
 go_simp
 refine hK.out _ _ (K3.out) (fun hHeld=> ?_)
 clear hK K
 (try simp only[Act.put,List.setIfInBounds_toArray,List.set_cons_zero,List.set_cons_succ])
 refine wpAnyH_ready (rs:=[6]) (by kernel_rfl) (by simp) ?_
 refine AllReadyH.cons rfl (fun K hK=> ?_) AllReadyH.nil
 go_simp
 go_wp2_with (first|(go_at_call 79;refine cl.mono ?_;rintro e w5 ⟨v5,l5,rfl,h5,b5,p5,n5,g5⟩;have K5:Hid (w5.cell? ⟨w.heap.size,1,none⟩=some (.int .u32 n)):=hid ((st_gb ST3.out g5 hqb).cell 1 _ rfl)))
 refine hK.out _ _ (K5.out) (fun hHeld=> ?_)
 clear hK K
 (try simp only[Act.put,List.setIfInBounds_toArray,List.set_cons_zero,List.set_cons_succ])
 refine wpAnyH_ready (rs:=[7]) (by kernel_rfl) (by simp) ?_
 refine AllReadyH.cons rfl (fun K hK=> ?_) AllReadyH.nil
 go_simp
 refine hK.out _ _ (K5.out) (fun hHeld=> ?_)
 clear hK K
 (try simp only[Act.put,List.setIfInBounds_toArray,List.set_cons_zero,List.set_cons_succ])
 refine wpAnyH_done (by kernel_rfl) ?_ _
 go_wp2_with fail
 go_ret
 refine ⟨rfl,Below.trans L3.out b5,_,_,h5,fun e=> ?_,fun _=>⟨rfl,rfl⟩⟩
 obtain ⟨p6,p7⟩:=p5 e
 subst p6
 refine ⟨?_,eret.symm⟩
 rw[p7]
 rfl
theorem w_instruct {B:Nat} {D:Nat→Prop} {w:World} {q:Nat} {s b:Sv} {vf:Value} {bs wd at_:Int} {r:List Fm} {fuel thr:Int} (h:RunL B D w q s b vf (.colon bs wd at_::r) (-1) fuel thr) (ok:Okr (toR s (.colon bs wd at_::r) thr)) (hl:r.length≤999999) (hb0:0≤bs) (hd:dpF r≤32) (n:Int) (hn:0≤n∧n < 4294967296) (k:Int) (hw:(k=2∨k=13)→n < s.m.words.length) (hk:1≤k∧k≤13):
  Calls Tryz.prog 87 #[.pointer (some ⟨q,0,none⟩), .agg #[.int .i64 k, .int .u32 n]] w (OtP B D q s b fuel w (opO (k,n) (toR s (.colon bs wd at_::r) thr) bs wd at_ r) rtE):=by
 rcases (show k=1∨k=2∨k=3∨k=4∨k=5∨k=6∨k=7∨k=8∨k=9∨k=10∨k=11∨k=12∨k=13 by omega) with e|e|e|e|e|e|e|e|e|e|e|e|e <;> subst e
 ·exact w_ins1 h ok hl hb0 hd n hn
 ·exact w_ins2 h ok hl hb0 hd n hn
 ·exact w_ins3 h ok hl hb0 hd n hn
 ·exact w_ins4 h ok hl hb0 hd n hn
 ·exact w_ins5 h ok hl hb0 hd n hn
 ·exact w_ins6 h ok hl hb0 hd n hn
 ·exact w_ins7 h ok hl hb0 hd n hn
 ·exact w_ins8 h ok hl hb0 hd n hn
 ·exact w_ins9 h ok hl hb0 hd n hn
 ·exact w_ins10 h ok hl hb0 hd n hn
 ·exact w_ins11 h ok hl hb0 hd n hn
 ·exact w_ins12 h ok hl hb0 hd n hn
 ·exact w_ins13 h ok hl hb0 hd n hn (hw (Or.inr rfl))
set_option maxHeartbeats 1000000 in
theorem w_procCat {B:Nat} {D:Nat→Prop} {w:World} {q:Nat} {s b:Sv} {vf:Value} {bs hh sl:Int} {r:List Fm} {fuel thr:Int} (h:RunL B D w q s b vf (.catch bs hh sl::r) (-1) fuel thr) (hsl:s.m.stack.length≤64) (hrl:s.ret.length≤64) (hl:r.length≤999999):
  Calls Tryz.prog 62 #[.pointer (some ⟨q,0,none⟩)] w (OtP B D q s b fuel w (if (s.ret.length:Int)=bs then ⟨(iSwp (toR s r thr) 0 [0]).1.m,s.ret,r, -1,thr,(iSwp (toR s r thr) 0 [0]).2⟩ else ⟨s.m,s.ret, .catch bs hh sl::r, -1,thr,12⟩) rtE):=by
 obtain ⟨O,hO⟩:∃O:Ot,(if (s.ret.length:Int)=bs then ⟨(iSwp (toR s r thr) 0 [0]).1.m,s.ret,r, -1,thr,(iSwp (toR s r thr) 0 [0]).2⟩ else ⟨s.m,s.ret, .catch bs hh sl::r, -1,thr,12⟩:Ot)=O:=⟨_,rfl⟩
 rw[hO]
 have HO:=hid hO
 clear hO
 obtain ⟨g,cap,hv,hc,hfz,hg⟩:=h.top
 have hix:=idx_fr g (r.length+1) cap r.length (by omega)
 rw[←hv] at hix
 obtain ⟨LN,hLN⟩:∃n:Int,((r.length+1:Nat):Int)=n:=⟨_,rfl⟩
 have hlen:∀ty w',(Builtin.len_ #[65] ty #[vf]).run Tryz.prog w'= .ok (.int .i64 LN) w':=fun ty w'=>by
  rw[hv,←hLN]
  simp[Builtin.len_,run_underlying uFr,goInt]
 have hw2:IntKind.i64.wrap (LN - 1)=r.length:=by rw[IntKind.wrap_i64];omega
 have f22:=h.c22
 have HV:=hid hv
 obtain ⟨LI,hLI⟩:∃n:Int,(r.length:Int)=n:=⟨_,rfl⟩
 rw[hLI] at hix hw2
 clear hv hc hfz hLN hLI
 have HH:=hid h
 clear h
 go_enter Tryz.func62,Tryz.ntmps62
 go_upto_region 1 with fail
 go_wp2_with fail
 go_quiet (fail)
 have h1:=HH.out.below (below_drewN (Below.refl _ _) nq)
 have L1:Hid (Below B w (w.drewN nq)):=hid (HH.out.low (gb_of (below_drewN (Below.refl _ _) nq)))
 generalize hW:w.drewN nq=w1 at*
 clear hW f22
 obtain ⟨g',cap',hv',hc,hfz, -⟩:=h1.top
 have eg:g'=g:=by
  have e1:=hv'.symm.trans HV.out
  injection e1 with e1
  injection e1 with e1
  injection e1 with e1
 subst eg
 have k0:=hc 0 _ rfl
 rw[Nat.add_zero] at k0
 clear hv'
 have c:=w_closeCat h1 hsl hrl hl
 rw[HO.out] at c
 clear hc hfz h1
 go_wp2_with (go_at_call 84;refine c.mono ?_;rintro e w2 P2;obtain rfl:e= .returned (.int .i64 O.e):=P2.1)
 go_ret
 exact P2.from L1.out rfl rfl
set_option maxHeartbeats 1000000 in
theorem w_procMeth {B:Nat} {D:Nat→Prop} {w:World} {q:Nat} {s b:Sv} {vf:Value} {bs sl:Int} {r:List Fm} {fuel thr:Int} (h:RunL B D w q s b vf (.meth bs sl::r) (-1) fuel thr) (hl:r.length≤999999):
  Calls Tryz.prog 62 #[.pointer (some ⟨q,0,none⟩)] w (OtP B D q s b fuel w ⟨{s.m with self:=sl},s.ret,r, -1,thr,0⟩ rtE):=by
 obtain ⟨g,cap,hv,hc,hfz,hg⟩:=h.top
 have hix:=idx_fr g (r.length+1) cap r.length (by omega)
 rw[←hv] at hix
 obtain ⟨LN,hLN⟩:∃n:Int,((r.length+1:Nat):Int)=n:=⟨_,rfl⟩
 have hlen:∀ty w',(Builtin.len_ #[65] ty #[vf]).run Tryz.prog w'= .ok (.int .i64 LN) w':=fun ty w'=>by
  rw[hv,←hLN]
  simp[Builtin.len_,run_underlying uFr,goInt]
 have hw2:IntKind.i64.wrap (LN - 1)=r.length:=by rw[IntKind.wrap_i64];omega
 have f22:=h.c22
 have HV:=hid hv
 obtain ⟨LI,hLI⟩:∃n:Int,(r.length:Int)=n:=⟨_,rfl⟩
 rw[hLI] at hix hw2
 clear hv hc hfz hLN hLI
 have HH:=hid h
 clear h
 go_enter Tryz.func62,Tryz.ntmps62
 go_upto_region 1 with fail
 go_wp2_with fail
 go_quiet (fail)
 have h1:=HH.out.below (below_drewN (Below.refl _ _) nq)
 have L1:Hid (Below B w (w.drewN nq)):=hid (HH.out.low (gb_of (below_drewN (Below.refl _ _) nq)))
 generalize hW:w.drewN nq=w1 at*
 clear hW f22
 obtain ⟨g',cap',hv',hc,hfz, -⟩:=h1.top
 have eg:g'=g:=by
  have e1:=hv'.symm.trans HV.out
  injection e1 with e1
  injection e1 with e1
  injection e1 with e1
 subst eg
 have k0:=hc 0 _ rfl
 rw[Nat.add_zero] at k0
 clear hv'
 have c:=w_closeMethF h1 (by omega)
 clear hc hfz h1
 go_wp2_with (go_at_call 85;refine c.mono ?_;rintro e w2 ⟨rfl,b2,vf',h2⟩)
 go_ret
 exact OtP.yes (Below.trans L1.out b2) h2 rfl rfl
set_option maxHeartbeats 2000000 in
theorem w_procEnd {B:Nat} {D:Nat→Prop} {w:World} {q:Nat} {s b:Sv} {vf:Value} {bs at_:Int} {wd:Nat} {r:List Fm} {fuel thr:Int} (h:RunL B D w q s b vf (.colon bs (wd:Int) at_::r) (-1) fuel thr) (hwd:wd < s.m.words.length) (ha:at_=(s.m.words[wd].2.2.2.2.length:Int)) (hrl:s.ret.length≤64) (hl:r.length≤999999) (hd:dpF r≤32):
  Calls Tryz.prog 62 #[.pointer (some ⟨q,0,none⟩)] w (OtP B D q s b fuel w (if (s.ret.length:Int)=bs then ⟨s.m,s.ret,r, -1,thr,0⟩ else ⟨s.m,s.ret, .colon bs (wd:Int) at_::r, -1,thr,12⟩) rtE):=by
 obtain ⟨O,hO⟩:∃O:Ot,(if (s.ret.length:Int)=bs then ⟨s.m,s.ret,r, -1,thr,0⟩ else ⟨s.m,s.ret, .colon bs (wd:Int) at_::r, -1,thr,12⟩:Ot)=O:=⟨_,rfl⟩
 rw[hO]
 have HO:=hid hO
 have HAT:=hid ha
 clear hO ha
 obtain ⟨g,cap,hv,hc,hfz,hg⟩:=h.top
 have hix:=idx_fr g (r.length+1) cap r.length (by omega)
 rw[←hv] at hix
 obtain ⟨LN,hLN⟩:∃n:Int,((r.length+1:Nat):Int)=n:=⟨_,rfl⟩
 have hlen:∀ty w',(Builtin.len_ #[65] ty #[vf]).run Tryz.prog w'= .ok (.int .i64 LN) w':=fun ty w'=>by
  rw[hv,←hLN]
  simp[Builtin.len_,run_underlying uFr,goInt]
 have hw2:IntKind.i64.wrap (LN - 1)=r.length:=by rw[IntKind.wrap_i64];omega
 have f22:=h.c22
 have HV:=hid hv
 obtain ⟨LI,hLI⟩:∃n:Int,(r.length:Int)=n:=⟨_,rfl⟩
 rw[hLI] at hix hw2
 clear hv hc hfz hLN hLI
 have HH:=hid h
 clear h
 go_enter Tryz.func62,Tryz.ntmps62
 go_upto_region 1 with fail
 go_wp2_with fail
 go_quiet (fail)
 have h1:=HH.out.below (below_drewN (Below.refl _ _) nq)
 have L1:Hid (Below B w (w.drewN nq)):=hid (HH.out.low (gb_of (below_drewN (Below.refl _ _) nq)))
 generalize hW:w.drewN nq=w1 at*
 clear hW f22
 obtain ⟨g',cap',hv',hc,hfz, -⟩:=h1.top
 have eg:g'=g:=by
  have e1:=hv'.symm.trans HV.out
  injection e1 with e1
  injection e1 with e1
  injection e1 with e1
 subst eg
 have k0:=hc 0 _ rfl
 rw[Nat.add_zero] at k0
 clear hv'
 have k2:=hc 2 _ rfl
 have k3:=hc 3 _ rfl
 obtain ⟨gw,capw,vc,ev, -,hcl,sc⟩:=h1.wdAt wd hwd
 obtain ⟨va,vq,evc⟩:=slr_slice sc.now
 obtain ⟨CL,hCL⟩:∃l,s.m.words[wd].2.2.2.2.length=l:=⟨_,rfl⟩
 have hl4:=slr_len sc.now uO (P:=Tryz.prog)
 rw[hCL] at evc hl4
 subst evc
 have w4:=hcl 4 _ rfl
 have hiw:=idx_wd .i64 gw s.m.words.length capw wd hwd
 have f2:=h1.c2
 rw[ev] at f2
 have H1:=hid h1
 have SC:=hid sc
 have HCL:=hid hCL
 clear hcl sc ev h1
 go_upto_region 8 with fail
 go_wp2_with fail
 go_quiet (fail)
 have h2:=H1.out.below (below_drewN (Below.refl _ _) nq)
 have L2:Hid (Below B w (w1.drewN nq)):=hid (Below.trans L1.out (H1.out.low (gb_of (below_drewN (Below.refl _ _) nq))))
 have SC2:=hid (SC.out.below (below_drewN (Below.refl _ _) nq))
 generalize hW:w1.drewN nq=w2 at*
 clear hW k0 k2 w4 f2
 obtain ⟨g2,cap2,hv2,hc2,hfz2, -⟩:=h2.top
 have eg2:g2=g':=by
  have e1:=hv2.symm.trans HV.out
  injection e1 with e1
  injection e1 with e1
  injection e1 with e1
 subst eg2
 have x3:=hc2 3 _ rfl
 clear k3 hc hfz
 have c:=w_closeCol h2 hrl hl hd
 rw[HO.out] at c
 have hb:(at_==(CL:Int))=true:=by rw[HAT.out,HCL.out];simp
 clear h2 hc2 hfz2
 go_wp2_with (go_at_call 86;refine c.mono ?_;rintro e w3 P3;obtain rfl:e= .returned (.int .i64 O.e):=P3.1)
 go_ret
 exact P3.from L2.out rfl rfl
set_option maxHeartbeats 2000000 in
theorem w_procNo {B:Nat} {D:Nat→Prop} {w:World} {q:Nat} {s b:Sv} {vf:Value} {bs at_:Int} {wd:Nat} {r:List Fm} {thr:Int} (h:RunL B D w q s b vf (.colon bs (wd:Int) at_::r) (-1) 0 thr) (hwd:wd < s.m.words.length) (ha:¬at_=(s.m.words[wd].2.2.2.2.length:Int)) (hl:r.length≤999999):
  Calls Tryz.prog 62 #[.pointer (some ⟨q,0,none⟩)] w fun e w'=>e= .returned (.int .i64 11)∧Below B w w'∧RunL B D w' q s b vf (.colon bs (wd:Int) at_::r) (-1) 0 thr:=by
 have HAT:=hid ha
 clear ha
 obtain ⟨g,cap,hv,hc,hfz,hg⟩:=h.top
 have hix:=idx_fr g (r.length+1) cap r.length (by omega)
 rw[←hv] at hix
 obtain ⟨LN,hLN⟩:∃n:Int,((r.length+1:Nat):Int)=n:=⟨_,rfl⟩
 have hlen:∀ty w',(Builtin.len_ #[65] ty #[vf]).run Tryz.prog w'= .ok (.int .i64 LN) w':=fun ty w'=>by
  rw[hv,←hLN]
  simp[Builtin.len_,run_underlying uFr,goInt]
 have hw2:IntKind.i64.wrap (LN - 1)=r.length:=by rw[IntKind.wrap_i64];omega
 have f22:=h.c22
 have HV:=hid hv
 obtain ⟨LI,hLI⟩:∃n:Int,(r.length:Int)=n:=⟨_,rfl⟩
 rw[hLI] at hix hw2
 clear hv hc hfz hLN hLI
 have HH:=hid h
 clear h
 go_enter Tryz.func62,Tryz.ntmps62
 go_upto_region 1 with fail
 go_wp2_with fail
 go_quiet (fail)
 have h1:=HH.out.below (below_drewN (Below.refl _ _) nq)
 have L1:Hid (Below B w (w.drewN nq)):=hid (HH.out.low (gb_of (below_drewN (Below.refl _ _) nq)))
 generalize hW:w.drewN nq=w1 at*
 clear hW f22
 obtain ⟨g',cap',hv',hc,hfz, -⟩:=h1.top
 have eg:g'=g:=by
  have e1:=hv'.symm.trans HV.out
  injection e1 with e1
  injection e1 with e1
  injection e1 with e1
 subst eg
 have k0:=hc 0 _ rfl
 rw[Nat.add_zero] at k0
 clear hv'
 have k2:=hc 2 _ rfl
 have k3:=hc 3 _ rfl
 obtain ⟨gw,capw,vc,ev, -,hcl,sc⟩:=h1.wdAt wd hwd
 obtain ⟨va,vq,evc⟩:=slr_slice sc.now
 obtain ⟨CL,hCL⟩:∃l,s.m.words[wd].2.2.2.2.length=l:=⟨_,rfl⟩
 have hl4:=slr_len sc.now uO (P:=Tryz.prog)
 rw[hCL] at evc hl4
 subst evc
 have w4:=hcl 4 _ rfl
 have hiw:=idx_wd .i64 gw s.m.words.length capw wd hwd
 have f2:=h1.c2
 rw[ev] at f2
 have H1:=hid h1
 have SC:=hid sc
 have HCL:=hid hCL
 clear hcl sc ev h1
 go_upto_region 8 with fail
 go_wp2_with fail
 go_quiet (fail)
 have h2:=H1.out.below (below_drewN (Below.refl _ _) nq)
 have L2:Hid (Below B w (w1.drewN nq)):=hid (Below.trans L1.out (H1.out.low (gb_of (below_drewN (Below.refl _ _) nq))))
 have SC2:=hid (SC.out.below (below_drewN (Below.refl _ _) nq))
 generalize hW:w1.drewN nq=w2 at*
 clear hW k0 k2 w4 f2
 obtain ⟨g2,cap2,hv2,hc2,hfz2, -⟩:=h2.top
 have eg2:g2=g':=by
  have e1:=hv2.symm.trans HV.out
  injection e1 with e1
  injection e1 with e1
  injection e1 with e1
 subst eg2
 have x3:=hc2 3 _ rfl
 clear k3 hc hfz
 have hb:(at_==(CL:Int))=false:=beq_eq_false_iff_ne.2 (by rw[←HCL.out];exact HAT.out)
 have c:=w_stepN h2
 have H2:=hid h2
 clear h2 hc2 hfz2
 go_wp2_with (go_at_call 78;refine c.mono ?_;rintro e w3 ⟨rfl,hw3⟩;obtain rfl:=hw3.symm)
 go_ret
 exact ⟨rfl,L2.out,H2.out⟩
set_option maxHeartbeats 4000000 in
theorem w_procIns {B:Nat} {D:Nat→Prop} {w:World} {q:Nat} {s b:Sv} {vf:Value} {bs at_:Int} {wd:Nat} {r:List Fm} {fuel thr:Int} (h:RunL B D w q s b vf (.colon bs (wd:Int) at_::r) (-1) fuel thr) (ok:Okr (toR s (.colon bs (wd:Int) at_::r) thr)) (hwd:wd < s.m.words.length) (a:Nat) (ha:at_=(a:Int)) (hal:a < s.m.words[wd].2.2.2.2.length) (hcl6:s.m.words[wd].2.2.2.2.length≤256) (f0:0 < fuel) (f1:fuel≤100000) (hl:r.length≤999999) (hb0:0≤bs) (hd:dpF r≤32)
  (hx0:0≤(s.m.words[wd].2.2.2.2[a]).2∧(s.m.words[wd].2.2.2.2[a]).2 < 4294967296) (hxw:((s.m.words[wd].2.2.2.2[a]).1=2∨(s.m.words[wd].2.2.2.2[a]).1=13)→(s.m.words[wd].2.2.2.2[a]).2 < s.m.words.length) (hxk:1≤(s.m.words[wd].2.2.2.2[a]).1∧(s.m.words[wd].2.2.2.2[a]).1≤13):
  Calls Tryz.prog 62 #[.pointer (some ⟨q,0,none⟩)] w (OtP B D q s b (fuel - 1) w (opO (s.m.words[wd].2.2.2.2[a]) (toR s (.colon bs (wd:Int) at_::r) thr) bs (wd:Int) (at_+1) r) rtE):=by
 subst ha
 obtain ⟨x,hx⟩:∃x,s.m.words[wd].2.2.2.2[a]=x:=⟨_,rfl⟩
 simp only[hx] at hx0 hxw hxk ⊢
 obtain ⟨XK,XN⟩:=x
 obtain ⟨O,hO⟩:∃O:Ot,opO (XK,XN) (toR s (.colon bs (wd:Int) (a:Int)::r) thr) bs (wd:Int) ((a:Int)+1) r=O:=⟨_,rfl⟩
 rw[hO]
 have HO:=hid hO
 have HX:=hid hx
 have HXW:=hid hxw
 have OK:=hid ok
 have HAL:=hid hal
 clear hO hx hxw ok
 obtain ⟨g,cap,hv,hc,hfz,hg⟩:=h.top
 have hix:=idx_fr g (r.length+1) cap r.length (by omega)
 rw[←hv] at hix
 obtain ⟨LN,hLN⟩:∃n:Int,((r.length+1:Nat):Int)=n:=⟨_,rfl⟩
 have hlen:∀ty w',(Builtin.len_ #[65] ty #[vf]).run Tryz.prog w'= .ok (.int .i64 LN) w':=fun ty w'=>by
  rw[hv,←hLN]
  simp[Builtin.len_,run_underlying uFr,goInt]
 have hw2:IntKind.i64.wrap (LN - 1)=r.length:=by rw[IntKind.wrap_i64];omega
 have f22:=h.c22
 have HV:=hid hv
 obtain ⟨LI,hLI⟩:∃n:Int,(r.length:Int)=n:=⟨_,rfl⟩
 rw[hLI] at hix hw2
 clear hv hc hfz hLN hLI
 have HH:=hid h
 clear h
 go_enter Tryz.func62,Tryz.ntmps62
 go_upto_region 1 with fail
 go_wp2_with fail
 go_quiet (fail)
 have h1:=HH.out.below (below_drewN (Below.refl _ _) nq)
 have L1:Hid (Below B w (w.drewN nq)):=hid (HH.out.low (gb_of (below_drewN (Below.refl _ _) nq)))
 generalize hW:w.drewN nq=w1 at*
 clear hW f22
 obtain ⟨g',cap',hv',hc,hfz, -⟩:=h1.top
 have eg:g'=g:=by
  have e1:=hv'.symm.trans HV.out
  injection e1 with e1
  injection e1 with e1
  injection e1 with e1
 subst eg
 have k0:=hc 0 _ rfl
 rw[Nat.add_zero] at k0
 clear hv'
 have k2:=hc 2 _ rfl
 have k3:=hc 3 _ rfl
 obtain ⟨gw,capw,vc,ev, -,hcl,sc⟩:=h1.wdAt wd hwd
 obtain ⟨va,vq,evc⟩:=slr_slice sc.now
 obtain ⟨CL,hCL⟩:∃l,s.m.words[wd].2.2.2.2.length=l:=⟨_,rfl⟩
 have hl4:=slr_len sc.now uO (P:=Tryz.prog)
 rw[hCL] at evc hl4
 subst evc
 have w4:=hcl 4 _ rfl
 have hiw:=idx_wd .i64 gw s.m.words.length capw wd hwd
 have f2:=h1.c2
 rw[ev] at f2
 have H1:=hid h1
 have SC:=hid sc
 have HCL:=hid hCL
 clear hcl sc ev h1
 go_upto_region 8 with fail
 go_wp2_with fail
 go_quiet (fail)
 have h2:=H1.out.below (below_drewN (Below.refl _ _) nq)
 have L2:Hid (Below B w (w1.drewN nq)):=hid (Below.trans L1.out (H1.out.low (gb_of (below_drewN (Below.refl _ _) nq))))
 have SC2:=hid (SC.out.below (below_drewN (Below.refl _ _) nq))
 generalize hW:w1.drewN nq=w2 at*
 clear hW k0 k2 w4 f2
 obtain ⟨g2,cap2,hv2,hc2,hfz2, -⟩:=h2.top
 have eg2:g2=g':=by
  have e1:=hv2.symm.trans HV.out
  injection e1 with e1
  injection e1 with e1
  injection e1 with e1
 subst eg2
 have x3:=hc2 3 _ rfl
 clear k3 hc hfz
 have hb:(((a:Nat):Int)==(CL:Int))=false:=beq_eq_false_iff_ne.2 (by have:=HAL.out;rw[HCL.out] at this;omega)
 have c3:=w_stepA h2 f0 f1
 have C3:=hid c3
 have H2:=hid h2
 clear h2 hc2 hfz2 c3
 go_upto_region 14 with (go_at_call 78;refine C3.out.mono ?_;rintro e w3 ⟨rfl,h3,b3,g3⟩)
 have A3:=hid (H2.out.agr g3)
 obtain ⟨g4,cap4,hv4,hc4,hfz4, -⟩:=h3.top
 have eg4:g4=g2∧cap4=cap:=by
  have e1:=hv4.symm.trans HV.out
  injection e1 with e1 e2 e3
  injection e1 with e1
  injection e1 with e1
  exact ⟨e1,e3⟩
 obtain ⟨rfl,rfl⟩:=eg4
 have z3:=hc4 3 _ rfl
 have zf:=hfz4 (r.length*6+3)
 have h3':=h3
 rw[hv4] at h3'
 have P:=hid (h3'.jump ((a:Int)+1))
 have hwa:IntKind.i64.wrap (((a:Nat):Int)+1)=(a:Int)+1:=by rw[IntKind.wrap_i64];omega
 have L3:=hid (Below.trans L2.out b3)
 clear h3 h3' hc4 hfz4 x3
 go_upto_region 15 with fail
 have h4:=P.out.1
 have L4:=hid (Below.trans L3.out P.out.2.1)
 have sc4:=((SC2.out.agr A3.out).agr P.out.2.2).now
 generalize hW:(w3.setCell ⟨g4,r.length*6+3,none⟩ (.int .i64 ((a:Int)+1)))=w4 at*
 obtain ⟨g5,cap5,hv5,hc5, -, -⟩:=h4.top
 injection hv5 with hv5
 injection hv5 with hv5
 injection hv5 with hv5
 subst hv5
 have y3:=hc5 3 _ rfl
 obtain ⟨bo,oo,orun,o0,o1⟩:=op_at sc4 a HAL.out
 rw[HX.out] at o0 o1
 have hwb:IntKind.i64.wrap (((a:Nat):Int)+1 - 1)=(a:Int):=by rw[IntKind.wrap_i64];omega
 have c5:=w_instruct h4 (okr_any OK.out) hl hb0 hd XN hx0 XK HXW.out hxk
 have c6:Calls Tryz.prog 87 #[.pointer (some ⟨q,0,none⟩), .agg #[.int .i64 XK, .int .u32 XN]] w4 (OtP B D q s b (fuel - 1) w4 O rtE):=by rw[←HO.out];exact c5
 clear hW h4 sc4 hc5 c5 z3 zf hb hwa hlen hix hw2 hl4 hiw
 go_wp2_with (go_at_call 87;refine c6.mono ?_;rintro e w5 P5;obtain rfl:e= .returned (.int .i64 O.e):=P5.1)
 go_ret
 exact P5.from L4.out rfl rfl
structure OpP (X:Rs×Nat×Int) (m:Mc) (ret:List Int) (fs:List Fm) (thr:Int) (k:Nat):Prop where
 inv:Inv m ret fs thr
 dp:dpF fs≤32
 len:fs.length+k≤100000
 ac:Acc m.words fs
 eq:unw iP fs (mkR m ret fs thr,k,0)=X
structure WdP (X:Rs×Nat×Int) (xt:Int) (m:Mc) (ret:List Int) (fs:List Fm) (thr:Int) (k:Nat):Prop where
 inv:Inv m ret fs thr
 dp:dpF fs≤32
 len:fs.length+k≤100000
 x0:0≤xt
 x1:xt < m.words.length
 ac:Acc m.words fs
 xa:aX xt
 eq:unw iP fs (rn iP (.word xt) (mkR m ret fs thr) k)=X
structure FlP (X:Rs×Nat×Int) (e:Int) (m:Mc) (ret:List Int) (fs:List Fm) (thr:Int) (k:Nat):Prop where
 inv:Inv m ret fs thr
 dp:dpF fs≤32
 len:fs.length+k≤100000
 er:Er e
 ne:¬e=0
 ac:Acc m.words fs
 eq:unw iP fs (mkR m ret fs thr,k,e)=X
def NxtP (X:Rs×Nat×Int) (n:Nat) (m:Mc) (ret:List Int) (fs:List Fm) (nxt thr:Int) (k:Nat):Prop:=
 4*k+2*fs.length+1 < n∧(nxt= -1∧OpP X m ret fs thr k∨¬nxt= -1∧WdP X nxt m ret fs thr k)
theorem nxt_of {X:Rs×Nat×Int} {n:Nat} {m:Mc} {ret:List Int} {fs:List Fm} {nxt thr:Int} {k:Nat} (hn:4*k+2*fs.length+1 < n) (inv:Inv m ret fs thr) (dp:dpF fs≤32) (len:fs.length+k≤100000) (hx:nxt= -1∨0≤nxt∧nxt < m.words.length) (ac:Acc m.words fs) (xa:nxt= -1∨aX nxt) (eq:Rst fs nxt (mkR m ret fs thr) k=X):NxtP X n m ret fs nxt thr k:=by
 refine ⟨hn, ?_⟩
 rcases hx with rfl|hx
 ·rw[rst_no] at eq
  exact Or.inl ⟨rfl,inv,dp,len,ac,eq⟩
 ·have h1:¬nxt= -1:=by omega
  rw[rst_yes h1] at eq
  exact Or.inr ⟨h1,inv,dp,len,hx.1,hx.2,ac,xa.resolve_left h1,eq⟩
theorem nxO_er {R:Rs} {fs:List Fm} {x:Nx}:(¬(nxO R fs x).e=0→(nxO R fs x).nxt= -1)∧dpF (nxO R fs x).fs=dpF fs:=by
 cases x <;> simp[nxO,dpF]
theorem begO_er (xt:Int) {R:Rs} {fs:List Fm} (hR:R.depth=dpF fs) (hd:dpF fs≤32):(¬(begO xt R fs).e=0→(begO xt R fs).nxt= -1)∧dpF (begO xt R fs).fs≤32:=by
 unfold begO
 dsimp only
 split
 ·have:=nxO_er (R:=R) (fs:=fs) (x:=iPrm iP (iWd R xt).2.2.2.1 R)
  exact ⟨this.1,by rw[this.2];exact hd⟩
 split
 ·split
  ·exact ⟨fun _=>rfl,hd⟩
  ·refine ⟨fun _=>rfl, ?_⟩
   simp only[dpF]
   omega
 split
 ·exact ⟨fun _=>rfl,hd⟩
 split
 ·split
  ·exact ⟨fun _=>rfl,hd⟩
  ·exact ⟨fun _=>rfl,hd⟩
 ·exact ⟨fun h=>absurd rfl h,hd⟩
theorem opO_er (x:Opd) {R:Rs} {b wd at_:Int} {r:List Fm}:(¬(opO x R b wd at_ r).e=0→(opO x R b wd at_ r).nxt= -1)∧dpF (opO x R b wd at_ r).fs≤dpF r+1:=by
 unfold opO
 split
 ·split
  ·refine ⟨fun _=>rfl, ?_⟩
   dsimp only
   omega
  ·refine ⟨fun _=>rfl, ?_⟩
   simp only[dpF]
   omega
 split
 ·refine ⟨fun h=>absurd rfl h, ?_⟩
  simp only[dpF]
  omega
 ·refine ⟨fun _=>rfl, ?_⟩
  simp only[dpF]
  omega
theorem beg_step {X:Rs×Nat×Int} {xt:Int} {m:Mc} {ret:List Int} {fs:List Fm} {thr:Int} {k:Nat} (h:WdP X xt m ret fs thr (k+1)) {o:Ot} (ho:begO xt (mkR m ret fs thr) fs=o):
  (o.e=0→NxtP X (4*(k+1)+2*fs.length+1) o.m o.ret o.fs o.nxt o.thr k)∧(¬o.e=0→o.nxt= -1∧FlP X o.e m ret o.fs o.thr k∧4*k+2*o.fs.length < 4*(k+1)+2*fs.length+1):=by
 have iv:=inv_beg h.inv h.x0 h.x1 ho
 have sm:=sim_beg h.inv.ok h.inv.bs xt k ho
 have ac:=acc_beg h.ac h.xa h.x0 h.x1 ho
 have er:=begO_er xt (R:=mkR m ret fs thr) (fs:=fs) rfl h.dp
 rw[ho] at er
 have hl:=h.len
 refine ⟨fun e0=> ?_,fun e0=> ?_⟩
 ·obtain ⟨i1,i2,i3⟩:=iv.1 e0
  exact nxt_of (by omega) i1 er.2 (by omega) i2 (ac.1 e0).1 (ac.1 e0).2 ((sm.1 e0 (i2.imp id (fun z=>z.1))).symm.trans h.eq)
 ·obtain ⟨i1,i2,i3⟩:=iv.2 e0
  refine ⟨er.1 e0,⟨i1,er.2,by rw[i3];omega,i2,e0,ac.2 e0,(sm.2 e0).symm.trans h.eq⟩,by rw[i3];omega⟩
theorem beg_none {X:Rs×Nat×Int} {xt:Int} {m:Mc} {ret:List Int} {fs:List Fm} {thr:Int} (h:WdP X xt m ret fs thr 0):FlP X 11 m ret fs thr 0:=by
 have:=h.eq
 rw[rn_word0] at this
 exact ⟨h.inv,h.dp,h.len,by unfold Er;omega,by omega,h.ac,this⟩
theorem ins_stepI {X:Rs×Nat×Int} {b wd at_:Int} {m:Mc} {ret:List Int} {r:List Fm} {thr:Int} {k:Nat} (h:OpP X m ret (.colon b wd at_::r) thr (k+1)) {x:Opd} (hx:(m.words.getD wd.toNat ([],0,0,0,[])).2.2.2.2[at_.toNat]? =some x) (x0:0≤x.2) (x1:x.2 < 4294967296) {o:Ot} (ho:opO x (mkR m ret (.colon b wd at_::r) thr) b wd (at_+1) r=o):
  (o.e=0→NxtP X (4*(k+1)+2*(r.length+1)+1) o.m o.ret o.fs o.nxt o.thr k)∧(¬o.e=0→o.nxt= -1∧FlP X o.e m ret o.fs o.thr k∧4*k+2*o.fs.length < 4*(k+1)+2*(r.length+1)+1):=by
 have f:=h.inv.fok
 simp only[Fok] at f
 have iv:=inv_ins h.inv hx x0 x1 ho
 have sm:=sim_ins h.inv.ok h.inv.bs k f.2.2.2.2.2.1 hx x0 x1 ho
 have okx:=(wd_code (m:=m) h.inv.ok.frm (k:=wd.toNat) (by show wd.toNat < m.words.length;omega) f.2.2.2.2.1).2 x (List.mem_of_getElem? hx)
 unfold okO at okx
 rw[decide_eq_true_eq] at okx
 have ac:=acc_ins h.ac (by omega) hx (by omega) ho
 have er:=opO_er x (R:=mkR m ret (.colon b wd at_::r) thr) (b:=b) (wd:=wd) (at_:=at_+1) (r:=r)
 rw[ho] at er
 have hl:=h.len
 have hd:=h.dp
 simp only[List.length_cons] at hl
 simp only[dpF] at hd
 refine ⟨fun e0=> ?_,fun e0=> ?_⟩
 ·obtain ⟨i1,i2,i3⟩:=iv.1 e0
  exact nxt_of (by omega) i1 (by omega) (by omega) i2 (ac.1 e0).1 (ac.1 e0).2 ((sm.1 e0).symm.trans h.eq)
 ·obtain ⟨i1,i2,i3⟩:=iv.2 e0
  exact ⟨er.1 e0,⟨i1,by omega,by omega,i2,e0,ac.2 e0,(sm.2 e0).symm.trans h.eq⟩,by omega⟩
theorem ins_none {X:Rs×Nat×Int} {b wd at_:Int} {m:Mc} {ret:List Int} {r:List Fm} {thr:Int} (h:OpP X m ret (.colon b wd at_::r) thr 0) {x:Opd} (hx:(m.words.getD wd.toNat ([],0,0,0,[])).2.2.2.2[at_.toNat]? =some x):FlP X 11 m ret (.colon b wd at_::r) thr 0:=by
 refine ⟨h.inv,h.dp,h.len,by unfold Er;omega,by omega,h.ac, ?_⟩
 have q:=h.eq
 rw[←q]
 have e:rn iP (.ops (iWd (mkR m ret (.colon b wd at_::r) thr) wd).2.2.2.2 at_.toNat) (mkR m ret (.colon b wd at_::r) thr) 0=(mkR m ret (.colon b wd at_::r) thr,0,11):=rn_ops0 iP hx
 conv=>rhs;unfold unw
 conv=>lhs;unfold unw
 dsimp only
 rw[if_pos rfl,e]
 rfl
theorem end_step {X:Rs×Nat×Int} {b wd at_:Int} {m:Mc} {ret:List Int} {r:List Fm} {thr:Int} {k:Nat} (h:OpP X m ret (.colon b wd at_::r) thr k) (hx:(m.words.getD wd.toNat ([],0,0,0,[])).2.2.2.2[at_.toNat]? =none):
  ((ret.length:Int)=b→OpP X m ret r thr k)∧(¬(ret.length:Int)=b→FlP X 12 m ret (.colon b wd at_::r) thr k):=by
 have sm:=sim_end (m:=m) (ret:=ret) (b:=b) (r:=r) (thr:=thr) k hx
 have hl:=h.len
 have hd:=h.dp
 simp only[List.length_cons] at hl
 simp only[dpF] at hd
 refine ⟨fun c=>⟨h.inv.pop,by omega,by omega,acc_tail h.ac,(sm.1 c).symm.trans h.eq⟩,fun c=>⟨h.inv,h.dp,h.len,by unfold Er;omega,by omega,h.ac,(sm.2 c).symm.trans h.eq⟩⟩
theorem meth_step {X:Rs×Nat×Int} {b sl:Int} {m:Mc} {ret:List Int} {r:List Fm} {thr:Int} {k:Nat} (h:OpP X m ret (.meth b sl::r) thr k):OpP X {m with self:=sl} ret r thr k:=by
 have f:=h.inv.fok
 simp only[Fok] at f
 have hl:=h.len
 have hd:=h.dp
 simp only[List.length_cons] at hl
 simp only[dpF] at hd
 exact ⟨h.inv.popM,hd,by omega,acc_tail h.ac,(sim_meth m ret b sl r thr k f.2.1).symm.trans h.eq⟩
theorem catch_step {X:Rs×Nat×Int} {b hh sl:Int} {m:Mc} {ret:List Int} {r:List Fm} {thr:Int} {k:Nat} (h:OpP X m ret (.catch b hh sl::r) thr k):
  ((ret.length:Int)=b→((iSwp (mkR m ret r thr) 0 [0]).2=0→OpP X (iSwp (mkR m ret r thr) 0 [0]).1.m ret r thr k)∧(¬(iSwp (mkR m ret r thr) 0 [0]).2=0→FlP X (iSwp (mkR m ret r thr) 0 [0]).2 m ret r thr k))∧
  (¬(ret.length:Int)=b→FlP X 12 m ret (.catch b hh sl::r) thr k):=by
 have sm:=sim_catch m ret b hh sl r thr k
 have hl:=h.len
 have hd:=h.dp
 simp only[List.length_cons] at hl
 simp only[dpF] at hd
 refine ⟨fun c=>⟨fun e0=> ?_,fun e0=> ?_⟩,fun c=>⟨h.inv,h.dp,h.len,by unfold Er;omega,by omega,h.ac,(sm.2 c).symm.trans h.eq⟩⟩
 ·have q:=(sm.1 c).symm.trans h.eq
  rw[e0,iSwp_R] at q
  exact ⟨h.inv.popC.lit (by omega),hd,by omega,acc_swp (acc_tail h.ac),q⟩
 ·have q:=(sm.1 c).symm.trans h.eq
  rw[iSwp_no e0] at q
  exact ⟨h.inv.popC,hd,by omega,iSwp_er _ _ _,e0,acc_tail h.ac,q⟩
theorem last_step {X:Rs×Nat×Int} {m:Mc} {ret:List Int} {thr:Int} {k:Nat} (h:OpP X m ret [] thr k):X=(mkR m ret [] thr,k,if (ret.length:Int)=0 then 0 else 12):=by
 have q:=h.eq
 simp only[unw] at q
 rw[←q]
 congr 2
 have e:(mkR m ret [] thr).ret=ret:=rfl
 rw[e]
 by_cases c:ret=[]
 ·subst c
  simp
 ·have:¬(ret.length:Int)=0:=by
   intro z
   exact c (List.eq_nil_of_length_eq_zero (by omega))
  rw[if_neg this,if_pos ⟨trivial,c⟩]
theorem catO_dp {e thr:Int}:∀(fs:List Fm) (m:Mc) (ret:List Int) m' ret' r,catO e thr fs m ret=some (m',ret',r)→dpF r≤dpF fs
 |[],m,ret,m',ret',r,hc=>by simp[catO] at hc
 | .colon b wd at_::q,m,ret,m',ret',r,hc=>by
  have:=catO_dp q m ret m' ret' r (by simpa [catO] using hc)
  simp only[dpF]
  omega
 | .meth b sl::q,m,ret,m',ret',r,hc=>by
  have:=catO_dp q {m with self:=sl} ret m' ret' r (by simpa [catO] using hc)
  simp only[dpF]
  omega
 | .catch b hh sl::q,m,ret,m',ret',r,hc=>by
  simp only[catO,Option.some.injEq,Prod.mk.injEq] at hc
  rw[←hc.2.2]
  simp only[dpF]
  omega
theorem fail_step {X:Rs×Nat×Int} {e:Int} {m:Mc} {ret:List Int} {fs:List Fm} {thr:Int} {k:Nat} (h:FlP X e m ret fs thr k) (he1:¬e=11) {x:Option (Mc×List Int×List Fm)} (hx:catO e thr fs m ret=x):
  match x with
  |none=>X.2.2=e∧X.1.n=thr
  |some y=>OpP X y.1 y.2.1 y.2.2 thr k∧y.2.2.length < fs.length∧y.1.words=m.words∧y.1.insts=m.insts:=by
 have sm:=sim_fail (words:=m.words) (e:=e) (thr:=thr) k h.ne he1 fs m ret m.self h.inv.fok
 have em:({m with self:=m.self}:Mc)=m:=rfl
 rw[em,h.eq,hx] at sm
 have hl:=h.len
 have hd:=h.dp
 cases x with
 |none=>exact sm
 |some y=>
  obtain ⟨m',ret',r⟩:=y
  have iv:=inv_fail h.er fs m ret h.inv m' ret' r hx
  have dp:=catO_dp fs m ret m' ret' r hx
  exact ⟨⟨iv.1,by dsimp only;omega,by dsimp only;omega,acc_fail h.ac hx,sm.symm⟩,iv.2⟩
theorem fail_fuel {X:Rs×Nat×Int} {m:Mc} {ret:List Int} {fs:List Fm} {thr:Int} {k:Nat} (h:FlP X 11 m ret fs thr k):X.2.2=11:=by
 rw[←h.eq]
 exact unw_fuel iP fs _ _
open Go
def jumpTo (J:Nat→Act→World→Prop) (Q:Exit→Act→World→Prop):Exit→Act→World→Prop
 | .goto l,a,w=>J l a w
 |e,a,w=>Q e a w
theorem wp_scope_many {P:Program} {a:Act} {w:World} {Q:Exit→Act→World→Prop} {c:Code} (J:Nat→Nat→Act→World→Prop)
  (first:c.wp P (jumpTo (fun l a w=>∃n,J l n a w) Q) a w)
  (pass:∀l n a w,J l n a w→∃rest,findLabel c l=some rest∧rest.wp P (jumpTo (fun l' a' w'=>∃m,m < n∧J l' m a' w') Q) a w):(Code.scope c).wp P Q a w:=by
 intro b k cs
 have key:∀n l a w,J l n a w→∃e a' w' rest,gotoIn l (.inScope c::k)=some (.code rest:: .inScope c::k)∧Q e a' w'∧Arrives P (lone (b.at a (.code rest:: .inScope c::k)) cs w) b k cs e a' w':=by
  intro n
  induction n using Nat.strongRecOn with
  |_ n ih=>
   intro l a w hJ
   obtain ⟨rest,hf,hp⟩:=pass l n a w hJ
   have hg:gotoIn l (.inScope c::k)=some (.code rest:: .inScope c::k):=by simp[gotoIn,hf]
   obtain ⟨e,a₁,w₁,hq,harr⟩:=hp b (.inScope c::k) cs
   cases e with
   |normal=>exact ⟨.normal,a₁,w₁,rest,hg,hq,Steps.trans harr (.one step_inScope)⟩
   |exit id=>exact ⟨.exit id,a₁,w₁,rest,hg,hq,fun k' hk=>harr k' (by simp[exitTo,hk])⟩
   |goto l'=>
    obtain ⟨m,hlt,hJ'⟩:=hq
    obtain ⟨e₂,a₂,w₂,rest₂,hg₂,hq₂,harr₂⟩:=ih m hlt l' a₁ w₁ hJ'
    exact ⟨e₂,a₂,w₂,rest,hg,hq₂, .of_steps (harr _ hg₂) harr₂⟩
   |ret=>exact ⟨_,a₁,w₁,rest,hg,hq,harr⟩
   |panic ch=>exact ⟨_,a₁,w₁,rest,hg,hq,harr⟩
   |outgrown=>exact ⟨_,a₁,w₁,rest,hg,hq,harr⟩
 obtain ⟨e,a₁,w₁,hq,harr⟩:=first b (.inScope c::k) cs
 cases e with
 |normal=>exact ⟨.normal,a₁,w₁,hq, .head step_scope (Steps.trans harr (.one step_inScope))⟩
 |exit id=>exact ⟨.exit id,a₁,w₁,hq,fun k' hk=> .head step_scope (harr k' (by simp[exitTo,hk]))⟩
 |goto l'=>
  obtain ⟨n,hJ'⟩:=hq
  obtain ⟨e₂,a₂,w₂,rest₂,hg₂,hq₂,harr₂⟩:=key n l' a₁ w₁ hJ'
  exact ⟨e₂,a₂,w₂,hq₂, .of_steps (.head step_scope (harr _ hg₂)) harr₂⟩
 |ret=>exact ⟨_,a₁,w₁,hq, .of_steps (.one step_scope) harr⟩
 |panic ch=>exact ⟨_,a₁,w₁,hq, .of_steps (.one step_scope) harr⟩
 |outgrown=>exact ⟨_,a₁,w₁,hq, .of_steps (.one step_scope) harr⟩
end Go.Proofs.YtbamcchghecpeaaGreatDoor
