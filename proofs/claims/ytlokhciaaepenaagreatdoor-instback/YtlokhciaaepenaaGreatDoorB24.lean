import Derived.Laws.OwnMore
import Derived.Test.YtlokhciaaepenaaGreatDoorB23
set_option linter.unusedVariables false
set_option linter.unusedSimpArgs false
set_option maxRecDepth 100000
namespace Go.Proofs.YtlokhciaaepenaaGreatDoor
open Go.ChangeShapes Go.WideShapes Go.ChangeAt Go.RowKit
set_option maxHeartbeats 20000000 in
set_option maxRecDepth 1000000 in
theorem w_r9primsO (w:World):
  Calls Tryz.prog 48 #[] w fun e w'=>∃v,e= .returned v∧OwnR 103 2 prmR w.heap.size w' v prmL∧Below w.heap.size w w':=by
 go_enter Tryz.func48,Tryz.ntmps48
 refine wp_seq (wp_region_list (wpList_runL _ _ _ _ _ rfl ?_))
 simp only[Exit.then]
 refine wp_seq (wp_region_runL (t:=0) (v:= .slice (some ⟨w.heap.size,0,none⟩) 111 111) (w':=w.alloc (.cells (prmL.map prmV).flatten.toArray 103)) (by kernel_rfl) ?_)
 intro a' h1 h2
 simp only[Exit.then]
 refine wp_ret ?_
 refine bodyPost_ret (results_tmp rfl _ _ _) h2 ?_
 rw[h1]
 exact ⟨_,rfl,prm_own w,box_below w _⟩
set_option maxHeartbeats 4000000 in
set_option maxRecDepth 100000 in
theorem w_r9new (w:World):Calls Tryz.prog 26 #[] w fun e w'=>∃v,e= .returned (.agg (Mv.cs v newM ⟨#[]⟩))∧OwM w.heap.size w' v newM ⟨#[]⟩∧Below w.heap.size w w':=by
 obtain ⟨i9,hi9,hz9,hz8,hz7⟩:=info_parts infoWd
 have bz:=box_below w (.cells #[.slice none 0 0, .slice none 0 0, .slice none 0 0, .slice none 0 0, .int .u32 0, .slice none 0 0, .int .i64 0, .slice none 0 0, .int .i64 0, .string ⟨#[]⟩] 30)
 have sz0:=stands_new w #[.slice none 0 0, .slice none 0 0, .slice none 0 0, .slice none 0 0, .int .u32 0, .slice none 0 0, .int .i64 0, .slice none 0 0, .int .i64 0, .string ⟨#[]⟩] 30
 have cn:=fun W=>w_r8new W
 have cp:=fun W=>w_r9primsO W
 go_enter Tryz.func26,Tryz.ntmps26
 go_upto_region 1 with fail
 generalize w.alloc (.cells #[.slice none 0 0, .slice none 0 0, .slice none 0 0, .slice none 0 0, .int .u32 0, .slice none 0 0, .int .i64 0, .slice none 0 0, .int .i64 0, .string ⟨#[]⟩] 30)=W0 at bz sz0 ⊢
 go_upto_region 2 with (go_at_call 47;refine (cn _).mono ?_;rintro e w1 ⟨vT,rfl,oT,b1⟩;obtain ⟨csT,oTr⟩:=oT.row;obtain ⟨ta,tc,rfl⟩:=own_form oTr)
 have sm:=stands_new w1 #[.slice none 0 0, .slice none 0 0, .slice none 0 0, .slice none 0 0, .int .u32 16, .slice ta 1 tc, .int .i64 (-1), .slice none 0 0, .int .i64 (-1), .string ⟨#[]⟩] 30
 have bm:=box_below w1 (.cells #[.slice none 0 0, .slice none 0 0, .slice none 0 0, .slice none 0 0, .int .u32 16, .slice ta 1 tc, .int .i64 (-1), .slice none 0 0, .int .i64 (-1), .string ⟨#[]⟩] 30)
 have b01:=below_trans b1 bm
 have szm:=sz0.below b01
 have oT2:=OwnT8.below oT bm
 obtain ⟨B,hB⟩:∃B,w1.heap.size=B:=⟨_,rfl⟩
 have hBW:W0.heap.size≤B:=by rw[←hB];exact b1.size
 have hw0:w.heap.size < W0.heap.size:=(Array.getElem?_eq_some_iff.1 sz0).1
 rw[hB] at sm
 simp only[List.length_singleton] at sm bm szm b01 oT2 ⊢
 simp only[hB]
 generalize w1.alloc (.cells #[.slice none 0 0, .slice none 0 0, .slice none 0 0, .slice none 0 0, .int .u32 16, .slice ta 1 tc, .int .i64 (-1), .slice none 0 0, .int .i64 (-1), .string ⟨#[]⟩] 30)=w2 at sm bm szm b01 oT2 ⊢
 have hB2:B < w2.heap.size:=by
  have:=Array.getElem?_eq_some_iff.1 sm
  exact this.1
 go_wp2_with (go_at_call 48;refine (cp _).mono ?_;rintro e w3 ⟨vl,rfl,oL,b3⟩)
 have hll:=slr_len (oL.read (R:=prmR) (by decide) (fun _ _ q=>q)) uM (P:=Tryz.prog)
 rw[prm_len] at hll
 have W2L:=b01.size
 go_loopw [3] (fun I wx=>∃(i:Nat) (vw:Value),(i:Int)≤111∧I= .int .i64 i∧Stands wx B #[.slice none 0 0, .slice none 0 0,vw, .slice none 0 0, .int .u32 16, .slice ta 1 tc, .int .i64 (-1), .slice none 0 0, .int .i64 (-1), .string ⟨#[]⟩] 30∧Stands wx w.heap.size #[.slice none 0 0, .slice none 0 0, .slice none 0 0, .slice none 0 0, .int .u32 0, .slice none 0 0, .int .i64 0, .slice none 0 0, .int .i64 0, .string ⟨#[]⟩] 30∧OwW w2.heap.size wx vw ((prmL.take i).map prmW)∧OwnR 103 2 prmR w2.heap.size wx vl prmL∧OwnT8 W0.heap.size wx (.slice ta 1 tc) [([],[], -1,[],[])]∧Below W0.heap.size W0 wx) (fun I _=>(111 - intOf I).toNat)
 case atStart=>exact ⟨0, .slice none 0 0,by omega,rfl,sm.below b3,szm.below b3,OwnR.nil _ _ _ _ _,oL,oT2.below b3,below_trans b01 b3⟩
 case round=>
  clear cn cp oL b3 oT2 szm sm oT oTr
  obtain ⟨i,vw,hi,rfl,st,sz,oW,oL,oT,hb⟩:=hrel
  have hb0:=below_trans bz hb
  by_cases hlt:(i:Int) < 111
  ·have hil:i < prmL.length:=by rw[prm_len];omega
   obtain ⟨bp,op,nm,rp,p0,p1,en⟩:=prm_cell (oL.read (R:=prmR) (by decide) (fun _ _ q=>q)) i hil
   have hcd:=List.all_eq_true.1 prm_codes _ (List.getElem_mem hil)
   rw[decide_eq_true_eq] at hcd
   obtain ⟨c,hc⟩:∃c,prmL[i].2=c:=⟨_,rfl⟩
   rw[hc] at p1 hcd
   have hwr:=wrap_u32 c hcd.1 hcd.2
   have hrow:prmW prmL[i]=(prmL[i].1, -1,1,c,[]):=by unfold prmW;rw[hc]
   have htk:(prmL.take (i+1)).map prmW=(prmL.take i).map prmW++[prmW prmL[i]]:=by rw[List.take_succ_eq_append_getElem hil,List.map_append];rfl
   have hlw:((prmL.take i).map prmW).length=i:=by rw[List.length_map,List.length_take];omega
   obtain ⟨csW,oWr⟩:=oW.row
   obtain ⟨wa,wc,rfl⟩:=own_form oWr
   rw[hlw] at st oW oWr
   have PB:Hid (∀W,Below wr.heap.size wr W→W.cell? ⟨bp,op,none⟩=some (.string nm)∧W.cell? ⟨bp,op+1,none⟩=some (.int .i64 c)):=fun W g=>⟨below_cell g p0,below_cell g p1⟩
   have ST:Hid (∀W,Below wr.heap.size wr W→Stands W B #[.slice none 0 0, .slice none 0 0, .slice wa i wc, .slice none 0 0, .int .u32 16, .slice ta 1 tc, .int .i64 (-1), .slice none 0 0, .int .i64 (-1), .string ⟨#[]⟩] 30):=fun W g=>st.below g
   have hrd:Hid (Below wr.heap.size wr wr.drew):=below_drewN (Below.refl _ _) 1
   have OW:=hid oW
   have OL:=hid oL
   have OT:=hid oT
   have SZ:=hid sz
   have HB:=hid hb
   have PC:Hid (∀W,OwnR 103 2 prmR w2.heap.size W vl prmL→W.cell? ⟨bp,op,none⟩=some (.string nm)∧W.cell? ⟨bp,op+1,none⟩=some (.int .i64 c)):=by
    show ∀W,_
    intro W q
    obtain ⟨bq,oq,nq,rq,q0,q1,eq⟩:=prm_cell (q.read (R:=prmR) (by decide) (fun _ _ q=>q)) i hil
    have e:=(rq W).symm.trans (rp W)
    simp at e
    obtain ⟨rfl,rfl⟩:=e
    rw[hc] at q1
    rw[show nm=nq by rw[←en,eq]]
    exact ⟨q0,q1⟩
   have EN:=hid en
   have HROW:=hid hrow
   have HTK:=hid htk
   clear st sz oW oL oT hb p0 p1 htk hrow hc en hb0
   go_wp2_with fail
   have hwL:w2.heap.size≤wr.heap.size:=by
    obtain ⟨csL,oLr⟩:=OL.out.row
    rcases oLr.2 with ⟨_,h0⟩|⟨gL,cL,curL,hvL,hgL,hxL,_⟩
    ·rw[prm_len] at h0
     omega
    ·have:=(Array.getElem?_eq_some_iff.1 hxL).1
     omega
   refine wp_region_held_drew (S:=fun W=>W.cell? ⟨bp,op,none⟩=some (.string nm)∧W.cell? ⟨bp,op+1,none⟩=some (.int .i64 c)) (by kernel_rfl) (PB.out _ hrd.out) (fun hHeld=> ?_)
   refine wpAnyH_take (i:=0) (v:= ?v1) rfl (by kernel_rfl) (by kernel_rfl) (by kernel_rfl) (fun _ _ _ h=>h) (Or.inl ⟨by rfl, ?h1⟩) (by assumption) ?r1
   case h1=>intro W hSw;(try dsimp only at hSw);obtain ⟨s0,s1⟩:=hSw;go_simp;try with_reducible rfl
   simp only[Act.put,List.setIfInBounds_toArray,List.set_cons_zero,List.set_cons_succ]
   refine wpAnyH_take (i:=2) (v:= ?v2) rfl (by kernel_rfl) (by kernel_rfl) (by kernel_rfl) (fun _ _ _ h=>h) (Or.inl ⟨by rfl, ?h2⟩) (by assumption) ?r2
   case h2=>intro W hSw;(try dsimp only at hSw);obtain ⟨s0,s1⟩:=hSw;go_simp;try with_reducible rfl
   simp only[Act.put,List.setIfInBounds_toArray,List.set_cons_zero,List.set_cons_succ]
   refine wpAnyH_take (i:=3) (v:= ?v3) rfl (by kernel_rfl) (by kernel_rfl) (by kernel_rfl) (fun _ _ _ h=>h) (Or.inl ⟨by rfl, ?h3⟩) (by assumption) ?r3
   case h3=>intro W hSw;(try dsimp only at hSw);obtain ⟨s0,s1⟩:=hSw;go_simp;try with_reducible rfl
   simp only[Act.put,List.setIfInBounds_toArray,List.set_cons_zero,List.set_cons_succ]
   refine wpAnyH_take (i:=4) (v:= ?v4) rfl (by kernel_rfl) (by kernel_rfl) (by kernel_rfl) (fun _ _ _ h=>h) (Or.inl ⟨by rfl, ?h4⟩) (by assumption) ?r4
   case h4=>intro W hSw;(try dsimp only at hSw);obtain ⟨s0,s1⟩:=hSw;go_simp;try with_reducible rfl
   simp only[Act.put,List.setIfInBounds_toArray,List.set_cons_zero,List.set_cons_succ]
   refine wpAnyH_take (i:=5) (v:= ?v5) rfl (by kernel_rfl) (by kernel_rfl) (by kernel_rfl) (fun _ _ _ h=>h) (Or.inl ⟨by rfl, ?h5⟩) (by assumption) ?r5
   case h5=>intro W hSw;(try dsimp only at hSw);obtain ⟨s0,s1⟩:=hSw;go_simp;try with_reducible rfl
   simp only[Act.put,List.setIfInBounds_toArray,List.set_cons_zero,List.set_cons_succ]
   refine wpAnyH_take (i:=6) (v:= ?v6) rfl (by kernel_rfl) (by kernel_rfl) (by kernel_rfl) (fun _ _ _ h=>h) (Or.inl ⟨by rfl, ?h6⟩) (by assumption) ?r6
   case h6=>intro W hSw;(try dsimp only at hSw);obtain ⟨s0,s1⟩:=hSw;go_simp;try with_reducible rfl
   simp only[Act.put,List.setIfInBounds_toArray,List.set_cons_zero,List.set_cons_succ]
   refine wpAnyH_take (i:=7) (v:= ?v7) rfl (by kernel_rfl) (by kernel_rfl) (by kernel_rfl) (fun _ _ _ h=>h) (Or.inl ⟨by rfl, ?h7⟩) (by assumption) ?r7
   case h7=>intro W hSw;(try dsimp only at hSw);obtain ⟨s0,s1⟩:=hSw;go_simp;try with_reducible rfl
   simp only[Act.put,List.setIfInBounds_toArray,List.set_cons_zero,List.set_cons_succ]
   refine wpAnyH_take (i:=8) (v:= ?v8) rfl (by kernel_rfl) (by kernel_rfl) (by kernel_rfl) (fun _ _ _ h=>h) (Or.inl ⟨by rfl, ?h8⟩) (by assumption) ?r8
   case h8=>intro W hSw;(try dsimp only at hSw);obtain ⟨s0,s1⟩:=hSw;go_simp;try with_reducible rfl
   simp only[Act.put,List.setIfInBounds_toArray,List.set_cons_zero,List.set_cons_succ]
   refine wpAnyH_take (i:=9) (v:= ?v9) rfl (by kernel_rfl) (by kernel_rfl) (by kernel_rfl) (fun _ _ _ h=>h) (Or.inl ⟨by rfl, ?h9⟩) (by assumption) ?r9
   case h9=>intro W hSw;(try dsimp only at hSw);obtain ⟨s0,s1⟩:=hSw;go_simp;try with_reducible rfl
   simp only[Act.put,List.setIfInBounds_toArray,List.set_cons_zero,List.set_cons_succ]
   refine wpAnyH_take (i:=10) (v:= ?v10) rfl (by kernel_rfl) (by kernel_rfl) (by kernel_rfl) (fun _ _ _ h=>h) (Or.inl ⟨by rfl, ?h10⟩) (by assumption) ?r10
   case h10=>intro W hSw;(try dsimp only at hSw);obtain ⟨s0,s1⟩:=hSw;go_simp;try with_reducible rfl
   simp only[Act.put,List.setIfInBounds_toArray,List.set_cons_zero,List.set_cons_succ]
   refine wpAnyH_take (i:=11) (v:= ?v11) rfl (by kernel_rfl) (by kernel_rfl) (by kernel_rfl) (fun _ _ _ h=>h) (Or.inl ⟨by rfl, ?h11⟩) (by assumption) ?r11
   case h11=>intro W hSw;(try dsimp only at hSw);obtain ⟨s0,s1⟩:=hSw;go_simp;try with_reducible rfl
   simp only[Act.put,List.setIfInBounds_toArray,List.set_cons_zero,List.set_cons_succ]
   refine wpAnyH_take (i:=12) (v:= ?v12) rfl (by kernel_rfl) (by kernel_rfl) (by kernel_rfl) (fun _ _ _ h=>h) (Or.inl ⟨by rfl, ?h12⟩) (by assumption) ?r12
   case h12=>intro W hSw;(try dsimp only at hSw);obtain ⟨s0,s1⟩:=hSw;go_simp;try with_reducible rfl
   simp only[Act.put,List.setIfInBounds_toArray,List.set_cons_zero,List.set_cons_succ]
   refine wpAnyH_take (i:=13) (v:= ?v13) rfl (by kernel_rfl) (by kernel_rfl) (by kernel_rfl) (fun _ _ _ h=>h) (Or.inl ⟨by rfl, ?h13⟩) (by assumption) ?r13
   case h13=>intro W hSw;(try dsimp only at hSw);obtain ⟨s0,s1⟩:=hSw;go_simp;try with_reducible rfl
   simp only[Act.put,List.setIfInBounds_toArray,List.set_cons_zero,List.set_cons_succ]
   refine wpAnyH_ready (rs:=[1,14]) (by kernel_rfl) (by simp) ?_
   refine AllReadyH.cons rfl (fun K hK=> ?_) ?_
   ·skip
    have zb:=(ST.out _ hrd.out).cell 2 _ rfl
    go_simp
    clear zb
    refine hK.out _ _ (PB.out _ hrd.out) (fun hHeld=> ?_)
    clear hK K
    refine wpAnyH_ready (rs:=[14]) (by kernel_rfl) (by simp) ?_
    refine AllReadyH.cons rfl (fun K hK=> ?_) AllReadyH.nil
    go_simp
    refine hK.out _ _ (PB.out _ (hrd.out.alloc hrd.out.size (.cells #[.string nm, .int .i64 (-1), .int .i64 1, .int .u32 c, .slice none 0 0] 34))) (fun hHeld=> ?_)
    clear hK K
    have BX:Below wr.heap.size wr (wr.drew.alloc (.cells #[.string nm, .int .i64 (-1), .int .i64 1, .int .u32 c, .slice none 0 0] 34)):=(hrd.out.alloc hrd.out.size (.cells #[.string nm, .int .i64 (-1), .int .i64 1, .int .u32 c, .slice none 0 0] 34))
    obtain ⟨wrows,h1,h2,h3,h4⟩:=OwnR.below OW.out BX (wrdO_below BX)
    rw[hlw] at h3
    have hx:wrdO w2.heap.size (wr.drew.alloc (.cells #[.string nm, .int .i64 (-1), .int .i64 1, .int .u32 c, .slice none 0 0] 34)) [Value.string nm, .int .i64 (-1), .int .i64 1, .int .u32 c, .slice none 0 0] (prmW prmL[i]):=by rw[HROW.out];exact ⟨_,by rw[EN.out],OwnR.nil _ _ _ _ _⟩
    refine wpAnyH_ready (rs:=[15]) (by kernel_rfl) (by simp) ?_
    refine AllReadyH.cons rfl (fun K hK=> ?_) AllReadyH.nil
    refine step_append_rows rfl _ _ 24 rfl w2.heap.size 34 i9 _ 5 64 Tryz.underlying24 hi9 hz9 hz8 hz7 rfl (by decide) _ i _ rfl h3 _ [[Value.string nm, .int .i64 (-1), .int .i64 1, .int .u32 c, .slice none 0 0]] rfl (slc_one wr.drew [Value.string nm, .int .i64 (-1), .int .i64 1, .int .u32 c, .slice none 0 0] 34 5 rfl) (fun r hr u hu=>by rw[List.mem_singleton] at hr;subst hr;simp at hu;rcases hu with rfl|rfl|rfl|rfl|rfl <;> rfl) (by unfold maxLen;simp only[List.length_singleton];omega) (by simp only[List.length_singleton];omega) (Nat.le_trans hwL BX.size) ?_
    intro v9 w9 ho9 hg9
    obtain ⟨a9,c9,rfl⟩:=own_form ho9
    have k9:=Kept.own h3 hg9
    have oW9:=OwnR.snoc (e:=34) (wrdO_apt (by decide)) h1 h2 (by rw[hlw];exact h3) h4 rfl hx (by rw[hlw];simpa using ho9) hg9
    rw[←HTK.out] at oW9
    have oL9:=OwnR.kept (OwnR.below OL.out BX (fun _ _ q=>q)) k9 (by decide) (fun _ _ _ _ _ q=>q)
    have oT9:=OwnR.kept (OwnT8.below OT.out BX) k9 (by decide) (nodO_apt (by decide) (by decide) (by decide))
    have st9:Stands w9 B #[.slice none 0 0, .slice none 0 0, .slice wa i wc, .slice none 0 0, .int .u32 16, .slice ta 1 tc, .int .i64 (-1), .slice none 0 0, .int .i64 (-1), .string ⟨#[]⟩] 30:=Stands.grown (ST.out _ BX) hg9 (stands_apart (ST.out _ BX) h3 (by decide))
    have sz9:Stands w9 w.heap.size #[.slice none 0 0, .slice none 0 0, .slice none 0 0, .slice none 0 0, .int .u32 0, .slice none 0 0, .int .i64 0, .slice none 0 0, .int .i64 0, .string ⟨#[]⟩] 30:=Stands.grown (SZ.out.below BX) hg9 (stands_apart (SZ.out.below BX) h3 (by decide))
    have hb9:=below_grown (below_trans HB.out BX) hg9 (fun k hk=>Nat.le_trans W2L (h3.lt k hk).1)
    have y1:=st9.cell 2 _ rfl
    have y2:=st9.free 2
    have kM:=set_kept st9 2 (.slice a9 (i+[[Value.string nm, .int .i64 (-1), .int .i64 1, .int .u32 c, .slice none 0 0]].length) c9)
    have stF:=hid (st9.set 2 (.slice a9 (i+[[Value.string nm, .int .i64 (-1), .int .i64 1, .int .u32 c, .slice none 0 0]].length) c9))
    have szF:=hid (sz9.other (b':=B) 2 (.slice a9 (i+[[Value.string nm, .int .i64 (-1), .int .i64 1, .int .u32 c, .slice none 0 0]].length) c9) (by omega))
    have oWF:=hid (OwnR.kept oW9 kM (by decide) (wrdO_apt (by decide)))
    have oLF:=hid (OwnR.kept oL9 kM (by decide) (fun _ _ _ _ _ q=>q))
    have oTF:=hid (OwnR.kept oT9 kM (by decide) (nodO_apt (by decide) (by decide) (by decide)))
    have bF:=hid (below_set hb9 B 2 (.slice a9 (i+[[Value.string nm, .int .i64 (-1), .int .i64 1, .int .u32 c, .slice none 0 0]].length) c9) hBW)
    have OL9:=hid oL9
    refine hK.out _ _ (PC.out _ OL9.out) (fun hHeld=> ?_)
    clear hK K
    clear k9 h1 h2 h3 h4 hx ho9 hg9 BX oW9 oL9 oT9 st9 sz9 hb9 kM
    refine wpAnyH_take (i:=16) (v:= ?v14) rfl (by kernel_rfl) (by kernel_rfl) (by kernel_rfl) (fun _ _ _ h=>h) (Or.inl ⟨by rfl, ?h14⟩) (by assumption) ?r14
    case h14=>intro W hSw;(try dsimp only at hSw);obtain ⟨s0,s1⟩:=hSw;go_simp;try with_reducible rfl
    simp only[Act.put,List.setIfInBounds_toArray,List.set_cons_zero,List.set_cons_succ]
    refine wpAnyH_ready (rs:=[17]) (by kernel_rfl) (by simp) ?_
    refine AllReadyH.cons rfl (fun K hK=> ?_) AllReadyH.nil
    go_simp
    refine hK.out _ _ (PC.out _ oLF.out) (fun hHeld=> ?_)
    clear hK K
    refine wpAnyH_done (by kernel_rfl) ?_ _
    clear y1 y2
    go_wp2_with fail
    go_roundw
    case rel=>exact ⟨i+1,_,by omega,by go_num,by simpa using stF.out,szF.out,oWF.out,oLF.out,oTF.out,bF.out⟩
    case measure=>simp[intOf];omega
   ·refine AllReadyH.cons rfl (fun K hK=> ?_) AllReadyH.nil
    go_simp
    refine hK.out _ _ (PB.out _ (hrd.out.alloc hrd.out.size (.cells #[.string nm, .int .i64 (-1), .int .i64 1, .int .u32 c, .slice none 0 0] 34))) (fun hHeld=> ?_)
    clear hK K
    refine wpAnyH_ready (rs:=[1]) (by kernel_rfl) (by simp) ?_
    refine AllReadyH.cons rfl (fun K hK=> ?_) AllReadyH.nil
    have zb:=(ST.out (wr.alloc (.cells #[.string nm, .int .i64 (-1), .int .i64 1, .int .u32 c, .slice none 0 0] 34)) ((Below.refl _ wr).alloc (Nat.le_refl _) _)).cell 2 _ rfl
    go_simp
    clear zb
    refine hK.out _ _ (PB.out _ (hrd.out.alloc hrd.out.size (.cells #[.string nm, .int .i64 (-1), .int .i64 1, .int .u32 c, .slice none 0 0] 34))) (fun hHeld=> ?_)
    clear hK K
    have BX:Below wr.heap.size wr (wr.drew.alloc (.cells #[.string nm, .int .i64 (-1), .int .i64 1, .int .u32 c, .slice none 0 0] 34)):=(hrd.out.alloc hrd.out.size (.cells #[.string nm, .int .i64 (-1), .int .i64 1, .int .u32 c, .slice none 0 0] 34))
    obtain ⟨wrows,h1,h2,h3,h4⟩:=OwnR.below OW.out BX (wrdO_below BX)
    rw[hlw] at h3
    have hx:wrdO w2.heap.size (wr.drew.alloc (.cells #[.string nm, .int .i64 (-1), .int .i64 1, .int .u32 c, .slice none 0 0] 34)) [Value.string nm, .int .i64 (-1), .int .i64 1, .int .u32 c, .slice none 0 0] (prmW prmL[i]):=by rw[HROW.out];exact ⟨_,by rw[EN.out],OwnR.nil _ _ _ _ _⟩
    refine wpAnyH_ready (rs:=[15]) (by kernel_rfl) (by simp) ?_
    refine AllReadyH.cons rfl (fun K hK=> ?_) AllReadyH.nil
    refine step_append_rows rfl _ _ 24 rfl w2.heap.size 34 i9 _ 5 64 Tryz.underlying24 hi9 hz9 hz8 hz7 rfl (by decide) _ i _ rfl h3 _ [[Value.string nm, .int .i64 (-1), .int .i64 1, .int .u32 c, .slice none 0 0]] rfl (slc_one wr.drew [Value.string nm, .int .i64 (-1), .int .i64 1, .int .u32 c, .slice none 0 0] 34 5 rfl) (fun r hr u hu=>by rw[List.mem_singleton] at hr;subst hr;simp at hu;rcases hu with rfl|rfl|rfl|rfl|rfl <;> rfl) (by unfold maxLen;simp only[List.length_singleton];omega) (by simp only[List.length_singleton];omega) (Nat.le_trans hwL BX.size) ?_
    intro v9 w9 ho9 hg9
    obtain ⟨a9,c9,rfl⟩:=own_form ho9
    have k9:=Kept.own h3 hg9
    have oW9:=OwnR.snoc (e:=34) (wrdO_apt (by decide)) h1 h2 (by rw[hlw];exact h3) h4 rfl hx (by rw[hlw];simpa using ho9) hg9
    rw[←HTK.out] at oW9
    have oL9:=OwnR.kept (OwnR.below OL.out BX (fun _ _ q=>q)) k9 (by decide) (fun _ _ _ _ _ q=>q)
    have oT9:=OwnR.kept (OwnT8.below OT.out BX) k9 (by decide) (nodO_apt (by decide) (by decide) (by decide))
    have st9:Stands w9 B #[.slice none 0 0, .slice none 0 0, .slice wa i wc, .slice none 0 0, .int .u32 16, .slice ta 1 tc, .int .i64 (-1), .slice none 0 0, .int .i64 (-1), .string ⟨#[]⟩] 30:=Stands.grown (ST.out _ BX) hg9 (stands_apart (ST.out _ BX) h3 (by decide))
    have sz9:Stands w9 w.heap.size #[.slice none 0 0, .slice none 0 0, .slice none 0 0, .slice none 0 0, .int .u32 0, .slice none 0 0, .int .i64 0, .slice none 0 0, .int .i64 0, .string ⟨#[]⟩] 30:=Stands.grown (SZ.out.below BX) hg9 (stands_apart (SZ.out.below BX) h3 (by decide))
    have hb9:=below_grown (below_trans HB.out BX) hg9 (fun k hk=>Nat.le_trans W2L (h3.lt k hk).1)
    have y1:=st9.cell 2 _ rfl
    have y2:=st9.free 2
    have kM:=set_kept st9 2 (.slice a9 (i+[[Value.string nm, .int .i64 (-1), .int .i64 1, .int .u32 c, .slice none 0 0]].length) c9)
    have stF:=hid (st9.set 2 (.slice a9 (i+[[Value.string nm, .int .i64 (-1), .int .i64 1, .int .u32 c, .slice none 0 0]].length) c9))
    have szF:=hid (sz9.other (b':=B) 2 (.slice a9 (i+[[Value.string nm, .int .i64 (-1), .int .i64 1, .int .u32 c, .slice none 0 0]].length) c9) (by omega))
    have oWF:=hid (OwnR.kept oW9 kM (by decide) (wrdO_apt (by decide)))
    have oLF:=hid (OwnR.kept oL9 kM (by decide) (fun _ _ _ _ _ q=>q))
    have oTF:=hid (OwnR.kept oT9 kM (by decide) (nodO_apt (by decide) (by decide) (by decide)))
    have bF:=hid (below_set hb9 B 2 (.slice a9 (i+[[Value.string nm, .int .i64 (-1), .int .i64 1, .int .u32 c, .slice none 0 0]].length) c9) hBW)
    have OL9:=hid oL9
    refine hK.out _ _ (PC.out _ OL9.out) (fun hHeld=> ?_)
    clear hK K
    clear k9 h1 h2 h3 h4 hx ho9 hg9 BX oW9 oL9 oT9 st9 sz9 hb9 kM
    refine wpAnyH_take (i:=16) (v:= ?v15) rfl (by kernel_rfl) (by kernel_rfl) (by kernel_rfl) (fun _ _ _ h=>h) (Or.inl ⟨by rfl, ?h15⟩) (by assumption) ?r15
    case h15=>intro W hSw;(try dsimp only at hSw);obtain ⟨s0,s1⟩:=hSw;go_simp;try with_reducible rfl
    simp only[Act.put,List.setIfInBounds_toArray,List.set_cons_zero,List.set_cons_succ]
    refine wpAnyH_ready (rs:=[17]) (by kernel_rfl) (by simp) ?_
    refine AllReadyH.cons rfl (fun K hK=> ?_) AllReadyH.nil
    go_simp
    refine hK.out _ _ (PC.out _ oLF.out) (fun hHeld=> ?_)
    clear hK K
    refine wpAnyH_done (by kernel_rfl) ?_ _
    clear y1 y2
    go_wp2_with fail
    go_roundw
    case rel=>exact ⟨i+1,_,by omega,by go_num,by simpa using stF.out,szF.out,oWF.out,oLF.out,oTF.out,bF.out⟩
    case measure=>simp[intOf];omega
  ·have hi1:i=111:=by omega
   subst hi1
   have hfull:(prmL.take 111).map prmW=newM.words:=by rw[List.take_of_length_le (by rw[prm_len];exact Nat.le_refl _)];rfl
   rw[hfull] at oW
   obtain ⟨csW,oWr⟩:=oW.row
   have hnl:newM.words.length=111:=by show (prmL.map prmW).length=111;rw[List.length_map,prm_len]
   obtain ⟨wa,wc,rfl⟩:=own_form oWr
   rw[hnl] at st oW oWr
   have u0:=st.cell 0 _ rfl
   have u1:=st.cell 1 _ rfl
   have u2:=st.cell 2 _ rfl
   have u3:=st.cell 3 _ rfl
   have u4:=st.cell 4 _ rfl
   have u5:=st.cell 5 _ rfl
   have u6:=st.cell 6 _ rfl
   have u7:=st.cell 7 _ rfl
   have u8:=st.cell 8 _ rfl
   have u9:=st.cell 9 _ rfl
   have y0:=sz.cell 0 _ rfl
   have y1:=sz.cell 1 _ rfl
   have y2:=sz.cell 2 _ rfl
   have y3:=sz.cell 3 _ rfl
   have y4:=sz.cell 4 _ rfl
   have y5:=sz.cell 5 _ rfl
   have y6:=sz.cell 6 _ rfl
   have y7:=sz.cell 7 _ rfl
   have y8:=sz.cell 8 _ rfl
   have y9:=sz.cell 9 _ rfl
   have yf:=sz.free
   obtain ⟨k1,k2⟩:=set10 sz (.slice none 0 0) (.slice none 0 0) (.slice wa 111 wc) (.slice none 0 0) (.int .u32 16) (.slice ta 1 tc) (.int .i64 (-1)) (.slice none 0 0) (.int .i64 (-1)) (.string ⟨#[]⟩)
   have K1:=hid k1
   have J3:=hid (k2 (fun u=>OwW w2.heap.size u (.slice wa 111 wc) newM.words) (fun u u' kk x=>OwnR.kept x kk (by decide) (wrdO_apt (by decide))) oW)
   have J5:=hid (k2 (fun u=>OwnT8 W0.heap.size u (.slice ta 1 tc) [([],[], -1,[],[])]) (fun u u' kk x=>OwnT8.kept x kk (by decide) (by decide) (by decide) (by decide)) oT)
   have J7:Hid (Below w.heap.size w _):=below_set (below_set (below_set (below_set (below_set (below_set (below_set (below_set (below_set (below_set (hb0) w.heap.size 0 (.slice none 0 0) (Nat.le_refl _)) w.heap.size 1 (.slice none 0 0) (Nat.le_refl _)) w.heap.size 2 (.slice wa 111 wc) (Nat.le_refl _)) w.heap.size 3 (.slice none 0 0) (Nat.le_refl _)) w.heap.size 4 (.int .u32 16) (Nat.le_refl _)) w.heap.size 5 (.slice ta 1 tc) (Nat.le_refl _)) w.heap.size 6 (.int .i64 (-1)) (Nat.le_refl _)) w.heap.size 7 (.slice none 0 0) (Nat.le_refl _)) w.heap.size 8 (.int .i64 (-1)) (Nat.le_refl _)) w.heap.size 9 (.string ⟨#[]⟩) (Nat.le_refl _)
   have HZ:=hid bz.size
   have HZ2:Hid (w.heap.size≤w2.heap.size):=hid (Nat.le_trans bz.size W2L)
   clear k1 k2 oW oT oWr hb hb0 st sz
   go_wp2_with fail
   (try simp only[Exit.inBlock,Exit.then])
   refine bodyPost_ret (results_cell_row rfl _ _ w.heap.size 30 _ (0,0) _ rfl K1.out Tryz.underlying30 rfl (show _=some 10 by kernel_rfl)) rfl ?_
   exact ⟨⟨.slice none 0 0, .slice none 0 0, .slice wa 111 wc, .slice none 0 0, .slice ta 1 tc, .slice none 0 0⟩,rfl,⟨World.ownsRow_nil _ _ _ _,World.ownsRow_nil _ _ _ _,OwnR.le HZ2.out J3.out (wrdO_le HZ2.out),World.ownsRow_nil _ _ _ _,OwnT8.le HZ.out J5.out,OwnR.nil _ _ _ _ _,by decide+kernel⟩,J7.out⟩
theorem root_goodN:goodN ([],[], -1,[],[]):=by
 refine ⟨⟨fun c hc=>by simp at hc,fun p hp=>by simp at hp⟩,⟨by simp,fun p hp=>by simp at hp⟩,⟨by simp,by simp,by simp,fun p hp=>by simp at hp⟩,fun c hc=>by simp at hc,fun c hc=>by simp at hc,by decide⟩
theorem prm_good:prmL.all (fun p=>decide (0≤p.2∧p.2 < 4294967296)&&(decide (p.1.length≤31)&&p.1.all (fun c=>decide (0≤c∧c < 256))))=true:=by decide+kernel
theorem new_gM:gM newM:=by
 have hw:∀x∈newM.words,gW x:=by
  intro x hx
  obtain ⟨p,hp,rfl⟩:=List.mem_map.1 (show x∈prmL.map prmW from hx)
  have h:=List.all_eq_true.1 prm_good p hp
  simp only[Bool.and_eq_true,decide_eq_true_eq,List.all_eq_true] at h
  exact ⟨fun c hc=>h.2.2 c hc,by unfold maxLen;have:=h.2.1;show p.1.length≤_;omega,by show (Lit.int .i64 (-1)).wf=true;decide,by show (Lit.int .i64 1).wf=true;decide,h.1,fun y hy=>by simp[prmW] at hy,by simp[prmW]⟩
 refine ⟨fun c hc=>by simp[newM] at hc,by simp[newM],fun c hc=>by simp[newM] at hc,by simp[newM],hw, ?_,fun c hc=>by simp[newM] at hc,by simp[newM],by simp[newM],fun x hx=> ?_,by simp[newM],by show (Lit.int .i64 (-1)).wf=true;decide,fun x hx=>by simp[newM] at hx,by simp[newM],by show (Lit.int .i64 (-1)).wf=true;decide,fun c hc=>by simp[newM] at hc,by simp[newM]⟩
 ·show (prmL.map prmW).length*64≤_
  rw[List.length_map,prm_len]
  omega
 ·have:x=([],[], -1,[],[]):=by simpa [newM] using hx
  subst this
  exact root_goodN
def trA:List Nd:=[([],[], -1,[],[]),([97],[],0,[],[])]
def trB:List Nd:=[([],[], -1,[],[]),([97],[],0,[],[]),([98],[],1,[],[])]
def trC:List Nd:=[([],[], -1,[],[]),([97],[],0,[],[7]),([98],[],1,[],[])]
def mB:Mc:={newM with tree:=trC}
theorem add_a:addF newM.tree 0 (L ⟨#[97]⟩) []=(trA,1,0):=by kernel_rfl
theorem add_b:addF trA 1 (L ⟨#[98]⟩) []=(trB,2,0):=by kernel_rfl
theorem OwM.newT {base:Nat} {w:World} {v:Mv} {m:Mc} {o:ByteArray} (h:OwM base w v m o) {vt:Value} {t:List Nd} (ht:OwnT8 base w vt t):OwM base w {v with vt:=vt} {m with tree:=t} o:=⟨h.stack,h.mem,h.words,h.codes,ht,h.insts,h.out⟩
theorem OwM.grewT {base:Nat} {w w':World} {v:Mv} {m:Mc} {o:ByteArray} (h:OwM base w v m o) (k:Kept 51 w w') {vt:Value} {t:List Nd} (ht:OwnT8 base w' vt t):OwM base w' {v with vt:=vt} {m with tree:=t} o:=
 ⟨own_kept k (by decide) h.stack,own_kept k (by decide) h.mem,OwnR.kept h.words k (by decide) (wrdO_apt (by decide)),own_kept k (by decide) h.codes,ht,OwnR.kept h.insts k (by decide) (insO_apt (by decide)),h.out⟩
theorem node_good (nm:List Int) (p:Int) (cs:List Int) (h:(nm.all (fun c=>decide (0≤c∧c < 256))&&(decide (nm.length≤10)&&(cs.all (fun c=>decide (0≤c∧c < 4294967296))&&(decide (cs.length≤10)&&(Lit.int .i64 p).wf))))=true):goodN (nm,[],p,[],cs):=by
 simp only[Bool.and_eq_true,List.all_eq_true,decide_eq_true_eq] at h
 obtain ⟨h1,h2,h3,h4,h5⟩:=h
 refine ⟨⟨fun c hc=>h1 c hc,fun q hq=>by simp at hq⟩,⟨by unfold maxLen;simp only;omega,fun q hq=>by simp at hq⟩,⟨by simp,by simp only;omega,by simp,fun q hq=>by simp at hq⟩,fun c hc=>by simp at hc,fun c hc=>h3 c hc,h5⟩
theorem good_A:∀x∈trA,goodN x:=by
 intro x hx
 simp[trA] at hx
 rcases hx with rfl|rfl <;> exact node_good _ _ _ (by decide+kernel)
theorem good_C:∀x∈trC,goodN x:=by
 intro x hx
 simp[trC] at hx
 rcases hx with rfl|rfl|rfl <;> exact node_good _ _ _ (by decide+kernel)
set_option maxHeartbeats 4000000 in
set_option maxRecDepth 100000 in
theorem w_ibegun (w:World):
  Calls Tryz.prog 12 #[] w fun e w'=>∃v,e= .returned (.agg (Mv.cs v mB ⟨#[]⟩))∧OwM w.heap.size w' v mB ⟨#[]⟩∧Below w.heap.size w w':=by
 have z0:=stands_new w #[.slice none 0 0, .slice none 0 0, .slice none 0 0, .slice none 0 0, .int .u32 0, .slice none 0 0, .int .i64 0, .slice none 0 0, .int .i64 0, .string ⟨#[]⟩] 30
 have bz:=box_below w (.cells #[.slice none 0 0, .slice none 0 0, .slice none 0 0, .slice none 0 0, .int .u32 0, .slice none 0 0, .int .i64 0, .slice none 0 0, .int .i64 0, .string ⟨#[]⟩] 30)
 have cN:=w_r9new (w.alloc (.cells #[.slice none 0 0, .slice none 0 0, .slice none 0 0, .slice none 0 0, .int .u32 0, .slice none 0 0, .int .i64 0, .slice none 0 0, .int .i64 0, .string ⟨#[]⟩] 30))
 simp only[Mv.cs] at cN ⊢
 go_enter Tryz.func12,Tryz.ntmps12
 go_upto_region 2 with (first|(go_at_call 26;refine cN.mono ?_;rintro e w1 ⟨v1,rfl,o1,b1⟩;obtain ⟨sa,sq,ma,mq,wa,wq,ca,cq,ta,tq,ia,iq,rfl⟩:=o1.form)|fail)
 have st1:=stands_new w1 #[.slice sa newM.stack.length sq, .slice ma newM.mem.length mq, .slice wa newM.words.length wq, .slice ca newM.codes.length cq, .int .u32 newM.base, .slice ta newM.tree.length tq, .int .i64 newM.node, .slice ia newM.insts.length iq, .int .i64 newM.self, .string ⟨#[]⟩] 30
 have bx:=box_below w1 (.cells #[.slice sa newM.stack.length sq, .slice ma newM.mem.length mq, .slice wa newM.words.length wq, .slice ca newM.codes.length cq, .int .u32 newM.base, .slice ta newM.tree.length tq, .int .i64 newM.node, .slice ia newM.insts.length iq, .int .i64 newM.self, .string ⟨#[]⟩] 30)
 have ow1:=OwM.le bz.size (o1.below bx)
 have z1:=(z0.below b1).below bx
 have B1:=below_trans bz (below_trans b1 bx)
 obtain ⟨q,hq⟩:∃q,w1.heap.size=q:=⟨_,rfl⟩
 rw[hq] at st1
 have hwq:w.heap.size < q:=by rw[←hq];have:=b1.size;rw[size_al] at this;omega
 simp only[hq]
 generalize w1.alloc (.cells #[.slice sa newM.stack.length sq, .slice ma newM.mem.length mq, .slice wa newM.words.length wq, .slice ca newM.codes.length cq, .int .u32 newM.base, .slice ta newM.tree.length tq, .int .i64 newM.node, .slice ia newM.insts.length iq, .int .i64 newM.self, .string ⟨#[]⟩] 30)=W1 at st1 ow1 z1 B1 ⊢
 clear o1 b1 bx bz z0 cN hq
 have rT1:RdT W1 (.slice ta newM.tree.length tq) newM.tree:=ow1.read.tree
 have c1:=w_r8add (.slice ta newM.tree.length tq) newM.tree 0 ⟨#[97]⟩ (.slice none 0 0) [] W1 rT1 (Rd_own (World.ownsRow_nil _ 0 26 1)).1 (fun x hx=>(new_gM.tree x hx).1) (fun x hx=>(new_gM.tree x hx).2.1) (by decide)
 rw[add_a] at c1
 simp only at c1
 have f5:=st1.cell 5 _ rfl
 go_upto_region 3 with (first|(go_at_call 27;refine c1.mono ?_;rintro e w2 ⟨v2,rfl,t2,b2⟩;obtain ⟨ics,hir⟩:=OwnR.row t2;obtain ⟨ta2,tq2,rfl⟩:=own_form hir;have y5:=(st1.below b2).cell 5 _ rfl;have yf:=(st1.below b2).free 5)|fail)
 have k2:=set_kept (st1.below b2) 5 (.slice ta2 trA.length tq2)
 have st2:Stands _ q #[.slice sa newM.stack.length sq, .slice ma newM.mem.length mq, .slice wa newM.words.length wq, .slice ca newM.codes.length cq, .int .u32 newM.base, .slice ta2 trA.length tq2, .int .i64 newM.node, .slice ia newM.insts.length iq, .int .i64 newM.self, .string ⟨#[]⟩] 30:=(st1.below b2).set 5 (.slice ta2 trA.length tq2)
 have ow2:=OwM.kept (OwM.newT (ow1.below b2) (OwnT8.le B1.size t2)) k2 (by decide) (by decide) (by decide) (by decide) (by decide) (by decide) (by decide) (by decide)
 have z2:=(z1.below b2).other (b':=q) 5 (.slice ta2 trA.length tq2) (by omega)
 have B2:=below_set (below_trans B1 b2) q 5 (.slice ta2 trA.length tq2) (by omega)
 clear f5 y5 yf k2 t2 hir c1 ow1 z1 st1 rT1
 generalize w2.setCell ⟨q,5,none⟩ (.slice ta2 trA.length tq2)=W2 at st2 ow2 z2 B2 ⊢
 clear B1 b2
 have rT2:RdT W2 (.slice ta2 trA.length tq2) trA:=ow2.read.tree
 have c2:=w_r8add (.slice ta2 trA.length tq2) trA 1 ⟨#[98]⟩ (.slice none 0 0) [] W2 rT2 (Rd_own (World.ownsRow_nil _ 0 26 1)).1 (fun x hx=>(good_A x hx).1) (fun x hx=>(good_A x hx).2.1) (by decide)
 rw[add_b] at c2
 simp only at c2
 have f5:=st2.cell 5 _ rfl
 go_upto_region 4 with (first|(go_at_call 27;refine c2.mono ?_;rintro e w3 ⟨v3,rfl,t3,b3⟩;obtain ⟨ics3,hir3⟩:=OwnR.row t3;obtain ⟨ta3,tq3,rfl⟩:=own_form hir3;have y5:=(st2.below b3).cell 5 _ rfl;have yf:=(st2.below b3).free 5)|fail)
 have k3:=set_kept (st2.below b3) 5 (.slice ta3 trB.length tq3)
 have st3:Stands _ q #[.slice sa newM.stack.length sq, .slice ma newM.mem.length mq, .slice wa newM.words.length wq, .slice ca newM.codes.length cq, .int .u32 newM.base, .slice ta3 trB.length tq3, .int .i64 newM.node, .slice ia newM.insts.length iq, .int .i64 newM.self, .string ⟨#[]⟩] 30:=(st2.below b3).set 5 (.slice ta3 trB.length tq3)
 have ow3:=OwM.kept (OwM.newT (ow2.below b3) (OwnT8.le B2.size t3)) k3 (by decide) (by decide) (by decide) (by decide) (by decide) (by decide) (by decide) (by decide)
 have z3:=(z2.below b3).other (b':=q) 5 (.slice ta3 trB.length tq3) (by omega)
 have B3:=below_set (below_trans B2 b3) q 5 (.slice ta3 trB.length tq3) (by omega)
 clear f5 y5 yf k3 t3 hir3 c2 ow2 z2 st2 rT2
 generalize w3.setCell ⟨q,5,none⟩ (.slice ta3 trB.length tq3)=W3 at st3 ow3 z3 B3 ⊢
 clear B2 b3
 obtain ⟨rows,r1,r2,r3,r4⟩:OwnT8 w.heap.size W3 (.slice ta3 trB.length tq3) trB:=ow3.tree
 obtain ⟨g,gcap,eg⟩:=own_some r3 (by decide)
 obtain ⟨rfl,rfl⟩:=slc_inj eg
 have hge:=own_ge r3
 have bL:=box_below W3 (.cells #[.int .u32 7] 26)
 have oL:(W3.alloc (.cells #[.int .u32 7] 26)).ownsRow w.heap.size 26 1 (.slice (some ⟨W3.heap.size,0,none⟩) 1 1) 1 [.int .u32 7]:=World.ownsRow_lit W3 #[.int .u32 7] 1 B3.size (by unfold maxLen;omega) rfl
 have ix:∀w',(Instr.indexAt 27 (.slice (some ⟨g,0,none⟩) trB.length tq3) (.int .i64 1)).run Tryz.prog w'= .ok (.pointer (some ⟨g,5,none⟩)) w':=idx_node g trB.length tq3 1 (by decide)
 have r3':=own_belowN r3 bL
 have r4':∀i (h:i < trB.length),nodO w.heap.size (W3.alloc (.cells #[.int .u32 7] 26)) (rows.getD i []) trB[i]:=fun i h=>nodO_below bL _ _ (r4 i h)
 have rT3:RdT (W3.alloc (.cells #[.int .u32 7] 26)) (.slice (some ⟨g,0,none⟩) trB.length tq3) trB:=(ow3.below bL).read.tree
 obtain ⟨bn,on,nm,vu,vp,vc,rn,n0,n1,n2,n3,n4,nn⟩:=nod_at rT3 1 (by decide)
 obtain ⟨en1,en2⟩:=ptr_inj ((ix W3).symm.trans (rn W3))
 subst en1
 subst en2
 have yf:=fun j=>r3'.frozenAt j
 obtain ⟨s1,s2⟩:=r3'.stored 9 (.slice (some ⟨W3.heap.size,0,none⟩) 1 1)
 have kk:=Kept.own (v:= .slice (some ⟨g,0,none⟩) trB.length tq3) r3' (by simpa [Value.ownBlock] using s2)
 have hx:nodO w.heap.size ((W3.alloc (.cells #[.int .u32 7] 26)).setCell ⟨g,9,none⟩ (.slice (some ⟨W3.heap.size,0,none⟩) 1 1)) ((rows.getD 1 []).set 4 (.slice (some ⟨W3.heap.size,0,none⟩) 1 1)) ([97],[],0,[],[7]):=by
  obtain ⟨xu,xp,xc,h1,h2,h3,h4⟩:=r4' 1 (by decide)
  rw[h1]
  exact ⟨xu,xp,_,rfl,own_kept kk (by decide) h2,OwnR.kept h3 kk (by decide) (propO_apt (by decide)),own_kept kk (by decide) oL⟩
 have oC:=(OwnR.set (nodO_apt (by decide) (by decide) (by decide)) r1 r2 r3' r4' 1 4 (by decide) (by decide) _ _ hx).1
 have ow4:=OwM.grewT (ow3.below bL) kk (t:=trC) oC
 have st4:=stands_kept kk (by decide) (st3.below bL)
 have z4:=stands_kept kk (by decide) (z3.below bL)
 have B4:=below_set (below_trans B3 bL) g 9 (.slice (some ⟨W3.heap.size,0,none⟩) 1 1) hge
 have f5:=(st3.below bL).cell 5 _ rfl
 have f5':=st3.cell 5 _ rfl
 clear rn n0 n1 n2 n3 nn r1 r2 r3 r3' r4 r4' s1 s2 rT3 hx oC oL eg hge
 go_upto_region 5 with fail
 generalize (W3.alloc (.cells #[.int .u32 7] 26)).setCell ⟨g,9,none⟩ (.slice (some ⟨W3.heap.size,0,none⟩) 1 1)=W4 at st4 ow4 z4 B4 ⊢
 clear f5 f5' n4 yf kk ow3 z3 st3 B3 bL ix
 have g0:=st4.cell 0 _ rfl
 have g1:=st4.cell 1 _ rfl
 have g2:=st4.cell 2 _ rfl
 have g3:=st4.cell 3 _ rfl
 have g4:=st4.cell 4 _ rfl
 have g5:=st4.cell 5 _ rfl
 have g6:=st4.cell 6 _ rfl
 have g7:=st4.cell 7 _ rfl
 have g8:=st4.cell 8 _ rfl
 have g9:=st4.cell 9 _ rfl
 have u0:=z4.cell 0 _ rfl
 have u1:=z4.cell 1 _ rfl
 have u2:=z4.cell 2 _ rfl
 have u3:=z4.cell 3 _ rfl
 have u4:=z4.cell 4 _ rfl
 have u5:=z4.cell 5 _ rfl
 have u6:=z4.cell 6 _ rfl
 have u7:=z4.cell 7 _ rfl
 have u8:=z4.cell 8 _ rfl
 have u9:=z4.cell 9 _ rfl
 have uf:=z4.free
 obtain ⟨k1,k2⟩:=set10 z4 (.slice sa newM.stack.length sq) (.slice ma newM.mem.length mq) (.slice wa newM.words.length wq) (.slice ca newM.codes.length cq) (.int .u32 newM.base) (.slice (some ⟨g,0,none⟩) trB.length tq3) (.int .i64 newM.node) (.slice ia newM.insts.length iq) (.int .i64 newM.self) (.string ⟨#[]⟩)
 have JO:=hid (k2 (fun u=>OwM w.heap.size u ⟨.slice sa newM.stack.length sq, .slice ma newM.mem.length mq, .slice wa newM.words.length wq, .slice ca newM.codes.length cq, .slice (some ⟨g,0,none⟩) trB.length tq3, .slice ia newM.insts.length iq⟩ mB ⟨#[]⟩) (fun u u' kk q=>OwM.kept q kk (by decide) (by decide) (by decide) (by decide) (by decide) (by decide) (by decide) (by decide)) ow4)
 have BB:=hid (below_set10 B4 w.heap.size (.slice sa newM.stack.length sq) (.slice ma newM.mem.length mq) (.slice wa newM.words.length wq) (.slice ca newM.codes.length cq) (.int .u32 newM.base) (.slice (some ⟨g,0,none⟩) trB.length tq3) (.int .i64 newM.node) (.slice ia newM.insts.length iq) (.int .i64 newM.self) (.string ⟨#[]⟩) (Nat.le_refl _))
 have K1:=hid k1
 clear k1 k2 ow4 st4 z4 B4
 go_wp2_with fail
 (try simp only[Exit.inBlock,Exit.then])
 refine bodyPost_ret (results_cell_row rfl _ _ w.heap.size 30 _ (0,0) _ rfl K1.out Tryz.underlying30 rfl (show _=some 10 by kernel_rfl)) rfl ?_
 exact ⟨⟨.slice sa newM.stack.length sq, .slice ma newM.mem.length mq, .slice wa newM.words.length wq, .slice ca newM.codes.length cq, .slice (some ⟨g,0,none⟩) trB.length tq3, .slice ia newM.insts.length iq⟩,rfl,JO.out,BB.out⟩
def lB:List Iz:=[(1, -1,[],[7]),(2,0,[120],[])]
def mC:Mc:={mB with insts:=lB}
def stB:List Sp:=[([97],[],[]),([98],[],[120])]
theorem gM_B:gM mB:=⟨new_gM.stack,new_gM.stackZ,new_gM.mem,new_gM.memZ,new_gM.words,new_gM.wordsZ,new_gM.codes,new_gM.codesZ,new_gM.base,good_C,by decide,new_gM.node,new_gM.insts,new_gM.instsZ,new_gM.self,new_gM.out,new_gM.outZ⟩
theorem frm_B:frmM mB=true:=by kernel_rfl
theorem par_B:parF (L ⟨#[47,97,47,98,58,120]⟩)=(stB,0):=by kernel_rfl
theorem fin_B0:finT mB.tree (stB.take 1)=(1,0):=by kernel_rfl
theorem fin_B1:finT mB.tree (stB.take 2)=(2,0):=by kernel_rfl
theorem opn_B:opnS mB.tree mB.insts ([(1,[]),(2,[120])]:List Sto).reverse=some (lB,[1,0]):=by kernel_rfl
theorem prm_open:prmL.all (fun p=>decide (¬p.1=[111,112,101,110]))=true:=by decide+kernel
theorem no_open:∀x∈mB.words,¬x.1=[111,112,101,110]:=by
 intro x hx
 obtain ⟨p,hp,rfl⟩:=List.mem_map.1 (show x∈prmL.map prmW from hx)
 show ¬p.1=_
 simpa using List.all_eq_true.1 prm_open p hp
theorem way_B {S:List Sto} (h:wayOk mB.tree (parF (L ⟨#[47,97,47,98,58,120]⟩)).1 S):S=[(1,[]),(2,[120])]:=by
 rw[par_B] at h
 obtain ⟨h1,h2⟩:=h
 have hl:S.length=2:=h1
 obtain ⟨a,b,rfl⟩:∃a b,S=[a,b]:=by
  match S,hl with
  |[a,b],_=>exact ⟨a,b,rfl⟩
 obtain ⟨p1,p2⟩:=h2 0 (by decide) (by simp)
 obtain ⟨p3,p4⟩:=h2 1 (by decide) (by simp)
 have e1:finT mB.tree (stB.take 1)=(a.1,0):=p1
 have e2:finT mB.tree (stB.take 2)=(b.1,0):=p3
 rw[fin_B0] at e1
 rw[fin_B1] at e2
 injection e1 with e1 _
 injection e2 with e2 _
 have e3:a.2=[]:=p2
 have e4:b.2=[120]:=p4
 rw[show a=(a.1,a.2) from rfl,show b=(b.1,b.2) from rfl,←e1,←e2,e3,e4]
theorem bad_B:¬opBad mB (L ⟨#[47,97,47,98,58,120]⟩):=by
 rintro (h|h|⟨S,h1,h2⟩)
 ·rw[frm_B] at h
  cases h
 ·rw[par_B] at h
  rcases h with h|h|⟨k,hk,h⟩
  ·exact h rfl
  ·cases h
  ·have hk2:k < 2:=hk
   match k,hk2,h with
   |0,_,h=>exact h (by rw[show ((stB,(0:Int)).1:List Sp)=stB from rfl,fin_B0])
   |1,_,h=>exact h (by rw[show ((stB,(0:Int)).1:List Sp)=stB from rfl,fin_B1])
 ·rw[way_B h1,opn_B] at h2
  cases h2
theorem w_openB (v:Mv) (w:World) (hT:Tab w) (h:RdM w v mB ⟨#[]⟩):
  Calls Tryz.prog 5 #[.agg (v.cs mB ⟨#[]⟩), .string ⟨#[47,97,47,98,58,120]⟩, .int .i64 5] w fun e w'=>∃v',e= .returned (.tuple #[.agg (v'.cs mC ⟨#[]⟩), .int .u32 2, .int .i64 5, .int .i64 0])∧OwM w.heap.size w' v' mC ⟨#[]⟩∧Below w.heap.size w w':=by
 refine (w_pOpen mB v ⟨#[]⟩ ⟨#[47,97,47,98,58,120]⟩ 5 w hT h gM_B (by decide) (by decide) (by decide) no_open).mono ?_
 rintro e w' ⟨⟨E,_,hb,_⟩|⟨S,l2,ch,v',_,_,_,h1,h2,rfl,ow⟩,b⟩
 ·exact absurd hb bad_B
 ·rw[way_B h1,opn_B] at h2
  injection h2 with h2
  injection h2 with e1 e2
  subst e1
  subst e2
  exact ⟨v',rfl,ow,b⟩
set_option maxHeartbeats 4000000 in
set_option maxRecDepth 100000 in
theorem w_ialive (w:World) (hT:Tab w):
  Calls Tryz.prog 4 #[] w fun e w'=>e= .returned (.bool true)∧Below w.heap.size w w':=by
 have cB:=w_ibegun w
 have CO:=hid (fun W v (q:Below w.heap.size w W) (h:OwM w.heap.size W v mB ⟨#[]⟩)=>w_openB v W (hT.below q) h.read)
 have hq2:((mC.insts.length:Int)==2)=true:=by decide
 clear hT
 go_enter Tryz.func4,Tryz.ntmps4
 go_upto_region 2 with (first
  |(go_at_call 12;refine cB.mono ?_;rintro e w1 ⟨v1,rfl,o1,b1⟩)
  |(go_at_call 5;refine (CO.out _ _ b1 o1).mono ?_;rintro e w2 ⟨v2,rfl,o2,b2⟩;obtain ⟨sb,sp,mb,mp,wb,wp,cb,cp,tb,tp,ib,ip,rfl⟩:=o2.form;simp only[Mv.cs])
  |fail)
 have bx:=box_below w2 (.cells #[.slice sb mC.stack.length sp, .slice mb mC.mem.length mp, .slice wb mC.words.length wp, .slice cb mC.codes.length cp, .int .u32 mC.base, .slice tb mC.tree.length tp, .int .i64 mC.node, .slice ib mC.insts.length ip, .int .i64 mC.self, .string ⟨#[]⟩] 30)
 have f7:=(stands_new w2 #[.slice sb mC.stack.length sp, .slice mb mC.mem.length mp, .slice wb mC.words.length wp, .slice cb mC.codes.length cp, .int .u32 mC.base, .slice tb mC.tree.length tp, .int .i64 mC.node, .slice ib mC.insts.length ip, .int .i64 mC.self, .string ⟨#[]⟩] 30).cell 7 _ rfl
 have rI:=(o2.below bx).read.insts
 obtain ⟨bi,oi,ar,vc,rs,y0,y1,y2,y3,ea,_⟩:=ins_at rI 1 (by decide)
 have rs':∀w',(Instr.indexAt 28 (.slice ib mC.insts.length ip) (.int .i64 1)).run Tryz.prog w'= .ok (.pointer (some ⟨bi,oi,none⟩)) w':=rs
 have ea2:ar=⟨#[120]⟩:=by rw[←ea];decide+kernel
 rw[ea2] at y2
 have y1':_=some (Value.int .i64 0):=y1
 have B:=below_trans (below_trans b1 b2) bx
 clear rs ea ea2 y0 y1 y3 rI o2 o1 b1 b2 cB
 go_wp2_with fail
 go_ret
 exact ⟨rfl,B⟩
end Go.Proofs.YtlokhciaaepenaaGreatDoor
