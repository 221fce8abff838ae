import Derived.Deep.RegionHeld
import Derived.Deep.RegionHeld2
import Derived.Test.YtkkehbdahniiaaaGreatDoorB4
set_option linter.unusedVariables false
set_option linter.unusedSimpArgs false
set_option maxRecDepth 100000
namespace Go.Proofs.YtkkehbdahniiaaaGreatDoor
open Go.ChangeShapes Go.WideShapes Go.ChangeAt Go.RowKit
theorem RowM.form {base q:Nat} {X:Cx} {w:World} {V:Rv} {s:Rst} (h:RowM base q X w V s) {x:Ch×Value} (hx:x∈V.K):∃ao n cp,x.2= .slice ao n cp:=by
 obtain ⟨ao,cp,e⟩:=own_form (h.outs x hx)
 exact ⟨ao,_,cp,e⟩
set_option maxHeartbeats 2000000 in
set_option maxRecDepth 100000 in
theorem fw_caseY {base q:Nat} {X:Cx} {w:World} {V:Rv} {s:Rst} (h:RowM base q X w V s) (x:Ch×Value) (hx:V.K.getLast? =some x):
  Calls Tryz.prog 130 #[.pointer (some ⟨q,0,none⟩), .bool x.1.1] w fun e w'=>∃g cap,V.k= .slice (some ⟨g,0,none⟩) V.K.length cap∧e= .returned (.tuple #[chV x, .slice (some ⟨g,0,none⟩) (V.K.length - 1) cap, .int .i64 0])∧Below w.heap.size w w':=by
 have hp0:0 < V.K.length:=by obtain ⟨h1,_⟩:=last_get hx;omega
 obtain ⟨g,cap,hV⟩:=own_some h.row hp0
 refine (?_:Calls _ _ _ _ _).mono (fun e w' (z:e= .returned (.tuple #[chV x, .slice (some ⟨g,0,none⟩) (V.K.length - 1) cap, .int .i64 0])∧Below w.heap.size w w')=>⟨g,cap,hV,z⟩)
 have bw:=box_below w (.cells #[.bool false, .int .i64 0, .int .i64 0, .slice none 0 0] 162)
 have sp:=stands_new w #[.bool false, .int .i64 0, .int .i64 0, .slice none 0 0] 162
 have h0:=h.below bw
 have f5:=h0.st.cell 5 _ rfl
 rw[hV] at f5
 have o0:=h0.row
 rw[hV] at o0
 obtain ⟨xa,xn,xp,hf⟩:=h.form (last_mem hx)
 have cn:=fw_newK V.K x _ o0 hx ⟨xa,xn,xp,hf⟩
 obtain ⟨⟨x1,x2,x3,x4⟩,xv⟩:=x
 simp only at hf
 subst hf
 clear h h0 o0 hx hV hp0
 go_enter Tryz.func130,Tryz.ntmps130
 go_upto_region 1 with fail
 generalize w.alloc (.cells #[.bool false, .int .i64 0, .int .i64 0, .slice none 0 0] 162)=W0 at bw sp f5 cn ⊢
 unfold chV at cn
 simp only at cn
 go_upto_region 2 with (go_at_call 141;refine cn.mono ?_;rintro e w5 ⟨rfl,b5⟩)
 have st5:=stands_new w5 #[.bool x1, .int .i64 x2, .int .i64 x3, .slice xa xn xp] 162
 have bb5:=box_below w5 (.cells #[.bool x1, .int .i64 x2, .int .i64 x3, .slice xa xn xp] 162)
 have sp5:=sp.below (below_trans b5 bb5)
 have bt:=below_trans (below_trans bw b5) bb5
 generalize w5.alloc (.cells #[.bool x1, .int .i64 x2, .int .i64 x3, .slice xa xn xp] 162)=W5 at st5 bb5 sp5 bt ⊢
 have c0:=st5.cell 0 _ rfl
 have c1:=st5.cell 1 _ rfl
 have c2:=st5.cell 2 _ rfl
 have c3:=st5.cell 3 _ rfl
 have s0:=sp5.cell 0 _ rfl
 have s1:=sp5.cell 1 _ rfl
 have s2:=sp5.cell 2 _ rfl
 have s3:=sp5.cell 3 _ rfl
 have sf:=sp5.free
 have G1:Hid (Stands _ w.heap.size #[.bool x1, .int .i64 x2, .int .i64 x3, .slice xa xn xp] 162):=set4 sp5 (.bool x1) (.int .i64 x2) (.int .i64 x3) (.slice xa xn xp)
 have J:Hid (Below w.heap.size w _):=below_set (below_set (below_set (below_set bt w.heap.size 0 (.bool x1) (Nat.le_refl _)) w.heap.size 1 (.int .i64 x2) (Nat.le_refl _)) w.heap.size 2 (.int .i64 x3) (Nat.le_refl _)) w.heap.size 3 (.slice xa xn xp) (Nat.le_refl _)
 go_wp2_with fail
 (try simp only[Exit.inBlock,Exit.then])
 refine bodyPost_ret (res_row3 rfl _ _ w.heap.size 162 _ (0,0) _ rfl G1.out Tryz.underlying162 rfl (show _=some 4 by kernel_rfl)) rfl ?_
 exact ⟨rfl,J.out⟩
set_option maxHeartbeats 2000000 in
set_option maxRecDepth 100000 in
theorem fw_caseN {base q:Nat} {X:Cx} {w:World} {V:Rv} {s:Rst} (h:RowM base q X w V s) (B:Bool) (hB:∀x,V.K.getLast? =some x→¬x.1.1=B):
  Calls Tryz.prog 130 #[.pointer (some ⟨q,0,none⟩), .bool B] w fun e w'=>e= .returned (.tuple #[.agg #[.bool false, .int .i64 0, .int .i64 0, .slice none 0 0], .slice none 0 0, .int .i64 13])∧Below w.heap.size w w':=by
 have bw:=box_below w (.cells #[.bool false, .int .i64 0, .int .i64 0, .slice none 0 0] 162)
 have sp:=stands_new w #[.bool false, .int .i64 0, .int .i64 0, .slice none 0 0] 162
 have h0:=h.below bw
 have f5:=h0.st.cell 5 _ rfl
 rcases hl:V.K.getLast? with _|x
 ·have hn:V.K=[]:=List.getLast?_eq_none_iff.1 hl
  have o0:=h0.row
  rw[hn] at o0
  have cn:=fw_newK0 _ _ o0
  clear h h0 o0 hB hl hn
  go_enter Tryz.func130,Tryz.ntmps130
  go_upto_region 1 with fail
  generalize w.alloc (.cells #[.bool false, .int .i64 0, .int .i64 0, .slice none 0 0] 162)=W0 at bw sp f5 cn ⊢
  go_upto_region 2 with (go_at_call 141;refine cn.mono ?_;rintro e w5 ⟨rfl,b5⟩)
  have bb5:=box_below w5 (.cells #[.bool false, .int .i64 0, .int .i64 0, .slice none 0 0] 162)
  have sp5:=sp.below (below_trans b5 bb5)
  have bt:=below_trans (below_trans bw b5) bb5
  generalize w5.alloc (.cells #[.bool false, .int .i64 0, .int .i64 0, .slice none 0 0] 162)=W5 at bb5 sp5 bt ⊢
  have s0:=sp5.cell 0 _ rfl
  have s1:=sp5.cell 1 _ rfl
  have s2:=sp5.cell 2 _ rfl
  have s3:=sp5.cell 3 _ rfl
  have sf:=sp5.free
  have G1:Hid (Stands _ w.heap.size #[.bool false, .int .i64 0, .int .i64 0, .slice none 0 0] 162):=set4 sp5 (.bool false) (.int .i64 0) (.int .i64 0) (.slice none 0 0)
  have J:Hid (Below w.heap.size w _):=below_set (below_set (below_set (below_set bt w.heap.size 0 (.bool false) (Nat.le_refl _)) w.heap.size 1 (.int .i64 0) (Nat.le_refl _)) w.heap.size 2 (.int .i64 0) (Nat.le_refl _)) w.heap.size 3 (.slice none 0 0) (Nat.le_refl _)
  go_wp2_with fail
  (try simp only[Exit.inBlock,Exit.then])
  refine bodyPost_ret (res_row3 rfl _ _ w.heap.size 162 _ (0,0) _ rfl G1.out Tryz.underlying162 rfl (show _=some 4 by kernel_rfl)) rfl ?_
  exact ⟨rfl,J.out⟩
 ·have hp0:0 < V.K.length:=by obtain ⟨h1,_⟩:=last_get hl;omega
  obtain ⟨g,cap,hV⟩:=own_some h.row hp0
  rw[hV] at f5
  have o0:=h0.row
  rw[hV] at o0
  obtain ⟨xa,xn,xp,hf⟩:=h.form (last_mem hl)
  have cn:=fw_newK V.K x _ o0 hl ⟨xa,xn,xp,hf⟩
  have hne:=hB x hl
  obtain ⟨⟨x1,x2,x3,x4⟩,xv⟩:=x
  simp only at hf hne
  subst hf
  have hne2:(x1 !=B)=true:=by simpa using hne
  have hne3:(x1==B)=false:=by simpa using hne
  clear h h0 o0 hB hl hV hp0 hne
  go_enter Tryz.func130,Tryz.ntmps130
  go_upto_region 1 with fail
  generalize w.alloc (.cells #[.bool false, .int .i64 0, .int .i64 0, .slice none 0 0] 162)=W0 at bw sp f5 cn ⊢
  unfold chV at cn
  simp only at cn
  go_upto_region 2 with (go_at_call 141;refine cn.mono ?_;rintro e w5 ⟨rfl,b5⟩)
  have st5:=stands_new w5 #[.bool x1, .int .i64 x2, .int .i64 x3, .slice xa xn xp] 162
  have bb5:=box_below w5 (.cells #[.bool x1, .int .i64 x2, .int .i64 x3, .slice xa xn xp] 162)
  have sp5:=sp.below (below_trans b5 bb5)
  have bt:=below_trans (below_trans bw b5) bb5
  generalize w5.alloc (.cells #[.bool x1, .int .i64 x2, .int .i64 x3, .slice xa xn xp] 162)=W5 at st5 bb5 sp5 bt ⊢
  have c0:=st5.cell 0 _ rfl
  have s0:=sp5.cell 0 _ rfl
  have s1:=sp5.cell 1 _ rfl
  have s2:=sp5.cell 2 _ rfl
  have s3:=sp5.cell 3 _ rfl
  have sf:=sp5.free
  have G1:Hid (Stands _ w.heap.size #[.bool false, .int .i64 0, .int .i64 0, .slice none 0 0] 162):=set4 sp5 (.bool false) (.int .i64 0) (.int .i64 0) (.slice none 0 0)
  have J:Hid (Below w.heap.size w _):=below_set (below_set (below_set (below_set bt w.heap.size 0 (.bool false) (Nat.le_refl _)) w.heap.size 1 (.int .i64 0) (Nat.le_refl _)) w.heap.size 2 (.int .i64 0) (Nat.le_refl _)) w.heap.size 3 (.slice none 0 0) (Nat.le_refl _)
  go_wp2_with fail
  (try simp only[Exit.inBlock,Exit.then])
  refine bodyPost_ret (res_row3 rfl _ _ w.heap.size 162 _ (0,0) _ rfl G1.out Tryz.underlying162 rfl (show _=some 4 by kernel_rfl)) rfl ?_
  exact ⟨rfl,J.out⟩
theorem isE {α:Type} (l:List α):l.isEmpty= !decide ((0:Int) < l.length):=by cases l <;> simp <;> omega
def opnR (s:Rst):Bool:= !(s.ah.isEmpty&&s.bk.isEmpty&&s.lp.isEmpty&&s.cs.isEmpty)
set_option maxHeartbeats 2000000 in
set_option maxRecDepth 100000 in
theorem fw_open {base q:Nat} {X:Cx} {w:World} {V:Rv} {s:Rst} (h:RowM base q X w V s):
  Calls Tryz.prog 100 #[.pointer (some ⟨q,0,none⟩)] w fun e w'=>e= .returned (.bool (opnR s))∧Below w.heap.size w w':=by
 have f2:=h.st.cell 2 _ rfl
 have f3:=h.st.cell 3 _ rfl
 have f4:=h.st.cell 4 _ rfl
 have f5:=h.st.cell 5 _ rfl
 have l2:=own_len h.ah uB2
 have l3:=own_len h.bk uJf
 have l4:=own_len h.lp uL3
 have l5:=own_len h.row uC4
 have hk:V.K.length=s.cs.length:=by rw[←h.ks];simp
 rw[hk] at l5
 have e2:s.ah.isEmpty= !decide ((0:Int) < s.ah.length):=isE _
 have e3:s.bk.isEmpty= !decide ((0:Int) < s.bk.length):=isE _
 have e4:s.lp.isEmpty= !decide ((0:Int) < s.lp.length):=isE _
 have e5:s.cs.isEmpty= !decide ((0:Int) < s.cs.length):=isE _
 have hr:opnR s=(decide ((0:Int) < s.ah.length)||decide ((0:Int) < s.bk.length)||decide ((0:Int) < s.lp.length)||decide ((0:Int) < s.cs.length)):=by unfold opnR;rw[e2,e3,e4,e5];simp
 rw[hr]
 clear hr e2 e3 e4 e5 h hk
 obtain ⟨n2,m2⟩:∃n:Int,(s.ah.length:Int)=n:=⟨_,rfl⟩
 obtain ⟨n3,m3⟩:∃n:Int,(s.bk.length:Int)=n:=⟨_,rfl⟩
 obtain ⟨n4,m4⟩:∃n:Int,(s.lp.length:Int)=n:=⟨_,rfl⟩
 obtain ⟨n5,m5⟩:∃n:Int,(s.cs.length:Int)=n:=⟨_,rfl⟩
 rw[m2] at l2 ⊢
 rw[m3] at l3 ⊢
 rw[m4] at l4 ⊢
 rw[m5] at l5 ⊢
 clear m2 m3 m4 m5
 obtain ⟨b2,d2⟩:∃b,decide (0 < n2)=b:=⟨_,rfl⟩
 obtain ⟨b3,d3⟩:∃b,decide (0 < n3)=b:=⟨_,rfl⟩
 obtain ⟨b4,d4⟩:∃b,decide (0 < n4)=b:=⟨_,rfl⟩
 obtain ⟨b5,d5⟩:∃b,decide (0 < n5)=b:=⟨_,rfl⟩
 rw[d2,d3,d4,d5]
 cases b2
 ·cases b3
  ·cases b4
   ·cases b5
    ·go_enter Tryz.func100,Tryz.ntmps100
     go_wp2_with fail
     all_goals go_ret
     all_goals exact ⟨by simp[],by first|exact Below.refl _ _|exact below_drewN (Below.refl _ _) _⟩
    ·go_enter Tryz.func100,Tryz.ntmps100
     go_wp2_with fail
     all_goals go_ret
     all_goals exact ⟨by simp[],by first|exact Below.refl _ _|exact below_drewN (Below.refl _ _) _⟩
   ·go_enter Tryz.func100,Tryz.ntmps100
    go_wp2_with fail
    all_goals go_ret
    all_goals exact ⟨by simp[],by first|exact Below.refl _ _|exact below_drewN (Below.refl _ _) _⟩
  ·go_enter Tryz.func100,Tryz.ntmps100
   go_wp2_with fail
   all_goals go_ret
   all_goals exact ⟨by simp[],by first|exact Below.refl _ _|exact below_drewN (Below.refl _ _) _⟩
 ·go_enter Tryz.func100,Tryz.ntmps100
  go_wp2_with fail
  all_goals go_ret
  all_goals exact ⟨by simp[],by first|exact Below.refl _ _|exact below_drewN (Below.refl _ _) _⟩
theorem apart_new {w:World} {v0 va y:Value} {k0:Nat} (hl:AtLoc w v0 va) (h0:Apart v0 y) (hy:∀k,y.ownBlock=some k→k < w.heap.size):Apart va y:=by
 intro k hk e
 rcases hl with z|z
 ·exact h0 k (by rw[←z];exact hk) e
 ·rw[hk] at z
  injection z with z
  have:=hy k e
  omega
section
variable {base q:Nat} {X:Cx} {w:World} {V:Rv} {s:Rst} (h:RowM base q X w V s)
include h
theorem RowM.outlt {x:Ch×Value} (hx:x∈V.K) (k:Nat) (hk:x.2.ownBlock=some k):k < w.heap.size:=(own_block (h.outs x hx) hk).2.1
theorem RowM.apA {x:Ch×Value} (hx:x∈V.K):Apart V.a x.2:=(List.pairwise_cons.1 h.sep).1 x.2 (List.mem_map_of_mem hx)
theorem RowM.growA {w':World} {v0 va:Value} {ah:List (Int×Int)} (hv:v0.ownBlock=V.a.ownBlock) (g:w.grownBy w' v0.ownBlock) (o:OwB2 base w' va ah) (hl:AtLoc w v0 va):
  RowM base q X (w'.setCell ⟨q,2,none⟩ va) {V with a:=va} {s with ah:=ah}∧Nxt q w V (w'.setCell ⟨q,2,none⟩ va) {V with a:=va}:=by
 have g':w.grownBy w' V.a.ownBlock:=by rw[←hv];exact g
 have k:=Kept.own h.ah g'
 have st:=stands_kept k (by decide) h.st
 have kS:=set_kept st 2 va
 have hA:∀x∈V.K,Apart v0 x.2:=fun x hx k hk=>h.apA hx k (by rw[←hv];exact hk)
 refine ⟨⟨by have:=st.set 2 va;simpa using this,own_kept kS (by decide) (own_kept k (by decide) h.tk),own_kept kS (by decide) o,own_kept kS (by decide) (own_kept k (by decide) h.bk),own_kept kS (by decide) (own_kept k (by decide) h.lp),h.ks,own_kept kS (by decide) (own_kept k (by decide) h.row),fun x hx=>own_kept kS (by decide) (grown_below g (h.outs x hx) (fun k hk e=>hA x hx k e hk)), ?_,h.hq,by have:=g.size;have:=h.hs;simp[World.setCell];omega⟩, ?_⟩
 ·refine List.pairwise_cons.2 ⟨fun y hy=> ?_,(List.pairwise_cons.1 h.sep).2⟩
  obtain ⟨x,hx,rfl⟩:=List.mem_map.1 hy
  exact apart_new (k0:=0) hl (hA x hx) (h.outlt hx)
 ·exact nxtG (v:=v0) (v':=va) (fun k hk=>Or.inr (Or.inl (by rw[←hv];exact hk))) g (fun k hk=>Rv.hasA hk) hl 2 va
theorem RowM.growB {w':World} {v0 vb:Value} {bk:List Int} (hv:v0.ownBlock=V.b.ownBlock) (g:w.grownBy w' v0.ownBlock) (o:OwJ base w' vb bk) (hl:AtLoc w v0 vb):
  RowM base q X (w'.setCell ⟨q,3,none⟩ vb) {V with b:=vb} {s with bk:=bk}∧Nxt q w V (w'.setCell ⟨q,3,none⟩ vb) {V with b:=vb}:=by
 have g':w.grownBy w' V.b.ownBlock:=by rw[←hv];exact g
 have k:=Kept.own h.bk g'
 have st:=stands_kept k (by decide) h.st
 have kS:=set_kept st 3 vb
 exact ⟨⟨by have:=st.set 3 vb;simpa using this,own_kept kS (by decide) (own_kept k (by decide) h.tk),own_kept kS (by decide) (own_kept k (by decide) h.ah),own_kept kS (by decide) o,own_kept kS (by decide) (own_kept k (by decide) h.lp),h.ks,own_kept kS (by decide) (own_kept k (by decide) h.row),fun x hx=>own_kept kS (by decide) (own_kept k (by decide) (h.outs x hx)),h.sep,h.hq,by have:=g.size;have:=h.hs;simp[World.setCell];omega⟩,
  nxtG (v:=v0) (v':=vb) (fun k hk=>Or.inr (Or.inr (Or.inl (by rw[←hv];exact hk)))) g (fun k hk=>Rv.hasB hk) hl 3 vb⟩
theorem RowM.growL {w':World} {v0 vl:Value} {lp:List (Int×Int×Int)} (hv:v0.ownBlock=V.l.ownBlock) (g:w.grownBy w' v0.ownBlock) (o:OwLp base w' vl lp) (hl:AtLoc w v0 vl):
  RowM base q X (w'.setCell ⟨q,4,none⟩ vl) {V with l:=vl} {s with lp:=lp}∧Nxt q w V (w'.setCell ⟨q,4,none⟩ vl) {V with l:=vl}:=by
 have g':w.grownBy w' V.l.ownBlock:=by rw[←hv];exact g
 have k:=Kept.own h.lp g'
 have st:=stands_kept k (by decide) h.st
 have kS:=set_kept st 4 vl
 exact ⟨⟨by have:=st.set 4 vl;simpa using this,own_kept kS (by decide) (own_kept k (by decide) h.tk),own_kept kS (by decide) (own_kept k (by decide) h.ah),own_kept kS (by decide) (own_kept k (by decide) h.bk),own_kept kS (by decide) o,h.ks,own_kept kS (by decide) (own_kept k (by decide) h.row),fun x hx=>own_kept kS (by decide) (own_kept k (by decide) (h.outs x hx)),h.sep,h.hq,by have:=g.size;have:=h.hs;simp[World.setCell];omega⟩,
  nxtG (v:=v0) (v':=vl) (fun k hk=>Or.inr (Or.inr (Or.inr (Or.inl (by rw[←hv];exact hk))))) g (fun k hk=>Rv.hasL hk) hl 4 vl⟩
theorem RowM.growK {w1 w2 w3:World} {v0 vk vo vn:Value} {K:List (Ch×Value)} (hv:v0.ownBlock=V.k.ownBlock) (g1:w.grownBy w1 vo.ownBlock) (hvo:∀k,vo.ownBlock=some k→∃x∈V.K,x.2=vo) (b2:Below w1.heap.size w1 w2) (g3:w2.grownBy w3 v0.ownBlock) (row:OwCh base w3 vk K) (h1:AtLoc w vo vn) (h3:AtLoc w2 v0 vk)
  (outs:∀x∈K,OwB2 base w1 x.2 x.1.2.2.2) (hK:∀x∈K,x.2=vn∨∃y∈V.K,y.2=x.2) (sep:(V.a::K.map (·.2)).Pairwise Apart) (cs:List Ch) (ks:K.map (·.1)=cs):
  RowM base q X (w3.setCell ⟨q,5,none⟩ vk) {V with k:=vk,K:=K} {s with cs:=cs}∧Nxt q w V (w3.setCell ⟨q,5,none⟩ vk) {V with k:=vk,K:=K}:=by
 have k1:Kept 158 w w1:=by
  refine ⟨vo.ownBlock,g1,fun k hk=> ?_⟩
  obtain ⟨x,hx,e⟩:=hvo k hk
  obtain ⟨_,_,cur,fr,z⟩:=own_block (h.outs x hx) (by rw[e];exact hk)
  exact ⟨cur,fr,z⟩
 have hA:OwB2 base w1 V.a s.ah:=grown_below g1 h.ah (fun k hk e=>by
  obtain ⟨x,hx,e2⟩:=hvo k e
  exact h.apA hx k hk (by rw[e2];exact e))
 have oK:=own_belowN (own_kept k1 (by decide) h.row) b2
 have g3':w2.grownBy w3 V.k.ownBlock:=by rw[←hv];exact g3
 have k3:=Kept.own oK g3'
 have st:=stands_kept k3 (by decide) ((stands_kept k1 (by decide) h.st).below b2)
 have kS:=set_kept st 5 vk
 refine ⟨⟨by have:=st.set 5 vk;simpa using this,own_kept kS (by decide) (own_kept k3 (by decide) (own_belowN (own_kept k1 (by decide) h.tk) b2)),own_kept kS (by decide) (own_kept k3 (by decide) (own_belowN hA b2)),own_kept kS (by decide) (own_kept k3 (by decide) (own_belowN (own_kept k1 (by decide) h.bk) b2)),own_kept kS (by decide) (own_kept k3 (by decide) (own_belowN (own_kept k1 (by decide) h.lp) b2)),ks,own_kept kS (by decide) row,fun x hx=>own_kept kS (by decide) (own_kept k3 (by decide) (own_belowN (outs x hx) b2)),sep,h.hq, ?_⟩, ?_, ?_⟩
 ·have:=g1.size;have:=b2.size;have:=g3.size;have:=h.hs;simp[World.setCell];omega
 ·have f1:Frm (inD q V) w w1:=Frm.grown g1 (fun k hk=>by
   obtain ⟨x,hx,e⟩:=hvo k hk
   exact Or.inr (Or.inr (Or.inr (Or.inr (Or.inr (Or.inr ⟨x,hx,by rw[e];exact hk⟩))))))
  have f2:Frm (inD q V) w1 w2:=Frm.below b2
  have f3:Frm (inD q V) w2 w3:=Frm.grown g3' (fun k hk=>Or.inr (Or.inr (Or.inr (Or.inr (Or.inr (Or.inl hk))))))
  exact ((f1.trans f2 (fun _ _ z=>z)).trans f3 (fun _ _ z=>z)).trans (Frm.set (D:=inD q V) w3 q 5 vk (Or.inl rfl)) (fun _ _ z=>z)
 ·intro k hk
  rcases Rv.hasK hk with z|z|⟨x,hx,z⟩
  ·exact Or.inl z
  ·rcases h3 with e|e
   ·exact Or.inl (Or.inr (Or.inr (Or.inr (Or.inr (Or.inl (by rw[←hv,←e];exact z))))))
   ·rw[z] at e
    injection e with e
    have:=g1.size;have:=b2.size
    exact Or.inr (by omega)
  ·rcases hK x hx with e|⟨y,hy,e⟩
   ·rw[e] at z
    rcases h1 with e1|e1
    ·rw[z] at e1
     obtain ⟨y,hy,e2⟩:=hvo k e1.symm
     exact Or.inl (Or.inr (Or.inr (Or.inr (Or.inr (Or.inr ⟨y,hy,by rw[e2];exact e1.symm⟩)))))
    ·rw[z] at e1
     injection e1 with e1
     exact Or.inr (by omega)
   ·exact Or.inl (Or.inr (Or.inr (Or.inr (Or.inr (Or.inr ⟨y,hy,by rw[e];exact z⟩)))))
theorem RowM.popA {g cap:Nat} (hV:V.a= .slice (some ⟨g,0,none⟩) s.ah.length cap):
  RowM base q X (w.setCell ⟨q,2,none⟩ (.slice (some ⟨g,0,none⟩) (s.ah.length - 1) cap)) {V with a:= .slice (some ⟨g,0,none⟩) (s.ah.length - 1) cap} {s with ah:=s.ah.dropLast}∧Nxt q w V (w.setCell ⟨q,2,none⟩ (.slice (some ⟨g,0,none⟩) (s.ah.length - 1) cap)) {V with a:= .slice (some ⟨g,0,none⟩) (s.ah.length - 1) cap}:=by
 have o:=h.ah
 rw[hV] at o
 refine ⟨h.put (by simp) h.tk (row_below brC (fun _=>rfl) o) h.bk h.lp h.ks h.row h.outs ?_,nxtS 2 _ (fun k hk=> ?_)⟩
 ·refine List.pairwise_cons.2 ⟨fun y hy k hk=> ?_,(List.pairwise_cons.1 h.sep).2⟩
  exact (List.pairwise_cons.1 h.sep).1 y hy k (by rw[hV];exact hk)
 ·rcases Rv.hasA hk with z|z
  ·exact z
  ·exact Or.inr (Or.inl (by rw[hV];exact z))
theorem RowM.popB {g cap:Nat} (hV:V.b= .slice (some ⟨g,0,none⟩) s.bk.length cap):
  RowM base q X (w.setCell ⟨q,3,none⟩ (.slice (some ⟨g,0,none⟩) (s.bk.length - 1) cap)) {V with b:= .slice (some ⟨g,0,none⟩) (s.bk.length - 1) cap} {s with bk:=s.bk.dropLast}∧Nxt q w V (w.setCell ⟨q,3,none⟩ (.slice (some ⟨g,0,none⟩) (s.bk.length - 1) cap)) {V with b:= .slice (some ⟨g,0,none⟩) (s.bk.length - 1) cap}:=by
 have o:=h.bk
 rw[hV] at o
 refine ⟨h.put (by simp) h.tk h.ah (OwJ.of (row_below (fun x=>[Value.int .i64 x]) (fun _=>rfl) o.flat)) h.lp h.ks h.row h.outs h.sep,nxtS 3 _ (fun k hk=> ?_)⟩
 rcases Rv.hasB hk with z|z
 ·exact z
 ·exact Or.inr (Or.inr (Or.inl (by rw[hV];exact z)))
theorem RowM.popL {g cap:Nat} (hV:V.l= .slice (some ⟨g,0,none⟩) s.lp.length cap):
  RowM base q X (w.setCell ⟨q,4,none⟩ (.slice (some ⟨g,0,none⟩) (s.lp.length - 1) cap)) {V with l:= .slice (some ⟨g,0,none⟩) (s.lp.length - 1) cap} {s with lp:=s.lp.dropLast}∧Nxt q w V (w.setCell ⟨q,4,none⟩ (.slice (some ⟨g,0,none⟩) (s.lp.length - 1) cap)) {V with l:= .slice (some ⟨g,0,none⟩) (s.lp.length - 1) cap}:=by
 have o:=h.lp
 rw[hV] at o
 refine ⟨h.put (by simp) h.tk h.ah h.bk (row_below lpC (fun _=>rfl) o) h.ks h.row h.outs h.sep,nxtS 4 _ (fun k hk=> ?_)⟩
 rcases Rv.hasL hk with z|z
 ·exact z
 ·exact Or.inr (Or.inr (Or.inr (Or.inl (by rw[hV];exact z))))
theorem RowM.popK {g cap:Nat} (hV:V.k= .slice (some ⟨g,0,none⟩) V.K.length cap):
  RowM base q X (w.setCell ⟨q,5,none⟩ (.slice (some ⟨g,0,none⟩) (V.K.length - 1) cap)) {V with k:= .slice (some ⟨g,0,none⟩) (V.K.length - 1) cap,K:=V.K.dropLast} {s with cs:=s.cs.dropLast}∧Nxt q w V (w.setCell ⟨q,5,none⟩ (.slice (some ⟨g,0,none⟩) (V.K.length - 1) cap)) {V with k:= .slice (some ⟨g,0,none⟩) (V.K.length - 1) cap,K:=V.K.dropLast}:=by
 have o:=h.row
 rw[hV] at o
 refine ⟨h.put (by simp) h.tk h.ah h.bk h.lp (by simp only;rw[←h.ks,List.map_dropLast]) (row_below chC (fun _=>rfl) o) (fun x hx=>h.outs x (drop_mem hx)) ?_,nxtS 5 _ (fun k hk=> ?_)⟩
 ·refine h.sep.sublist (List.Sublist.cons_cons _ ?_)
  exact (List.dropLast_sublist _).map _
 ·rcases Rv.hasK hk with z|z|⟨x,hx,z⟩
  ·exact z
  ·exact Or.inr (Or.inr (Or.inr (Or.inr (Or.inl (by rw[hV];exact z)))))
  ·exact Or.inr (Or.inr (Or.inr (Or.inr (Or.inr ⟨x,drop_mem hx,z⟩))))
end
def brOk (s:Rst) (b:Int×Int):Prop:=(0≤b.1∧b.1 < s.tk.length)∧ -1000000≤b.2∧b.2≤1000000
structure Bnd (s:Rst):Prop where
 tk:s.tk.length≤900000
 s0:0≤s.sz
 s1:s.sz≤900000
 ahl:s.ah.length≤900000
 ah:∀b∈s.ah,brOk s b
 bkl:s.bk.length≤900000
 bk:∀x∈s.bk, -1000000≤x∧x≤1000000
 lpl:s.lp.length≤900000
 lp:∀l∈s.lp,brOk s (l.1,l.2.1)∧ -1000000≤l.2.2∧l.2.2≤1000000
 csl:s.cs.length≤900000
 cs:∀c∈s.cs,(c.1=true→brOk s (c.2.1,c.2.2.1))∧c.2.2.2.length≤900000∧∀b∈c.2.2.2,brOk s b
def ActQ (base q:Nat) (X:Cx) (w:World) (V:Rv) (r:Option Rst) (e:Ending) (w':World):Prop:=match r with
 |none=>e= .returned (.int .i64 13)∧Below base w w'
 |some s'=>e= .returned (.int .i64 0)∧RowP base q X w V w' s'
theorem szC (c:Int) (h:okQ (cdT c) true=true):0≤szT (cdT c)∧szT (cdT c)≤260:=by
 have:=by_len (cdT c) true h
 unfold szT
 omega
theorem lead_in {s:Rst} {t:Tq} {b:Int×Int} (hb:brOk s b):∀x∈[b],(0≤x.1∧x.1 < ((s.tk++[t]).length:Nat))∧ -2000000≤x.2∧x.2≤2000000:=by
 intro x hx
 rw[List.mem_singleton] at hx
 subst hx
 obtain ⟨⟨h1,h2⟩,h3,h4⟩:=hb
 simp only[List.length_append,List.length_singleton]
 omega
set_option maxHeartbeats 4000000 in
set_option maxRecDepth 100000 in
theorem fw_then {base q:Nat} {X:Cx} {w:World} {V:Rv} {s:Rst} (h:RowM base q X w V s) (bd:Bnd s):
  Calls Tryz.prog 113 #[.pointer (some ⟨q,0,none⟩)] w (ActQ base q X w V (actR s 3)):=by
 have e3:actR s 3=match s.ah.getLast? with
  |none=>none
  |some b=>some (led (lay1 {s with ah:=s.ah.dropLast} (cdT 178)) (s.sz+szT (cdT 178)) [b]):=by unfold actR;rw[if_neg (by decide),if_neg (by decide),if_pos rfl];cases s.ah.getLast? <;> rfl
 rw[e3]
 clear e3
 have f2:=h.st.cell 2 _ rfl
 rcases hl:s.ah.getLast? with _|b
 ·have hn:s.ah=[]:=List.getLast?_eq_none_iff.1 hl
  have o:=h.ah
  rw[hn] at o
  have cn:=fw_newB0 _ _ o
  have hs:=h.hs
  clear h o bd hl hn
  go_enter Tryz.func113,Tryz.ntmps113
  go_wp2_with (first|(go_at_call 126;refine cn.mono ?_;rintro e w1 ⟨rfl,b1⟩)|fail)
  go_ret
  exact ⟨rfl,(below_trans b1 (box_below _ _)).mono hs⟩
 ·have hp0:0 < s.ah.length:=by obtain ⟨h1,_⟩:=last_get hl;omega
  obtain ⟨g,cap,hV⟩:=own_some h.ah hp0
  have o:=h.ah
  rw[hV] at o f2
  have cn:=fw_newB s.ah b w o hl
  have bok:=bd.ah b (last_mem hl)
  obtain ⟨b1,b2⟩:=b
  unfold brV at cn
  simp only at cn
  have z1:=bd.tk
  have z2:=bd.s0
  have z3:=bd.s1
  have kz:=szC 178 (by decide+kernel)
  have H:=hid h
  have HV:=hid hV
  have BO:=hid bok
  clear h o bd hl hV bok
  go_enter Tryz.func113,Tryz.ntmps113
  go_upto_region 2 with (go_at_call 126;refine cn.mono ?_;rintro e w1 ⟨rfl,c1⟩)
  have st1:=stands_new w1 #[.int .i64 b1, .int .i64 b2] 158
  have c2:=below_trans c1 (box_below w1 (.cells #[.int .i64 b1, .int .i64 b2] 158))
  have H1:=hid (H.out.below c2)
  have N1:Hid (Nxt q w V _ V):=hid (Nxt.below V c2)
  have B1:w.heap.size≤w1.heap.size:=c1.size
  generalize w1.alloc (.cells #[.int .i64 b1, .int .i64 b2] 158)=W1 at st1 c2 H1 N1 ⊢
  have HB1:=hid (H.out.new B1)
  have L1:=heap_lt' st1
  have S1:=hid st1
  clear st1 c2 B1
  have f2':=H1.out.st.cell 2 _ rfl
  have fr2:=H1.out.st.free 2
  obtain ⟨h2,n2⟩:=H1.out.popA HV.out
  have N2:=hid (N1.out.trans n2)
  have S2:=hid (S1.out.other 2 (.slice (some ⟨g,0,none⟩) (s.ah.length - 1) cap) (fun e=>HB1.out (Or.inl e)))
  have HB2:=hid (n2.notin HB1.out L1)
  have H2:=hid h2
  have L2:=heap_lt' S2.out
  clear h2 n2
  go_upto_region 5 with fail
  generalize W1.setCell ⟨q,2,none⟩ (.slice (some ⟨g,0,none⟩) (s.ah.length - 1) cap)=W2 at H2 N2 S2 L2 ⊢
  have cb:=box_below W2 (.cells #[.int .i64 178] 3)
  have cl:=fw_codes (H2.out.below cb) 178 W2.heap.size (stands_new W2 _ _) (H2.out.new (Nat.le_refl _)) (by decide+kernel) (by show s.tk.length≤1000000;omega) z2 (by show s.sz≤1000000;omega)
  have S3:=hid (S2.out.below cb)
  have N3:=hid (N2.out.trans (Nxt.below _ cb))
  have L3:=Nat.lt_of_lt_of_le L2 cb.size
  go_upto_region 6 with (go_at_call 37;refine cl.mono ?_;rintro e W4 ⟨rfl,V4,h4,n4⟩)
  have S4:=hid (S3.out.frm n4.fr HB2.out)
  have N4:=hid (N3.out.trans n4)
  have HB4:=hid (n4.notin HB2.out L3)
  have L4:=heap_lt' S4.out
  have H4:=hid h4
  clear h4 n4 cl cb
  obtain ⟨Z,hZ⟩:∃Z,s.sz+szT (cdT 178)=Z:=⟨_,rfl⟩
  have f1:W4.cell? ⟨q,1,none⟩=some (.int .i64 Z):=(H4.out.st.cell 1 _ rfl).trans (congrArg (fun z=>some (Value.int .i64 z)) hZ)
  have g0:=S4.out.cell 0 _ rfl
  have g1:=S4.out.cell 1 _ rfl
  have c4:Below W4.heap.size W4 W4.drew:=below_drewN (Below.refl _ W4) 1
  have c5:=below_trans c4 (box_below W4.drew (.cells #[.int .i64 b1, .int .i64 b2] 158))
  have cL:=fw_lead (H4.out.below c5) Z (.slice (some ⟨W4.heap.size,0,none⟩) 1 1) [(b1,b2)] (fun W k=>br_one (b:=(b1,b2)) (stands_kept k (by decide) (stands_new W4.drew _ _))) (lead_in BO.out) (by unfold lay1;simp) (by omega) (by omega)
  have N5:=hid (N4.out.trans (Nxt.below _ c5))
  have SA:=hid (S4.out.below c5)
  have L5:=heap_lt' SA.out
  have K1:=hid (And.intro (below_cell c4 f1) (And.intro (below_cell c4 g0) (below_cell c4 g1)))
  have K2:=hid (And.intro (below_cell c5 f1) (And.intro (below_cell c5 g0) (below_cell c5 g1)))
  clear c4 c5
  refine wp_region_held_drew (S:=fun W=>W.cell? ⟨q,1,none⟩=some (.int .i64 Z)∧W.cell? ⟨w1.heap.size,0,none⟩=some (.int .i64 b1)∧W.cell? ⟨w1.heap.size,1,none⟩=some (.int .i64 b2)) (by kernel_rfl) (K1.out) (fun hHeld=> ?_)
  refine wpAnyH_take (i:=0) (v:= ?v1) rfl (by kernel_rfl) (by kernel_rfl) (by kernel_rfl) (fun _ _ _ h=>h) (Or.inl ⟨by kernel_rfl, ?h1⟩) hHeld ?r1
  case h1=>intro W hSw;(try dsimp only at hSw);obtain ⟨s0,s1,s2⟩:=hSw;go_simp;try with_reducible rfl
  simp only[Act.put,List.setIfInBounds_toArray,List.set_cons_zero,List.set_cons_succ]
  refine wpAnyH_take (i:=1) (v:= ?v2) rfl (by kernel_rfl) (by kernel_rfl) (by kernel_rfl) (fun _ _ _ h=>h) (Or.inl ⟨by kernel_rfl, ?h2⟩) hHeld ?r2
  case h2=>intro W hSw;(try dsimp only at hSw);obtain ⟨s0,s1,s2⟩:=hSw;go_simp;try with_reducible rfl
  simp only[Act.put,List.setIfInBounds_toArray,List.set_cons_zero,List.set_cons_succ]
  refine wpAnyH_take (i:=2) (v:= ?v3) rfl (by kernel_rfl) (by kernel_rfl) (by kernel_rfl) (fun _ _ _ h=>h) (Or.inl ⟨by kernel_rfl, ?h3⟩) hHeld ?r3
  case h3=>intro W hSw;(try dsimp only at hSw);obtain ⟨s0,s1,s2⟩:=hSw;go_simp;try with_reducible rfl
  simp only[Act.put,List.setIfInBounds_toArray,List.set_cons_zero,List.set_cons_succ]
  refine wpAnyH_take (i:=3) (v:= ?v4) rfl (by kernel_rfl) (by kernel_rfl) (by kernel_rfl) (fun _ _ _ h=>h) (Or.inl ⟨by kernel_rfl, ?h4⟩) hHeld ?r4
  case h4=>intro W hSw;(try dsimp only at hSw);obtain ⟨s0,s1,s2⟩:=hSw;go_simp;try with_reducible rfl
  simp only[Act.put,List.setIfInBounds_toArray,List.set_cons_zero,List.set_cons_succ]
  refine wpAnyH_take (i:=4) (v:= ?v5) rfl (by kernel_rfl) (by kernel_rfl) (by kernel_rfl) (fun _ _ _ h=>h) (Or.inl ⟨by kernel_rfl, ?h5⟩) hHeld ?r5
  case h5=>intro W hSw;(try dsimp only at hSw);obtain ⟨s0,s1,s2⟩:=hSw;go_simp;try with_reducible rfl
  simp only[Act.put,List.setIfInBounds_toArray,List.set_cons_zero,List.set_cons_succ]
  refine wpAnyH_take (i:=5) (v:= ?v6) rfl (by kernel_rfl) (by kernel_rfl) (by kernel_rfl) (fun _ _ _ h=>h) (Or.inl ⟨by kernel_rfl, ?h6⟩) hHeld ?r6
  case h6=>intro W hSw;(try dsimp only at hSw);obtain ⟨s0,s1,s2⟩:=hSw;go_simp;try with_reducible rfl
  simp only[Act.put,List.setIfInBounds_toArray,List.set_cons_zero,List.set_cons_succ]
  refine wpAnyH_ready (rs:=[6]) (by kernel_rfl) (by simp) ?_
  refine AllReadyH.cons rfl (fun K hK=> ?_) AllReadyH.nil
  go_simp
  refine hK.out _ _ (K2.out) (fun hHeld=> ?_)
  clear hK K
  (try simp only[Act.put,List.setIfInBounds_toArray,List.set_cons_zero,List.set_cons_succ])
  refine wpAnyH_ready (rs:=[7]) (by kernel_rfl) (by simp) ?_
  refine AllReadyH.cons rfl (fun K hK=> ?_) AllReadyH.nil
  go_simp
  go_wp2_with (first|(go_at_call 127;refine cL.mono ?_;rintro e w9 ⟨rfl,h9,n9⟩;have H9:=hid h9;have N9:=hid (N5.out.trans n9);have st9:=SA.out.frm n9.fr HB4.out;have K3:Hid (w9.cell? ⟨q,1,none⟩=some (.int .i64 Z)∧w9.cell? ⟨w1.heap.size,0,none⟩=some (.int .i64 b1)∧w9.cell? ⟨w1.heap.size,1,none⟩=some (.int .i64 b2)):=hid ⟨(h9.st.cell 1 _ rfl).trans (congrArg (fun z=>some (Value.int .i64 z)) hZ),st9.cell 0 _ rfl,st9.cell 1 _ rfl⟩;have HB9:=hid (n9.notin HB4.out L5);have S9:=hid st9;clear h9 n9 st9))
  refine hK.out _ _ (K3.out) (fun hHeld=> ?_)
  clear hK K
  (try simp only[Act.put,List.setIfInBounds_toArray,List.set_cons_zero,List.set_cons_succ])
  refine wpAnyH_done (by kernel_rfl) ?_ _
  (try simp only[Exit.then])
  go_wp2_with fail
  go_ret
  exact ⟨rfl,_,by rw[hZ];exact H9.out,N9.out⟩
theorem br_in {s s':Rst} {C:Int} (ok:okQ (cdT C) true=true) (bd:Bnd s) (e1:s'.tk=s.tk++[cdT C]):∀x∈[brn s C],(0≤x.1∧x.1 < s'.tk.length)∧ -2000000≤x.2∧x.2≤2000000:=by
 intro x hx
 rw[List.mem_singleton] at hx
 subst hx
 have:=szC C ok
 have:=bd.s0
 have:=bd.s1
 rw[e1]
 unfold brn
 simp only[List.length_append,List.length_singleton]
 omega
set_option maxHeartbeats 4000000 in
set_option maxRecDepth 100000 in
theorem fw_back {base q:Nat} {X:Cx} {w:World} {V:Rv} {s:Rst} (h:RowM base q X w V s) (bd:Bnd s) (C:Int) (ok:okQ (cdT C) true=true):
  Calls Tryz.prog 114 #[.pointer (some ⟨q,0,none⟩), .int .i64 C] w (ActQ base q X w V (match s.bk.getLast? with
  |none=>none
  |some to=>some (led (lay1 {s with bk:=s.bk.dropLast} (cdT C)) to [brn s C]))):=by
 have f3:=h.st.cell 3 _ rfl
 rcases hl:s.bk.getLast? with _|to
 ·have hn:s.bk=[]:=List.getLast?_eq_none_iff.1 hl
  have o:=h.bk
  rw[hn] at o
  have cn:=fw_newJ0 _ _ o
  have hs:=h.hs
  clear h o bd hl hn
  go_enter Tryz.func114,Tryz.ntmps114
  go_wp2_with (first|(go_at_call 128;refine cn.mono ?_;rintro e w1 ⟨rfl,hw1⟩)|fail)
  go_ret
  exact ⟨rfl,Below.refl _ _⟩
 ·have hp0:0 < s.bk.length:=by obtain ⟨h1,_⟩:=last_get hl;omega
  obtain ⟨g,cap,hV⟩:=own_some h.bk hp0
  have o:=h.bk
  rw[hV] at o f3
  have cn:=fw_newJ s.bk to w o hl
  have tok:=bd.bk to (last_mem hl)
  have z1:=bd.tk
  have z2:=bd.s0
  have z3:=bd.s1
  have kz:=szC C ok
  have BI:=hid (br_in (s':=lay1 {s with bk:=s.bk.dropLast} (cdT C)) ok bd rfl)
  have H:=hid h
  have HV:=hid hV
  have hbv:brV (brn s C)= .agg #[.int .i64 (brn s C).1, .int .i64 (brn s C).2]:=rfl
  obtain ⟨b,hb⟩:∃b,brn s C=b:=⟨_,rfl⟩
  rw[hb] at BI hbv
  obtain ⟨b1,b2⟩:=b
  have HBR:=hid hb
  simp only at hbv
  clear h o bd hl hV
  go_enter Tryz.func114,Tryz.ntmps114
  go_upto_region 4 with (go_at_call 128;refine cn.mono ?_;rintro e W1 ⟨rfl,c1⟩)
  have h1:=H.out.below c1
  have N1:Hid (Nxt q w V _ V):=hid (Nxt.below V c1)
  have f3':=h1.st.cell 3 _ rfl
  have fr3:=h1.st.free 3
  obtain ⟨h2,n2⟩:=h1.popB HV.out
  have N2:=hid (N1.out.trans n2)
  have H2:=hid h2
  clear h1 h2 n2
  go_upto_region 5 with fail
  generalize W1.setCell ⟨q,3,none⟩ (.slice (some ⟨g,0,none⟩) (s.bk.length - 1) cap)=W2 at H2 N2 ⊢
  have cb:=fw_branch H2.out C ok (by show s.tk.length≤1000000;omega) z2 (by show s.sz≤1000000;omega)
  have hb2:brV (brn {s with bk:=s.bk.dropLast} C)= .agg #[.int .i64 b1, .int .i64 b2]:=hbv ▸ congrArg brV HBR.out
  rw[hb2] at cb
  go_upto_region 6 with (first
   |(go_at_call 111;refine cb.mono ?_;rintro e W4 ⟨rfl,V4,h4,n4⟩;have c5:=box_below W4 (.cells #[.int .i64 b1, .int .i64 b2] 158);have cL:=fw_lead (h4.below c5) to (.slice (some ⟨W4.heap.size,0,none⟩) 1 1) [(b1,b2)] (fun W k=>br_one (b:=(b1,b2)) (stands_kept k (by decide) (stands_new W4 _ _))) BI.out (by unfold lay1;simp) (by omega) (by omega);have N5:=hid ((N2.out.trans n4).trans (Nxt.below _ c5)))
   |(go_at_call 127;refine cL.mono ?_;rintro e w9 ⟨rfl,h9,n9⟩;have H9:=hid h9;have N9:=hid (N5.out.trans n9);clear h9 n9))
  go_wp2_with fail
  go_ret
  exact ⟨rfl,_,by rw[HBR.out];exact H9.out,N9.out⟩
theorem infoBr:(Tryz.prog.info? 158).map (fun i=>(i.zero,i.size,i.bytes))=some (some (.agg #[.int .i64 0, .int .i64 0]),2,16):=by kernel_rfl
set_option maxHeartbeats 4000000 in
set_option maxRecDepth 100000 in
theorem fw_ahead {base q:Nat} {X:Cx} {w:World} {V:Rv} {s:Rst} (h:RowM base q X w V s) (bd:Bnd s):
  Calls Tryz.prog 112 #[.pointer (some ⟨q,0,none⟩)] w (ActQ base q X w V (match s.ah.getLast? with
  |none=>none
  |some b=>some {lay1 s (cdT 19) with ah:=s.ah.dropLast++[brn s 19,b]})):=by
 have f2:=h.st.cell 2 _ rfl
 rcases hl:s.ah.getLast? with _|b
 ·have hn:s.ah=[]:=List.getLast?_eq_none_iff.1 hl
  have o:=h.ah
  rw[hn] at o
  have cn:=fw_newB0 _ _ o
  have hs:=h.hs
  clear h o bd hl hn
  go_enter Tryz.func112,Tryz.ntmps112
  go_wp2_with (first|(go_at_call 126;refine cn.mono ?_;rintro e w1 ⟨rfl,b1⟩)|fail)
  go_ret
  exact ⟨rfl,(below_trans b1 (box_below _ _)).mono hs⟩
 ·have hp0:0 < s.ah.length:=by obtain ⟨h1,_⟩:=last_get hl;omega
  obtain ⟨g,cap,hV⟩:=own_some h.ah hp0
  have o:=h.ah
  rw[hV] at o f2
  have cn:=fw_newB s.ah b w o hl
  obtain ⟨b1,b2⟩:=b
  unfold brV at cn
  simp only at cn
  have z4:=bd.ahl
  have z1:=bd.tk
  have z2:=bd.s0
  have z3:=bd.s1
  have kz:=szC 19 (by decide+kernel)
  have hbv:brV (brn s 19)= .agg #[.int .i64 (brn s 19).1, .int .i64 (brn s 19).2]:=rfl
  obtain ⟨nb,hnb⟩:∃b,brn s 19=b:=⟨_,rfl⟩
  rw[hnb] at hbv
  obtain ⟨n1,n2⟩:=nb
  have HBR:=hid hnb
  simp only at hbv
  obtain ⟨i9,hi9,hz9,hz8,hz7⟩:=info_parts infoBr
  have H:=hid h
  have HV:=hid hV
  clear h o bd hl hV
  go_enter Tryz.func112,Tryz.ntmps112
  go_upto_region 4 with (go_at_call 126;refine cn.mono ?_;rintro e w1 ⟨rfl,c1⟩)
  have st1:=stands_new w1 #[.int .i64 b1, .int .i64 b2] 158
  have c2:=below_trans c1 (box_below w1 (.cells #[.int .i64 b1, .int .i64 b2] 158))
  have H1:=hid (H.out.below c2)
  have N1:Hid (Nxt q w V _ V):=hid (Nxt.below V c2)
  have B1:w.heap.size≤w1.heap.size:=c1.size
  generalize w1.alloc (.cells #[.int .i64 b1, .int .i64 b2] 158)=W1 at st1 c2 H1 N1 ⊢
  have HB1:=hid (H.out.new B1)
  have L1:=heap_lt' st1
  have S1:=hid st1
  clear st1 c2 B1
  have cD:Below W1.heap.size W1 W1.drew:=below_drewN (Below.refl _ W1) 1
  have HD:=hid (H1.out.below cD)
  have ND:=hid (N1.out.trans (Nxt.below V cD))
  have SD:=hid (S1.out.below cD)
  have LD:=heap_lt' SD.out
  have cb:=fw_branch HD.out 19 (by decide+kernel) (by omega) z2 (by omega)
  rw[HBR.out,hbv] at cb
  have K1:=hid (And.intro (SD.out.cell 0 _ rfl) (SD.out.cell 1 _ rfl))
  clear cD
  refine wp_region_held_drew (S:=fun W=>W.cell? ⟨w1.heap.size,0,none⟩=some (.int .i64 b1)∧W.cell? ⟨w1.heap.size,1,none⟩=some (.int .i64 b2)) (by kernel_rfl) (K1.out) (fun hHeld=> ?_)
  refine wpAnyH_take (i:=0) (v:= ?v7) rfl (by kernel_rfl) (by kernel_rfl) (by kernel_rfl) (fun _ _ _ h=>h) (Or.inl ⟨by kernel_rfl, ?h7⟩) hHeld ?r7
  case h7=>intro W hSw;(try dsimp only at hSw);obtain ⟨s0,s1⟩:=hSw;go_simp;try with_reducible rfl
  simp only[Act.put,List.setIfInBounds_toArray,List.set_cons_zero,List.set_cons_succ]
  refine wpAnyH_take (i:=1) (v:= ?v8) rfl (by kernel_rfl) (by kernel_rfl) (by kernel_rfl) (fun _ _ _ h=>h) (Or.inl ⟨by kernel_rfl, ?h8⟩) hHeld ?r8
  case h8=>intro W hSw;(try dsimp only at hSw);obtain ⟨s0,s1⟩:=hSw;go_simp;try with_reducible rfl
  simp only[Act.put,List.setIfInBounds_toArray,List.set_cons_zero,List.set_cons_succ]
  refine wpAnyH_take (i:=2) (v:= ?v9) rfl (by kernel_rfl) (by kernel_rfl) (by kernel_rfl) (fun _ _ _ h=>h) (Or.inl ⟨by kernel_rfl, ?h9⟩) hHeld ?r9
  case h9=>intro W hSw;(try dsimp only at hSw);obtain ⟨s0,s1⟩:=hSw;go_simp;try with_reducible rfl
  simp only[Act.put,List.setIfInBounds_toArray,List.set_cons_zero,List.set_cons_succ]
  refine wpAnyH_take (i:=4) (v:= ?v10) rfl (by kernel_rfl) (by kernel_rfl) (by kernel_rfl) (fun _ _ _ h=>h) (Or.inl ⟨by kernel_rfl, ?h10⟩) hHeld ?r10
  case h10=>intro W hSw;(try dsimp only at hSw);obtain ⟨s0,s1⟩:=hSw;go_simp;try with_reducible rfl
  simp only[Act.put,List.setIfInBounds_toArray,List.set_cons_zero,List.set_cons_succ]
  refine wpAnyH_ready (rs:=[3]) (by kernel_rfl) (by simp) ?_
  refine AllReadyH.cons rfl (fun K hK=> ?_) AllReadyH.nil
  go_simp
  go_wp2_with (first|(go_at_call 111;refine cb.mono ?_;rintro e W4 ⟨rfl,vt4,h4,n4⟩;have st4:=SD.out.frm n4.fr HB1.out;have N4:=hid (ND.out.trans n4);have c5:=box_below W4 (.cells #[.int .i64 n1, .int .i64 n2, .int .i64 b1, .int .i64 b2] 158);have H5:=hid (h4.below c5);have N5:=hid (N4.out.trans (Nxt.below _ c5));have st5:=st4.below c5;have K3:Hid (W4.cell? ⟨w1.heap.size,0,none⟩=some (.int .i64 b1)∧W4.cell? ⟨w1.heap.size,1,none⟩=some (.int .i64 b2)):=hid ⟨st4.cell 0 _ rfl,st4.cell 1 _ rfl⟩;have K4:=hid (And.intro (st5.cell 0 _ rfl) (st5.cell 1 _ rfl));have HB5:=hid (n4.notin HB1.out LD);have hnew:=alloc_row W4 [Value.int .i64 n1, .int .i64 n2, .int .i64 b1, .int .i64 b2] 158;have S5:=hid st5;clear h4 n4 st4 c5 st5))
  refine hK.out _ _ (K3.out) (fun hHeld=> ?_)
  clear hK K
  (try simp only[Act.put,List.setIfInBounds_toArray,List.set_cons_zero,List.set_cons_succ])
  refine wpAnyH_ready (rs:=[5]) (by kernel_rfl) (by simp) ?_
  refine AllReadyH.cons rfl (fun K hK=> ?_) AllReadyH.nil
  go_simp
  refine hK.out _ _ (K4.out) (fun hHeld=> ?_)
  clear hK K
  (try simp only[Act.put,List.setIfInBounds_toArray,List.set_cons_zero,List.set_cons_succ])
  refine wpAnyH_ready (rs:=[6]) (by kernel_rfl) (by simp) ?_
  refine AllReadyH.cons rfl (fun K hK=> ?_) AllReadyH.nil
  (have o5:=H5.out.ah;simp only at o5;rw[HV.out] at o5;have p5:=row_below brC (fun _=>rfl) o5;rw[List.length_dropLast] at p5;have hsX:=H5.out.hs;have one:∀u∈[Value.int .i64 n1, .int .i64 n2, .int .i64 b1, .int .i64 b2],u.oneCell'=true:=(fun u hu=>by simp at hu;rcases hu with rfl|rfl|rfl|rfl <;> rfl);refine step_append_at rfl (.tmp 19) (.tmp 23) 54 rfl base 158 i9 _ 2 16 Tryz.underlying54 hi9 hz9 hz8 hz7 rfl (by decide) (.slice (some ⟨g,0,none⟩) (s.ah.length - 1) cap) (s.ah.length - 1) _ rfl p5 W4.heap.size 2 2 [.int .i64 n1, .int .i64 n2, .int .i64 b1, .int .i64 b2] rfl rfl hnew one (by unfold maxLen;omega) (by omega) hsX ?_;intro v9 w9 ho9 hg9 hl9;obtain ⟨a9,c9,rfl⟩:=own_form ho9;have gA:(W4.alloc (.cells #[.int .i64 n1, .int .i64 n2, .int .i64 b1, .int .i64 b2] 158)).grownBy w9 V.a.ownBlock:=(by rw[HV.out];exact hg9);have so9:=stands_kept (Kept.own H5.out.ah gA) (by decide) H5.out.st;have u2:=so9.cell 2 _ rfl;have uf2:=so9.free 2;have hne:some w1.heap.size≠V.a.ownBlock:=(fun e=>HB1.out (Or.inr (Or.inr (Or.inl e.symm))));have st9:=S5.out.grown gA hne;have K5:=hid (And.intro (st9.cell 0 _ rfl) (st9.cell 1 _ rfl));have st9b:=st9.other 2 (.slice a9 (s.ah.length - 1+2) c9) (fun e=>HB1.out (Or.inl e));have K6:=hid (And.intro (st9b.cell 0 _ rfl) (st9b.cell 1 _ rfl));have oA:OwB2 base w9 (.slice a9 (s.ah.length - 1+2) c9) (s.ah.dropLast++[(n1,n2),(b1,b2)]):=(by unfold OwB2;rw[List.length_append,List.length_dropLast,List.flatMap_append];exact ho9);have RG:=hid (H5.out.growA (v0:= .slice (some ⟨g,0,none⟩) (s.ah.length - 1) cap) (by simp only;rw[HV.out];rfl) hg9 oA hl9);clear ho9 so9 st9 st9b oA gA o5 p5)
  refine hK.out _ _ (K5.out) (fun hHeld=> ?_)
  clear hK K
  (try simp only[Act.put,List.setIfInBounds_toArray,List.set_cons_zero,List.set_cons_succ])
  refine wpAnyH_take (i:=7) (v:= ?v11) rfl (by kernel_rfl) (by kernel_rfl) (by kernel_rfl) (fun _ _ _ h=>h) (Or.inl ⟨by kernel_rfl, ?h11⟩) hHeld ?r11
  case h11=>intro W hSw;(try dsimp only at hSw);obtain ⟨s0,s1⟩:=hSw;go_simp;try with_reducible rfl
  simp only[Act.put,List.setIfInBounds_toArray,List.set_cons_zero,List.set_cons_succ]
  refine wpAnyH_take (i:=8) (v:= ?v12) rfl (by kernel_rfl) (by kernel_rfl) (by kernel_rfl) (fun _ _ _ h=>h) (Or.inl ⟨by kernel_rfl, ?h12⟩) hHeld ?r12
  case h12=>intro W hSw;(try dsimp only at hSw);obtain ⟨s0,s1⟩:=hSw;go_simp;try with_reducible rfl
  simp only[Act.put,List.setIfInBounds_toArray,List.set_cons_zero,List.set_cons_succ]
  refine wpAnyH_ready (rs:=[9]) (by kernel_rfl) (by simp) ?_
  refine AllReadyH.cons rfl (fun K hK=> ?_) AllReadyH.nil
  go_simp
  refine hK.out _ _ (K6.out) (fun hHeld=> ?_)
  clear hK K
  (try simp only[Act.put,List.setIfInBounds_toArray,List.set_cons_zero,List.set_cons_succ])
  refine wpAnyH_done (by kernel_rfl) ?_ _
  (try simp only[Exit.then])
  go_wp2_with fail
  go_ret
  exact ⟨rfl,_,by first|exact RG.out.1|(rw[HBR.out];exact RG.out.1),N5.out.trans RG.out.2⟩
end Go.Proofs.YtkkehbdahniiaaaGreatDoor
