import Derived.Deep.RegionHeld
import Derived.Deep.RegionHeld2
import Derived.Deep.DeepCutAuto
import Derived.Test.YtbamcchghecpeaaGreatDoorB11
set_option linter.unusedVariables false
set_option linter.unusedSimpArgs false
set_option maxRecDepth 100000
namespace Go.Proofs.YtbamcchghecpeaaGreatDoor
open Go.ChangeShapes Go.WideShapes Go.ChangeAt Go.RowKit
theorem new_let (w:World):Calls Tryz.prog 18 #[] w fun e w'=>∃U,e= .returned (.agg U)∧∃v,Mv.cs v newM ⟨#[]⟩=U∧OwM w.heap.size w' v newM ⟨#[]⟩∧Below w.heap.size w w':=
 (w_r9new w).mono (by rintro e w' ⟨v,rfl,h1,h2⟩;exact ⟨_,rfl,v,rfl,h1,h2⟩)
theorem mach_let {P:Program} {f:FuncId} {args:Array Value} {w:World} {m:Mc} {k:Int} {b:Nat} (h:Calls P f args w fun e w'=>∃v1 o1,e= .returned (.tuple #[.agg (Mv.cs v1 m o1), .int .i64 k])∧OwM b w' v1 m o1∧Below b w w'):
  Calls P f args w fun e w'=>∃R,e= .returned (.tuple #[.agg R, .int .i64 k])∧∃v1 o1,Mv.cs v1 m o1=R∧OwM b w' v1 m o1∧Below b w w':=
 h.mono (by rintro e w' ⟨v,o,rfl,h1,h2⟩;exact ⟨_,rfl,v,o,rfl,h1,h2⟩)
theorem step_load_row {P:Program} {ops:Array Oper} {o:Oper} {a:Act} {w:World} {K:Act→World→Prop} {Q:Exit→Act→World→Prop} {E:Prop} (hgd:o.guard=none) (ty:TypeId) (x:Operand) (ho:o.op= .load ty x)
  (g:Nat) (hx:a.eval x= .pointer (some ⟨g,0,none⟩)) (t:TypeId) (cs:Array Value) (fr:Nat×Nat) (d:TypeDesc) (hg:w.heap[g]? =some (.cells cs t fr))
  (hu:P.underlying ty=some d) (hd:(match d with| .struct _| .array _ _=>true|_=>false)=true) (hi:(P.info? ty).map (·.size)=some cs.size) (h:K (a.put o.dst (.agg cs)) w):
  if Region.wanted o (yielded ops a.tmps)=true then Oper.wp P o a w K Q else E:=by
 rw[if_pos (by simp[Region.wanted,hgd])]
 exact wp_load_row ty x ho g hx t cs fr d hg hu hd hi h
theorem step_store_row {P:Program} {ops:Array Oper} {o:Oper} {a:Act} {w:World} {K:Act→World→Prop} {Q:Exit→Act→World→Prop} {E:Prop} (hgd:o.guard=none) (ty:TypeId) (x y:Operand) (ho:o.op= .store ty x y)
  (g:Nat) (cells:Array Value) (hx:a.eval x= .pointer (some ⟨g,0,none⟩)) (hy:a.eval y= .agg cells)
  (t:TypeId) (old:Array Value) (hg:w.heap[g]? =some (.cells old t (0,0))) (hi:(P.info? ty).map (·.size)=some cells.size)
  (hold:old.size=cells.size) (h1:cells.all (·.oneCell')=true) (h:K (a.put o.dst undef) (w.setRow g cells)):
  if Region.wanted o (yielded ops a.tmps)=true then Oper.wp P o a w K Q else E:=by
 rw[if_pos (by simp[Region.wanted,hgd])]
 exact wp_store_row ty x y ho g cells hx hy t old hg hi hold h1 h
set_option maxHeartbeats 40000000 in
theorem w_lawChooses (vl:Value) (l:List Int) (x0 x1 y:Int) (w:World) (hT:Stk.Tab w) (h:Rd .u32 w vl l) (hl:cells l) (a0:0≤x0) (a1:x0 < 4294967296) (b0:0≤x1) (b1:x1 < 4294967296) (c0:0≤y) (c1:y < 4294967296):
  Calls Tryz.prog 7 #[vl, .agg #[.int .u32 x0, .int .u32 x1], .int .u32 y] w fun e w'=>e= .returned (.bool true)∧Below w.heap.size w w':=by
 have s0:=stands_new w #[.int .u32 x0, .int .u32 x1] 52
 have bw:=box_below w (.cells #[.int .u32 x0, .int .u32 x1] 52)
 obtain ⟨e1,f1⟩:=colon_any new_frm new_wds (by omega) (chA x0 x1) (by simp[sndF,okO,chA])
 obtain ⟨m1,hm1⟩:∃m1:Mc,m1={newM with words:=newM.words++[([], -1,2,0,chA x0 x1)]}:=⟨_,rfl⟩
 rw[←hm1] at e1 f1
 have gA:∀z∈chA x0 x1,gO z:=by
  intro z hz
  simp[chA] at hz
  rcases hz with rfl|rfl|rfl|rfl <;> exact ⟨rfl,by simp only;omega,by simp only;omega⟩
 have cN:=fun w=>new_let w
 have cL:=fun n w=>w_lit11 n w
 have cK:=fun v o W (h:RdM W v newM o) vc (hc:RdO W vc (chA x0 x1))=>w_colon11 newM v o (chA x0 x1) vc W h new_gM.gd new_gM.sz hc (fun z hz=>(gA z hz).2) (by simp[chA]) m1 111 e1
 obtain ⟨e2,f2⟩:=colon_any (m:=m1) f1 (n:=112) (by rw[hm1];simp[new_wds]) (by omega) (chB x0 y) (by simp[sndF,okO,chB])
 obtain ⟨m2,hm2⟩:∃m2:Mc,m2={m1 with words:=m1.words++[([], -1,2,0,chB x0 y)]}:=⟨_,rfl⟩
 rw[←hm2] at e2 f2
 have gB:∀z∈chB x0 y,gO z:=by
  intro z hz
  simp[chB] at hz
  rcases hz with rfl|rfl|rfl|rfl|rfl <;> exact ⟨rfl,by simp only;omega,by simp only;omega⟩
 have gm1:gM m1:=by
  have:=dfn_gM (m:=newM) new_gM (col_gW (chA x0 x1) gA (by simp[chA]))
  rw[e1] at this
  exact this
 have gm2:gM m2:=by
  have:=dfn_gM (m:=m1) gm1 (col_gW (chB x0 y) gB (by simp[chB]))
  rw[e2] at this
  exact this
 have cK2:=fun v o W (h:RdM W v m1 o) vc (hc:RdO W vc (chB x0 y))=>w_colon11 m1 v o (chB x0 y) vc W h gm1.gd gm1.sz hc (fun z hz=>(gB z hz).2) (by simp[chB]) m2 112 e2
 have AC2:Hid (Acc m2.words []):=hid (by
  have:=acc_new [chA x0 x1,chB x0 y] (fun l hl=>by
   simp only[List.mem_cons,List.not_mem_nil,or_false] at hl
   rcases hl with rfl|rfl
   ·exact opA_of (by simp[chA])
   ·exact opA_of (by simp[chB]))
  rw[hm2,hm1]
  simpa using this)
 have HE1:=hid e1
 have HE2:=hid e2
 have GM2:=hid gm2
 have CK:=hid cK
 have CK2:=hid cK2
 clear cK cK2
 go_enter Tryz.func7,Tryz.ntmps7
 go_upto_region 1 with fail
 generalize w.alloc (.cells #[.int .u32 x0, .int .u32 x1] 52)=W0 at s0 bw ⊢
 have cA:=w_alive11 W0 (hT.below bw)
 go_upto_region 3 with (go_at_call 9;refine cA.mono ?_;rintro e w1 ⟨rfl,b11⟩)
 have S1:=hid (s0.below b11)
 have BW:=hid (below_trans bw b11)
 clear s0 bw b11 cA
 go_cut [7,8] (fun P X wx=>∃(Bk:Nat) (v6:Mv) (o6:ByteArray),P= .pointer (some ⟨Bk,0,none⟩)∧X= .int .i64 111∧w1.heap.size≤Bk∧Stands wx Bk (Mv.cs v6 m1 o6) 30∧OwM w1.heap.size wx v6 m1 o6∧Below w1.heap.size w1 wx)
 case first=>
  have ZK:Hid (∀W,Below w1.heap.size w1 W→W.cell? ⟨w.heap.size,0,none⟩=some (.int .u32 x0)∧W.cell? ⟨w.heap.size,1,none⟩=some (.int .u32 x1)):=hid (fun W b=>⟨(S1.out.below b).cell 0 _ rfl,(S1.out.below b).cell 1 _ rfl⟩)
  have B0:Hid (Below w1.heap.size w1 w1.drew):=hid (below_drewN (Below.refl w1.heap.size w1) 1)
  refine wp_region_held_drew (S:=fun W=>W.cell? ⟨w.heap.size,0,none⟩=some (.int .u32 x0)∧W.cell? ⟨w.heap.size,1,none⟩=some (.int .u32 x1)) (by kernel_rfl) (ZK.out _ B0.out) (fun hHeld=> ?_)
  generalize w1.drew=wd at B0 hHeld ⊢
  refine wpAnyH_take (i:=1) (v:= ?v1) rfl (by kernel_rfl) (by kernel_rfl) (by kernel_rfl) (fun _ _ _ h=>h) (Or.inl ⟨by kernel_rfl, ?h1⟩) hHeld ?r1
  case h1=>intro W hSw;(try dsimp only at hSw);obtain ⟨s0,s1⟩:=hSw;go_simp;try with_reducible rfl
  simp only[Act.put,List.setIfInBounds_toArray,List.set_cons_zero,List.set_cons_succ]
  refine wpAnyH_take (i:=2) (v:= ?v2) rfl (by kernel_rfl) (by kernel_rfl) (by kernel_rfl) (fun _ _ _ h=>h) (Or.inl ⟨by kernel_rfl, ?h2⟩) hHeld ?r2
  case h2=>intro W hSw;(try dsimp only at hSw);obtain ⟨s0,s1⟩:=hSw;go_simp;try with_reducible rfl
  simp only[Act.put,List.setIfInBounds_toArray,List.set_cons_zero,List.set_cons_succ]
  refine wpAnyH_take (i:=3) (v:= ?v3) rfl (by kernel_rfl) (by kernel_rfl) (by kernel_rfl) (fun _ _ _ h=>h) (Or.inl ⟨by kernel_rfl, ?h3⟩) hHeld ?r3
  case h3=>intro W hSw;(try dsimp only at hSw);obtain ⟨s0,s1⟩:=hSw;go_simp;try with_reducible rfl
  simp only[Act.put,List.setIfInBounds_toArray,List.set_cons_zero,List.set_cons_succ]
  refine wpAnyH_take (i:=5) (v:= ?v4) rfl (by kernel_rfl) (by kernel_rfl) (by kernel_rfl) (fun _ _ _ h=>h) (Or.inl ⟨by kernel_rfl, ?h4⟩) hHeld ?r4
  case h4=>intro W hSw;(try dsimp only at hSw);obtain ⟨s0,s1⟩:=hSw;go_simp;try with_reducible rfl
  simp only[Act.put,List.setIfInBounds_toArray,List.set_cons_zero,List.set_cons_succ]
  refine wpAnyH_take (i:=6) (v:= ?v5) rfl (by kernel_rfl) (by kernel_rfl) (by kernel_rfl) (fun _ _ _ h=>h) (Or.inl ⟨by kernel_rfl, ?h5⟩) hHeld ?r5
  case h5=>intro W hSw;(try dsimp only at hSw);obtain ⟨s0,s1⟩:=hSw;go_simp;try with_reducible rfl
  simp only[Act.put,List.setIfInBounds_toArray,List.set_cons_zero,List.set_cons_succ]
  refine wpAnyH_take (i:=7) (v:= ?v6) rfl (by kernel_rfl) (by kernel_rfl) (by kernel_rfl) (fun _ _ _ h=>h) (Or.inl ⟨by kernel_rfl, ?h6⟩) hHeld ?r6
  case h6=>intro W hSw;(try dsimp only at hSw);obtain ⟨s0,s1⟩:=hSw;go_simp;try with_reducible rfl
  simp only[Act.put,List.setIfInBounds_toArray,List.set_cons_zero,List.set_cons_succ]
  refine wpAnyH_ready (rs:=[0,14]) (by kernel_rfl) (by simp) ?_
  refine AllReadyH.cons rfl (fun K hK=> ?_) (AllReadyH.cons rfl (fun K hK=> ?_) AllReadyH.nil)
  ·go_simp
   go_wp2_with (go_at_call 18;refine (cN _).mono ?_;rintro e q0 ⟨U,rfl,v1,hU,ow1,b1x⟩)
   have H1:=hid (And.intro hU ow1)
   have B0:=hid (B0.out.trans (b1x.mono B0.out.size))
   have BN:=hid (Below.refl q0.heap.size q0)
   clear hU ow1
   clear b1x
   refine hK.out _ _ (ZK.out _ B0.out) (fun hHeld=> ?_)
   clear hK K
   (try simp only[Act.put,List.setIfInBounds_toArray,List.set_cons_zero,List.set_cons_succ])
   refine wpAnyH_ready (rs:=[4,14]) (by kernel_rfl) (by simp) ?_
   refine AllReadyH.cons rfl (fun K hK=> ?_) (AllReadyH.cons rfl (fun K hK=> ?_) AllReadyH.nil)
   ·go_simp
    go_wp2_with (go_at_call 19;refine (cL x0 _).mono ?_;rintro e q1 ⟨rfl,b1x⟩)
    have B1:=hid (B0.out.trans (b1x.mono B0.out.size))
    have BN:=hid (below_trans BN.out b1x)
    clear b1x
    refine hK.out _ _ (ZK.out _ B1.out) (fun hHeld=> ?_)
    clear hK K
    (try simp only[Act.put,List.setIfInBounds_toArray,List.set_cons_zero,List.set_cons_succ])
    refine wpAnyH_ready (rs:=[8,14]) (by kernel_rfl) (by simp) ?_
    refine AllReadyH.cons rfl (fun K hK=> ?_) (AllReadyH.cons rfl (fun K hK=> ?_) AllReadyH.nil)
    ·go_simp
     go_wp2_with (go_at_call 19;refine (cL x1 _).mono ?_;rintro e q2 ⟨rfl,b1x⟩)
     have B2:=hid (B1.out.trans (b1x.mono B1.out.size))
     have BN:=hid (below_trans BN.out b1x)
     clear b1x
     refine hK.out _ _ (ZK.out _ B2.out) (fun hHeld=> ?_)
     clear hK K
     (try simp only[Act.put,List.setIfInBounds_toArray,List.set_cons_zero,List.set_cons_succ])
     refine wpAnyH_ready (rs:=[9,14]) (by kernel_rfl) (by simp) ?_
     refine AllReadyH.cons rfl (fun K hK=> ?_) (AllReadyH.cons rfl (fun K hK=> ?_) AllReadyH.nil)
     ·go_simp
      have rl:RdO (q2.alloc (.cells #[.int .i64 4, .int .u32 3, .int .i64 1, .int .u32 x0, .int .i64 3, .int .u32 4, .int .i64 1, .int .u32 x1] 47)) (.slice (some ⟨q2.heap.size,0,none⟩) 4 4) (chA x0 x1):=op_lit q2 (chA x0 x1) 47 (by simp[chA]) (by simp[chA,maxLen])
      have b1x:Below q2.heap.size q2 (q2.alloc (.cells #[.int .i64 4, .int .u32 3, .int .i64 1, .int .u32 x0, .int .i64 3, .int .u32 4, .int .i64 1, .int .u32 x1] 47)):=box_below q2 _
      generalize q2.alloc (.cells #[.int .i64 4, .int .u32 3, .int .i64 1, .int .u32 x0, .int .i64 3, .int .u32 4, .int .i64 1, .int .u32 x1] 47)=q3 at rl b1x ⊢
      have B3:=hid (B2.out.trans (b1x.mono B2.out.size))
      have BN:=hid (below_trans BN.out b1x)
      have RL:=hid rl
      clear rl
      clear b1x
      refine hK.out _ _ (ZK.out _ B3.out) (fun hHeld=> ?_)
      clear hK K
      (try simp only[Act.put,List.setIfInBounds_toArray,List.set_cons_zero,List.set_cons_succ])
      refine wpAnyH_ready (rs:=[10,14]) (by kernel_rfl) (by simp) ?_
      refine AllReadyH.cons rfl (fun K hK=> ?_) (AllReadyH.cons rfl (fun K hK=> ?_) AllReadyH.nil)
      ·have c5:=CK.out v1 ⟨#[]⟩ q3 (H1.out.2.read.below BN.out) _ RL.out
       rw[H1.out.1] at c5
       go_simp
       go_wp2_with (go_at_call 17;refine (mach_let c5).mono ?_;rintro e q4 ⟨R,rfl,v6,o6,hR,ow6,b1x⟩)
       have one:=rdm_one ow6.read
       rw[hR] at one
       have hRs:R.size=10:=by rw[←hR];rfl
       have HR:=hid (And.intro hR (And.intro (OwM.le B3.out.size ow6) (And.intro b1x (And.intro hRs one))))
       clear hR hRs one ow6 c5
       have B4:=hid (B3.out.trans (b1x.mono B3.out.size))
       clear b1x
       refine hK.out _ _ (ZK.out _ B4.out) (fun hHeld=> ?_)
       clear hK K
       (try simp only[Act.put,List.setIfInBounds_toArray,List.set_cons_zero,List.set_cons_succ])
       refine wpAnyH_take (i:=11) (v:= ?v7) rfl (by kernel_rfl) (by kernel_rfl) (by kernel_rfl) (fun _ _ _ h=>h) (Or.inl ⟨by kernel_rfl, ?h7⟩) hHeld ?r7
       case h7=>intro W hSw;(try dsimp only at hSw);obtain ⟨s0,s1⟩:=hSw;go_simp;try with_reducible rfl
       simp only[Act.put,List.setIfInBounds_toArray,List.set_cons_zero,List.set_cons_succ]
       refine wpAnyH_take (i:=12) (v:= ?v8) rfl (by kernel_rfl) (by kernel_rfl) (by kernel_rfl) (fun _ _ _ h=>h) (Or.inl ⟨by kernel_rfl, ?h8⟩) hHeld ?r8
       case h8=>intro W hSw;(try dsimp only at hSw);obtain ⟨s0,s1⟩:=hSw;go_simp;try with_reducible rfl
       simp only[Act.put,List.setIfInBounds_toArray,List.set_cons_zero,List.set_cons_succ]
       refine wpAnyH_take (i:=13) (v:= ?v9) rfl (by kernel_rfl) (by kernel_rfl) (by kernel_rfl) (fun _ _ _ h=>h) (Or.inl ⟨by kernel_rfl, ?h9⟩) hHeld ?r9
       case h9=>intro W hSw;(try dsimp only at hSw);obtain ⟨s0,s1⟩:=hSw;go_simp;try with_reducible rfl
       simp only[Act.put,List.setIfInBounds_toArray,List.set_cons_zero,List.set_cons_succ]
       refine wpAnyH_ready (rs:=[14]) (by kernel_rfl) (by simp) ?_
       refine AllReadyH.cons rfl (fun K hK=> ?_) AllReadyH.nil
       go_simp
       refine hK.out _ _ (ZK.out _ (B4.out.alloc B4.out.size _)) (fun hHeld=> ?_)
       clear hK K
       have ST:Stands _ q4.heap.size _ 30:=stands_new q4 #[.slice none 0 0, .slice none 0 0, .slice none 0 0, .slice none 0 0, .int .u32 0, .slice none 0 0, .int .i64 0, .slice none 0 0, .int .i64 0, .string ⟨#[]⟩] 30
       have bA:Below q4.heap.size q4 _:=box_below q4 (.cells #[.slice none 0 0, .slice none 0 0, .slice none 0 0, .slice none 0 0, .int .u32 0, .slice none 0 0, .int .i64 0, .slice none 0 0, .int .i64 0, .string ⟨#[]⟩] 30)
       have AL:=hid (show w1.heap.size≤q4.heap.size from B4.out.size)
       generalize q4.alloc (.cells #[.slice none 0 0, .slice none 0 0, .slice none 0 0, .slice none 0 0, .int .u32 0, .slice none 0 0, .int .i64 0, .slice none 0 0, .int .i64 0, .string ⟨#[]⟩] 30)=qA5 at ST bA hHeld ⊢
       have BA5:=hid (B4.out.trans (bA.mono B4.out.size))
       have ST:=hid ST
       have HR:=hid (And.intro HR.out.1 (And.intro (HR.out.2.1.below bA) (And.intro HR.out.2.2.1 HR.out.2.2.2)))
       clear bA
       (try simp only[Act.put,List.setIfInBounds_toArray,List.set_cons_zero,List.set_cons_succ])
       refine wpAnyH_ready (rs:=[15]) (by kernel_rfl) (by simp) ?_
       refine AllReadyH.cons rfl (fun K hK=> ?_) AllReadyH.nil
       refine step_store_row rfl 30 (.tmp 7) (.tmp 32) rfl q4.heap.size R rfl rfl 30 _ ST.out (by rw[HR.out.2.2.2.1];exact infoMz) (by rw[HR.out.2.2.2.1];rfl) HR.out.2.2.2.2 ?_
       have sF:Stands _ q4.heap.size R 30:=setRow_heap _ q4.heap.size _ R 30 (0,0) ST.out
       have bF:Below w1.heap.size w1 _:=below_setRow BA5.out AL.out R
       have kF:Kept 30 qA5 (qA5.setRow q4.heap.size R):=Kept.stands ST.out (gb_row _ _ _)
       have oF:=HR.out.2.1.kept kF (by decide) (by decide) (by decide) (by decide) (by decide) (by decide) (by decide) (by decide)
       generalize qA5.setRow q4.heap.size R=wF at sF bF oF ⊢
       refine hK.out _ _ (ZK.out _ bF) (fun hHeld=> ?_)
       clear hK K
       (try simp only[Act.put,List.setIfInBounds_toArray,List.set_cons_zero,List.set_cons_succ])
       refine wpAnyH_ready (rs:=[16]) (by kernel_rfl) (by simp) ?_
       refine AllReadyH.cons rfl (fun K hK=> ?_) AllReadyH.nil
       go_simp
       refine hK.out _ _ (ZK.out _ bF) (fun hHeld=> ?_)
       clear hK K
       (try simp only[Act.put,List.setIfInBounds_toArray,List.set_cons_zero,List.set_cons_succ])
       refine wpAnyH_done (by kernel_rfl) ?_ _
       have FF:=hid (And.intro sF (And.intro oF bF))
       clear sF oF bF
       go_wp2_with fail
       go_meet
       case rel=>exact ⟨_,v6,o6,rfl,rfl,AL.out,by rw[HR.out.1];exact FF.out.1,FF.out.2.1,FF.out.2.2⟩
      ·go_simp
       refine hK.out _ _ (ZK.out _ (B3.out.alloc B3.out.size _)) (fun hHeld=> ?_)
       clear hK K
       have ST:Stands _ q3.heap.size _ 30:=stands_new q3 #[.slice none 0 0, .slice none 0 0, .slice none 0 0, .slice none 0 0, .int .u32 0, .slice none 0 0, .int .i64 0, .slice none 0 0, .int .i64 0, .string ⟨#[]⟩] 30
       have bA:Below q3.heap.size q3 _:=box_below q3 (.cells #[.slice none 0 0, .slice none 0 0, .slice none 0 0, .slice none 0 0, .int .u32 0, .slice none 0 0, .int .i64 0, .slice none 0 0, .int .i64 0, .string ⟨#[]⟩] 30)
       have AL:=hid (show w1.heap.size≤q3.heap.size from B3.out.size)
       generalize q3.alloc (.cells #[.slice none 0 0, .slice none 0 0, .slice none 0 0, .slice none 0 0, .int .u32 0, .slice none 0 0, .int .i64 0, .slice none 0 0, .int .i64 0, .string ⟨#[]⟩] 30)=qA4 at ST bA hHeld ⊢
       have BA4:=hid (B3.out.trans (bA.mono B3.out.size))
       have ST:=hid ST
       have BN:=hid (below_trans BN.out bA)
       have RL:=hid (RdO.below RL.out bA)
       clear bA
       (try simp only[Act.put,List.setIfInBounds_toArray,List.set_cons_zero,List.set_cons_succ])
       refine wpAnyH_ready (rs:=[10]) (by kernel_rfl) (by simp) ?_
       refine AllReadyH.cons rfl (fun K hK=> ?_) AllReadyH.nil
       have c5:=CK.out v1 ⟨#[]⟩ qA4 (H1.out.2.read.below BN.out) _ RL.out
       rw[H1.out.1] at c5
       go_simp
       go_wp2_with (go_at_call 17;refine (mach_let c5).mono ?_;rintro e qa4 ⟨R,rfl,v6,o6,hR,ow6,b1x⟩)
       have one:=rdm_one ow6.read
       rw[hR] at one
       have hRs:R.size=10:=by rw[←hR];rfl
       have HR:=hid (And.intro hR (And.intro (OwM.le BA4.out.size ow6) (And.intro b1x (And.intro hRs one))))
       clear hR hRs one ow6 c5
       have Ba4:=hid (BA4.out.trans (b1x.mono BA4.out.size))
       have ST:=hid (ST.out.below b1x)
       clear b1x
       refine hK.out _ _ (ZK.out _ Ba4.out) (fun hHeld=> ?_)
       clear hK K
       (try simp only[Act.put,List.setIfInBounds_toArray,List.set_cons_zero,List.set_cons_succ])
       refine wpAnyH_take (i:=11) (v:= ?v10) rfl (by kernel_rfl) (by kernel_rfl) (by kernel_rfl) (fun _ _ _ h=>h) (Or.inl ⟨by kernel_rfl, ?h10⟩) hHeld ?r10
       case h10=>intro W hSw;(try dsimp only at hSw);obtain ⟨s0,s1⟩:=hSw;go_simp;try with_reducible rfl
       simp only[Act.put,List.setIfInBounds_toArray,List.set_cons_zero,List.set_cons_succ]
       refine wpAnyH_take (i:=12) (v:= ?v11) rfl (by kernel_rfl) (by kernel_rfl) (by kernel_rfl) (fun _ _ _ h=>h) (Or.inl ⟨by kernel_rfl, ?h11⟩) hHeld ?r11
       case h11=>intro W hSw;(try dsimp only at hSw);obtain ⟨s0,s1⟩:=hSw;go_simp;try with_reducible rfl
       simp only[Act.put,List.setIfInBounds_toArray,List.set_cons_zero,List.set_cons_succ]
       refine wpAnyH_take (i:=13) (v:= ?v12) rfl (by kernel_rfl) (by kernel_rfl) (by kernel_rfl) (fun _ _ _ h=>h) (Or.inl ⟨by kernel_rfl, ?h12⟩) hHeld ?r12
       case h12=>intro W hSw;(try dsimp only at hSw);obtain ⟨s0,s1⟩:=hSw;go_simp;try with_reducible rfl
       simp only[Act.put,List.setIfInBounds_toArray,List.set_cons_zero,List.set_cons_succ]
       refine wpAnyH_ready (rs:=[15]) (by kernel_rfl) (by simp) ?_
       refine AllReadyH.cons rfl (fun K hK=> ?_) AllReadyH.nil
       refine step_store_row rfl 30 (.tmp 7) (.tmp 32) rfl q3.heap.size R rfl rfl 30 _ ST.out (by rw[HR.out.2.2.2.1];exact infoMz) (by rw[HR.out.2.2.2.1];rfl) HR.out.2.2.2.2 ?_
       have sF:Stands _ q3.heap.size R 30:=setRow_heap _ q3.heap.size _ R 30 (0,0) ST.out
       have bF:Below w1.heap.size w1 _:=below_setRow Ba4.out AL.out R
       have kF:Kept 30 qa4 (qa4.setRow q3.heap.size R):=Kept.stands ST.out (gb_row _ _ _)
       have oF:=HR.out.2.1.kept kF (by decide) (by decide) (by decide) (by decide) (by decide) (by decide) (by decide) (by decide)
       generalize qa4.setRow q3.heap.size R=wF at sF bF oF ⊢
       refine hK.out _ _ (ZK.out _ bF) (fun hHeld=> ?_)
       clear hK K
       (try simp only[Act.put,List.setIfInBounds_toArray,List.set_cons_zero,List.set_cons_succ])
       refine wpAnyH_ready (rs:=[16]) (by kernel_rfl) (by simp) ?_
       refine AllReadyH.cons rfl (fun K hK=> ?_) AllReadyH.nil
       go_simp
       refine hK.out _ _ (ZK.out _ bF) (fun hHeld=> ?_)
       clear hK K
       (try simp only[Act.put,List.setIfInBounds_toArray,List.set_cons_zero,List.set_cons_succ])
       refine wpAnyH_done (by kernel_rfl) ?_ _
       have FF:=hid (And.intro sF (And.intro oF bF))
       clear sF oF bF
       go_wp2_with fail
       go_meet
       case rel=>exact ⟨_,v6,o6,rfl,rfl,AL.out,by rw[HR.out.1];exact FF.out.1,FF.out.2.1,FF.out.2.2⟩
     ·go_simp
      refine hK.out _ _ (ZK.out _ (B2.out.alloc B2.out.size _)) (fun hHeld=> ?_)
      clear hK K
      have ST:Stands _ q2.heap.size _ 30:=stands_new q2 #[.slice none 0 0, .slice none 0 0, .slice none 0 0, .slice none 0 0, .int .u32 0, .slice none 0 0, .int .i64 0, .slice none 0 0, .int .i64 0, .string ⟨#[]⟩] 30
      have bA:Below q2.heap.size q2 _:=box_below q2 (.cells #[.slice none 0 0, .slice none 0 0, .slice none 0 0, .slice none 0 0, .int .u32 0, .slice none 0 0, .int .i64 0, .slice none 0 0, .int .i64 0, .string ⟨#[]⟩] 30)
      have AL:=hid (show w1.heap.size≤q2.heap.size from B2.out.size)
      generalize q2.alloc (.cells #[.slice none 0 0, .slice none 0 0, .slice none 0 0, .slice none 0 0, .int .u32 0, .slice none 0 0, .int .i64 0, .slice none 0 0, .int .i64 0, .string ⟨#[]⟩] 30)=qA3 at ST bA hHeld ⊢
      have BA3:=hid (B2.out.trans (bA.mono B2.out.size))
      have ST:=hid ST
      have BN:=hid (below_trans BN.out bA)
      clear bA
      (try simp only[Act.put,List.setIfInBounds_toArray,List.set_cons_zero,List.set_cons_succ])
      refine wpAnyH_ready (rs:=[9]) (by kernel_rfl) (by simp) ?_
      refine AllReadyH.cons rfl (fun K hK=> ?_) AllReadyH.nil
      go_simp
      have rl:RdO (qA3.alloc (.cells #[.int .i64 4, .int .u32 3, .int .i64 1, .int .u32 x0, .int .i64 3, .int .u32 4, .int .i64 1, .int .u32 x1] 47)) (.slice (some ⟨qA3.heap.size,0,none⟩) 4 4) (chA x0 x1):=op_lit qA3 (chA x0 x1) 47 (by simp[chA]) (by simp[chA,maxLen])
      have b1x:Below qA3.heap.size qA3 (qA3.alloc (.cells #[.int .i64 4, .int .u32 3, .int .i64 1, .int .u32 x0, .int .i64 3, .int .u32 4, .int .i64 1, .int .u32 x1] 47)):=box_below qA3 _
      generalize qA3.alloc (.cells #[.int .i64 4, .int .u32 3, .int .i64 1, .int .u32 x0, .int .i64 3, .int .u32 4, .int .i64 1, .int .u32 x1] 47)=qa3 at rl b1x ⊢
      have Ba3:=hid (BA3.out.trans (b1x.mono BA3.out.size))
      have ST:=hid (ST.out.below b1x)
      have BN:=hid (below_trans BN.out b1x)
      have RL:=hid rl
      clear rl
      clear b1x
      refine hK.out _ _ (ZK.out _ Ba3.out) (fun hHeld=> ?_)
      clear hK K
      (try simp only[Act.put,List.setIfInBounds_toArray,List.set_cons_zero,List.set_cons_succ])
      refine wpAnyH_ready (rs:=[10]) (by kernel_rfl) (by simp) ?_
      refine AllReadyH.cons rfl (fun K hK=> ?_) AllReadyH.nil
      have c5:=CK.out v1 ⟨#[]⟩ qa3 (H1.out.2.read.below BN.out) _ RL.out
      rw[H1.out.1] at c5
      go_simp
      go_wp2_with (go_at_call 17;refine (mach_let c5).mono ?_;rintro e qa4 ⟨R,rfl,v6,o6,hR,ow6,b1x⟩)
      have one:=rdm_one ow6.read
      rw[hR] at one
      have hRs:R.size=10:=by rw[←hR];rfl
      have HR:=hid (And.intro hR (And.intro (OwM.le Ba3.out.size ow6) (And.intro b1x (And.intro hRs one))))
      clear hR hRs one ow6 c5
      have Ba4:=hid (Ba3.out.trans (b1x.mono Ba3.out.size))
      have ST:=hid (ST.out.below b1x)
      clear b1x
      refine hK.out _ _ (ZK.out _ Ba4.out) (fun hHeld=> ?_)
      clear hK K
      (try simp only[Act.put,List.setIfInBounds_toArray,List.set_cons_zero,List.set_cons_succ])
      refine wpAnyH_take (i:=11) (v:= ?v13) rfl (by kernel_rfl) (by kernel_rfl) (by kernel_rfl) (fun _ _ _ h=>h) (Or.inl ⟨by kernel_rfl, ?h13⟩) hHeld ?r13
      case h13=>intro W hSw;(try dsimp only at hSw);obtain ⟨s0,s1⟩:=hSw;go_simp;try with_reducible rfl
      simp only[Act.put,List.setIfInBounds_toArray,List.set_cons_zero,List.set_cons_succ]
      refine wpAnyH_take (i:=12) (v:= ?v14) rfl (by kernel_rfl) (by kernel_rfl) (by kernel_rfl) (fun _ _ _ h=>h) (Or.inl ⟨by kernel_rfl, ?h14⟩) hHeld ?r14
      case h14=>intro W hSw;(try dsimp only at hSw);obtain ⟨s0,s1⟩:=hSw;go_simp;try with_reducible rfl
      simp only[Act.put,List.setIfInBounds_toArray,List.set_cons_zero,List.set_cons_succ]
      refine wpAnyH_take (i:=13) (v:= ?v15) rfl (by kernel_rfl) (by kernel_rfl) (by kernel_rfl) (fun _ _ _ h=>h) (Or.inl ⟨by kernel_rfl, ?h15⟩) hHeld ?r15
      case h15=>intro W hSw;(try dsimp only at hSw);obtain ⟨s0,s1⟩:=hSw;go_simp;try with_reducible rfl
      simp only[Act.put,List.setIfInBounds_toArray,List.set_cons_zero,List.set_cons_succ]
      refine wpAnyH_ready (rs:=[15]) (by kernel_rfl) (by simp) ?_
      refine AllReadyH.cons rfl (fun K hK=> ?_) AllReadyH.nil
      refine step_store_row rfl 30 (.tmp 7) (.tmp 32) rfl q2.heap.size R rfl rfl 30 _ ST.out (by rw[HR.out.2.2.2.1];exact infoMz) (by rw[HR.out.2.2.2.1];rfl) HR.out.2.2.2.2 ?_
      have sF:Stands _ q2.heap.size R 30:=setRow_heap _ q2.heap.size _ R 30 (0,0) ST.out
      have bF:Below w1.heap.size w1 _:=below_setRow Ba4.out AL.out R
      have kF:Kept 30 qa4 (qa4.setRow q2.heap.size R):=Kept.stands ST.out (gb_row _ _ _)
      have oF:=HR.out.2.1.kept kF (by decide) (by decide) (by decide) (by decide) (by decide) (by decide) (by decide) (by decide)
      generalize qa4.setRow q2.heap.size R=wF at sF bF oF ⊢
      refine hK.out _ _ (ZK.out _ bF) (fun hHeld=> ?_)
      clear hK K
      (try simp only[Act.put,List.setIfInBounds_toArray,List.set_cons_zero,List.set_cons_succ])
      refine wpAnyH_ready (rs:=[16]) (by kernel_rfl) (by simp) ?_
      refine AllReadyH.cons rfl (fun K hK=> ?_) AllReadyH.nil
      go_simp
      refine hK.out _ _ (ZK.out _ bF) (fun hHeld=> ?_)
      clear hK K
      (try simp only[Act.put,List.setIfInBounds_toArray,List.set_cons_zero,List.set_cons_succ])
      refine wpAnyH_done (by kernel_rfl) ?_ _
      have FF:=hid (And.intro sF (And.intro oF bF))
      clear sF oF bF
      go_wp2_with fail
      go_meet
      case rel=>exact ⟨_,v6,o6,rfl,rfl,AL.out,by rw[HR.out.1];exact FF.out.1,FF.out.2.1,FF.out.2.2⟩
    ·go_simp
     refine hK.out _ _ (ZK.out _ (B1.out.alloc B1.out.size _)) (fun hHeld=> ?_)
     clear hK K
     have ST:Stands _ q1.heap.size _ 30:=stands_new q1 #[.slice none 0 0, .slice none 0 0, .slice none 0 0, .slice none 0 0, .int .u32 0, .slice none 0 0, .int .i64 0, .slice none 0 0, .int .i64 0, .string ⟨#[]⟩] 30
     have bA:Below q1.heap.size q1 _:=box_below q1 (.cells #[.slice none 0 0, .slice none 0 0, .slice none 0 0, .slice none 0 0, .int .u32 0, .slice none 0 0, .int .i64 0, .slice none 0 0, .int .i64 0, .string ⟨#[]⟩] 30)
     have AL:=hid (show w1.heap.size≤q1.heap.size from B1.out.size)
     generalize q1.alloc (.cells #[.slice none 0 0, .slice none 0 0, .slice none 0 0, .slice none 0 0, .int .u32 0, .slice none 0 0, .int .i64 0, .slice none 0 0, .int .i64 0, .string ⟨#[]⟩] 30)=qA2 at ST bA hHeld ⊢
     have BA2:=hid (B1.out.trans (bA.mono B1.out.size))
     have ST:=hid ST
     have BN:=hid (below_trans BN.out bA)
     clear bA
     (try simp only[Act.put,List.setIfInBounds_toArray,List.set_cons_zero,List.set_cons_succ])
     refine wpAnyH_ready (rs:=[8]) (by kernel_rfl) (by simp) ?_
     refine AllReadyH.cons rfl (fun K hK=> ?_) AllReadyH.nil
     go_simp
     go_wp2_with (go_at_call 19;refine (cL x1 _).mono ?_;rintro e qa2 ⟨rfl,b1x⟩)
     have Ba2:=hid (BA2.out.trans (b1x.mono BA2.out.size))
     have ST:=hid (ST.out.below b1x)
     have BN:=hid (below_trans BN.out b1x)
     clear b1x
     refine hK.out _ _ (ZK.out _ Ba2.out) (fun hHeld=> ?_)
     clear hK K
     (try simp only[Act.put,List.setIfInBounds_toArray,List.set_cons_zero,List.set_cons_succ])
     refine wpAnyH_ready (rs:=[9]) (by kernel_rfl) (by simp) ?_
     refine AllReadyH.cons rfl (fun K hK=> ?_) AllReadyH.nil
     go_simp
     have rl:RdO (qa2.alloc (.cells #[.int .i64 4, .int .u32 3, .int .i64 1, .int .u32 x0, .int .i64 3, .int .u32 4, .int .i64 1, .int .u32 x1] 47)) (.slice (some ⟨qa2.heap.size,0,none⟩) 4 4) (chA x0 x1):=op_lit qa2 (chA x0 x1) 47 (by simp[chA]) (by simp[chA,maxLen])
     have b1x:Below qa2.heap.size qa2 (qa2.alloc (.cells #[.int .i64 4, .int .u32 3, .int .i64 1, .int .u32 x0, .int .i64 3, .int .u32 4, .int .i64 1, .int .u32 x1] 47)):=box_below qa2 _
     generalize qa2.alloc (.cells #[.int .i64 4, .int .u32 3, .int .i64 1, .int .u32 x0, .int .i64 3, .int .u32 4, .int .i64 1, .int .u32 x1] 47)=qa3 at rl b1x ⊢
     have Ba3:=hid (Ba2.out.trans (b1x.mono Ba2.out.size))
     have ST:=hid (ST.out.below b1x)
     have BN:=hid (below_trans BN.out b1x)
     have RL:=hid rl
     clear rl
     clear b1x
     refine hK.out _ _ (ZK.out _ Ba3.out) (fun hHeld=> ?_)
     clear hK K
     (try simp only[Act.put,List.setIfInBounds_toArray,List.set_cons_zero,List.set_cons_succ])
     refine wpAnyH_ready (rs:=[10]) (by kernel_rfl) (by simp) ?_
     refine AllReadyH.cons rfl (fun K hK=> ?_) AllReadyH.nil
     have c5:=CK.out v1 ⟨#[]⟩ qa3 (H1.out.2.read.below BN.out) _ RL.out
     rw[H1.out.1] at c5
     go_simp
     go_wp2_with (go_at_call 17;refine (mach_let c5).mono ?_;rintro e qa4 ⟨R,rfl,v6,o6,hR,ow6,b1x⟩)
     have one:=rdm_one ow6.read
     rw[hR] at one
     have hRs:R.size=10:=by rw[←hR];rfl
     have HR:=hid (And.intro hR (And.intro (OwM.le Ba3.out.size ow6) (And.intro b1x (And.intro hRs one))))
     clear hR hRs one ow6 c5
     have Ba4:=hid (Ba3.out.trans (b1x.mono Ba3.out.size))
     have ST:=hid (ST.out.below b1x)
     clear b1x
     refine hK.out _ _ (ZK.out _ Ba4.out) (fun hHeld=> ?_)
     clear hK K
     (try simp only[Act.put,List.setIfInBounds_toArray,List.set_cons_zero,List.set_cons_succ])
     refine wpAnyH_take (i:=11) (v:= ?v16) rfl (by kernel_rfl) (by kernel_rfl) (by kernel_rfl) (fun _ _ _ h=>h) (Or.inl ⟨by kernel_rfl, ?h16⟩) hHeld ?r16
     case h16=>intro W hSw;(try dsimp only at hSw);obtain ⟨s0,s1⟩:=hSw;go_simp;try with_reducible rfl
     simp only[Act.put,List.setIfInBounds_toArray,List.set_cons_zero,List.set_cons_succ]
     refine wpAnyH_take (i:=12) (v:= ?v17) rfl (by kernel_rfl) (by kernel_rfl) (by kernel_rfl) (fun _ _ _ h=>h) (Or.inl ⟨by kernel_rfl, ?h17⟩) hHeld ?r17
     case h17=>intro W hSw;(try dsimp only at hSw);obtain ⟨s0,s1⟩:=hSw;go_simp;try with_reducible rfl
     simp only[Act.put,List.setIfInBounds_toArray,List.set_cons_zero,List.set_cons_succ]
     refine wpAnyH_take (i:=13) (v:= ?v18) rfl (by kernel_rfl) (by kernel_rfl) (by kernel_rfl) (fun _ _ _ h=>h) (Or.inl ⟨by kernel_rfl, ?h18⟩) hHeld ?r18
     case h18=>intro W hSw;(try dsimp only at hSw);obtain ⟨s0,s1⟩:=hSw;go_simp;try with_reducible rfl
     simp only[Act.put,List.setIfInBounds_toArray,List.set_cons_zero,List.set_cons_succ]
     refine wpAnyH_ready (rs:=[15]) (by kernel_rfl) (by simp) ?_
     refine AllReadyH.cons rfl (fun K hK=> ?_) AllReadyH.nil
     refine step_store_row rfl 30 (.tmp 7) (.tmp 32) rfl q1.heap.size R rfl rfl 30 _ ST.out (by rw[HR.out.2.2.2.1];exact infoMz) (by rw[HR.out.2.2.2.1];rfl) HR.out.2.2.2.2 ?_
     have sF:Stands _ q1.heap.size R 30:=setRow_heap _ q1.heap.size _ R 30 (0,0) ST.out
     have bF:Below w1.heap.size w1 _:=below_setRow Ba4.out AL.out R
     have kF:Kept 30 qa4 (qa4.setRow q1.heap.size R):=Kept.stands ST.out (gb_row _ _ _)
     have oF:=HR.out.2.1.kept kF (by decide) (by decide) (by decide) (by decide) (by decide) (by decide) (by decide) (by decide)
     generalize qa4.setRow q1.heap.size R=wF at sF bF oF ⊢
     refine hK.out _ _ (ZK.out _ bF) (fun hHeld=> ?_)
     clear hK K
     (try simp only[Act.put,List.setIfInBounds_toArray,List.set_cons_zero,List.set_cons_succ])
     refine wpAnyH_ready (rs:=[16]) (by kernel_rfl) (by simp) ?_
     refine AllReadyH.cons rfl (fun K hK=> ?_) AllReadyH.nil
     go_simp
     refine hK.out _ _ (ZK.out _ bF) (fun hHeld=> ?_)
     clear hK K
     (try simp only[Act.put,List.setIfInBounds_toArray,List.set_cons_zero,List.set_cons_succ])
     refine wpAnyH_done (by kernel_rfl) ?_ _
     have FF:=hid (And.intro sF (And.intro oF bF))
     clear sF oF bF
     go_wp2_with fail
     go_meet
     case rel=>exact ⟨_,v6,o6,rfl,rfl,AL.out,by rw[HR.out.1];exact FF.out.1,FF.out.2.1,FF.out.2.2⟩
   ·go_simp
    refine hK.out _ _ (ZK.out _ (B0.out.alloc B0.out.size _)) (fun hHeld=> ?_)
    clear hK K
    have ST:Stands _ q0.heap.size _ 30:=stands_new q0 #[.slice none 0 0, .slice none 0 0, .slice none 0 0, .slice none 0 0, .int .u32 0, .slice none 0 0, .int .i64 0, .slice none 0 0, .int .i64 0, .string ⟨#[]⟩] 30
    have bA:Below q0.heap.size q0 _:=box_below q0 (.cells #[.slice none 0 0, .slice none 0 0, .slice none 0 0, .slice none 0 0, .int .u32 0, .slice none 0 0, .int .i64 0, .slice none 0 0, .int .i64 0, .string ⟨#[]⟩] 30)
    have AL:=hid (show w1.heap.size≤q0.heap.size from B0.out.size)
    generalize q0.alloc (.cells #[.slice none 0 0, .slice none 0 0, .slice none 0 0, .slice none 0 0, .int .u32 0, .slice none 0 0, .int .i64 0, .slice none 0 0, .int .i64 0, .string ⟨#[]⟩] 30)=qA1 at ST bA hHeld ⊢
    have BA1:=hid (B0.out.trans (bA.mono B0.out.size))
    have ST:=hid ST
    have BN:=hid (below_trans BN.out bA)
    clear bA
    (try simp only[Act.put,List.setIfInBounds_toArray,List.set_cons_zero,List.set_cons_succ])
    refine wpAnyH_ready (rs:=[4]) (by kernel_rfl) (by simp) ?_
    refine AllReadyH.cons rfl (fun K hK=> ?_) AllReadyH.nil
    go_simp
    go_wp2_with (go_at_call 19;refine (cL x0 _).mono ?_;rintro e qa1 ⟨rfl,b1x⟩)
    have Ba1:=hid (BA1.out.trans (b1x.mono BA1.out.size))
    have ST:=hid (ST.out.below b1x)
    have BN:=hid (below_trans BN.out b1x)
    clear b1x
    refine hK.out _ _ (ZK.out _ Ba1.out) (fun hHeld=> ?_)
    clear hK K
    (try simp only[Act.put,List.setIfInBounds_toArray,List.set_cons_zero,List.set_cons_succ])
    refine wpAnyH_ready (rs:=[8]) (by kernel_rfl) (by simp) ?_
    refine AllReadyH.cons rfl (fun K hK=> ?_) AllReadyH.nil
    go_simp
    go_wp2_with (go_at_call 19;refine (cL x1 _).mono ?_;rintro e qa2 ⟨rfl,b1x⟩)
    have Ba2:=hid (Ba1.out.trans (b1x.mono Ba1.out.size))
    have ST:=hid (ST.out.below b1x)
    have BN:=hid (below_trans BN.out b1x)
    clear b1x
    refine hK.out _ _ (ZK.out _ Ba2.out) (fun hHeld=> ?_)
    clear hK K
    (try simp only[Act.put,List.setIfInBounds_toArray,List.set_cons_zero,List.set_cons_succ])
    refine wpAnyH_ready (rs:=[9]) (by kernel_rfl) (by simp) ?_
    refine AllReadyH.cons rfl (fun K hK=> ?_) AllReadyH.nil
    go_simp
    have rl:RdO (qa2.alloc (.cells #[.int .i64 4, .int .u32 3, .int .i64 1, .int .u32 x0, .int .i64 3, .int .u32 4, .int .i64 1, .int .u32 x1] 47)) (.slice (some ⟨qa2.heap.size,0,none⟩) 4 4) (chA x0 x1):=op_lit qa2 (chA x0 x1) 47 (by simp[chA]) (by simp[chA,maxLen])
    have b1x:Below qa2.heap.size qa2 (qa2.alloc (.cells #[.int .i64 4, .int .u32 3, .int .i64 1, .int .u32 x0, .int .i64 3, .int .u32 4, .int .i64 1, .int .u32 x1] 47)):=box_below qa2 _
    generalize qa2.alloc (.cells #[.int .i64 4, .int .u32 3, .int .i64 1, .int .u32 x0, .int .i64 3, .int .u32 4, .int .i64 1, .int .u32 x1] 47)=qa3 at rl b1x ⊢
    have Ba3:=hid (Ba2.out.trans (b1x.mono Ba2.out.size))
    have ST:=hid (ST.out.below b1x)
    have BN:=hid (below_trans BN.out b1x)
    have RL:=hid rl
    clear rl
    clear b1x
    refine hK.out _ _ (ZK.out _ Ba3.out) (fun hHeld=> ?_)
    clear hK K
    (try simp only[Act.put,List.setIfInBounds_toArray,List.set_cons_zero,List.set_cons_succ])
    refine wpAnyH_ready (rs:=[10]) (by kernel_rfl) (by simp) ?_
    refine AllReadyH.cons rfl (fun K hK=> ?_) AllReadyH.nil
    have c5:=CK.out v1 ⟨#[]⟩ qa3 (H1.out.2.read.below BN.out) _ RL.out
    rw[H1.out.1] at c5
    go_simp
    go_wp2_with (go_at_call 17;refine (mach_let c5).mono ?_;rintro e qa4 ⟨R,rfl,v6,o6,hR,ow6,b1x⟩)
    have one:=rdm_one ow6.read
    rw[hR] at one
    have hRs:R.size=10:=by rw[←hR];rfl
    have HR:=hid (And.intro hR (And.intro (OwM.le Ba3.out.size ow6) (And.intro b1x (And.intro hRs one))))
    clear hR hRs one ow6 c5
    have Ba4:=hid (Ba3.out.trans (b1x.mono Ba3.out.size))
    have ST:=hid (ST.out.below b1x)
    clear b1x
    refine hK.out _ _ (ZK.out _ Ba4.out) (fun hHeld=> ?_)
    clear hK K
    (try simp only[Act.put,List.setIfInBounds_toArray,List.set_cons_zero,List.set_cons_succ])
    refine wpAnyH_take (i:=11) (v:= ?v19) rfl (by kernel_rfl) (by kernel_rfl) (by kernel_rfl) (fun _ _ _ h=>h) (Or.inl ⟨by kernel_rfl, ?h19⟩) hHeld ?r19
    case h19=>intro W hSw;(try dsimp only at hSw);obtain ⟨s0,s1⟩:=hSw;go_simp;try with_reducible rfl
    simp only[Act.put,List.setIfInBounds_toArray,List.set_cons_zero,List.set_cons_succ]
    refine wpAnyH_take (i:=12) (v:= ?v20) rfl (by kernel_rfl) (by kernel_rfl) (by kernel_rfl) (fun _ _ _ h=>h) (Or.inl ⟨by kernel_rfl, ?h20⟩) hHeld ?r20
    case h20=>intro W hSw;(try dsimp only at hSw);obtain ⟨s0,s1⟩:=hSw;go_simp;try with_reducible rfl
    simp only[Act.put,List.setIfInBounds_toArray,List.set_cons_zero,List.set_cons_succ]
    refine wpAnyH_take (i:=13) (v:= ?v21) rfl (by kernel_rfl) (by kernel_rfl) (by kernel_rfl) (fun _ _ _ h=>h) (Or.inl ⟨by kernel_rfl, ?h21⟩) hHeld ?r21
    case h21=>intro W hSw;(try dsimp only at hSw);obtain ⟨s0,s1⟩:=hSw;go_simp;try with_reducible rfl
    simp only[Act.put,List.setIfInBounds_toArray,List.set_cons_zero,List.set_cons_succ]
    refine wpAnyH_ready (rs:=[15]) (by kernel_rfl) (by simp) ?_
    refine AllReadyH.cons rfl (fun K hK=> ?_) AllReadyH.nil
    refine step_store_row rfl 30 (.tmp 7) (.tmp 32) rfl q0.heap.size R rfl rfl 30 _ ST.out (by rw[HR.out.2.2.2.1];exact infoMz) (by rw[HR.out.2.2.2.1];rfl) HR.out.2.2.2.2 ?_
    have sF:Stands _ q0.heap.size R 30:=setRow_heap _ q0.heap.size _ R 30 (0,0) ST.out
    have bF:Below w1.heap.size w1 _:=below_setRow Ba4.out AL.out R
    have kF:Kept 30 qa4 (qa4.setRow q0.heap.size R):=Kept.stands ST.out (gb_row _ _ _)
    have oF:=HR.out.2.1.kept kF (by decide) (by decide) (by decide) (by decide) (by decide) (by decide) (by decide) (by decide)
    generalize qa4.setRow q0.heap.size R=wF at sF bF oF ⊢
    refine hK.out _ _ (ZK.out _ bF) (fun hHeld=> ?_)
    clear hK K
    (try simp only[Act.put,List.setIfInBounds_toArray,List.set_cons_zero,List.set_cons_succ])
    refine wpAnyH_ready (rs:=[16]) (by kernel_rfl) (by simp) ?_
    refine AllReadyH.cons rfl (fun K hK=> ?_) AllReadyH.nil
    go_simp
    refine hK.out _ _ (ZK.out _ bF) (fun hHeld=> ?_)
    clear hK K
    (try simp only[Act.put,List.setIfInBounds_toArray,List.set_cons_zero,List.set_cons_succ])
    refine wpAnyH_done (by kernel_rfl) ?_ _
    have FF:=hid (And.intro sF (And.intro oF bF))
    clear sF oF bF
    go_wp2_with fail
    go_meet
    case rel=>exact ⟨_,v6,o6,rfl,rfl,AL.out,by rw[HR.out.1];exact FF.out.1,FF.out.2.1,FF.out.2.2⟩
  ·go_simp
   refine hK.out _ _ (ZK.out _ (B0.out.alloc B0.out.size _)) (fun hHeld=> ?_)
   clear hK K
   have ST:Stands _ wd.heap.size _ 30:=stands_new wd #[.slice none 0 0, .slice none 0 0, .slice none 0 0, .slice none 0 0, .int .u32 0, .slice none 0 0, .int .i64 0, .slice none 0 0, .int .i64 0, .string ⟨#[]⟩] 30
   have bA:Below wd.heap.size wd _:=box_below wd (.cells #[.slice none 0 0, .slice none 0 0, .slice none 0 0, .slice none 0 0, .int .u32 0, .slice none 0 0, .int .i64 0, .slice none 0 0, .int .i64 0, .string ⟨#[]⟩] 30)
   have AL:=hid (show w1.heap.size≤wd.heap.size from B0.out.size)
   generalize wd.alloc (.cells #[.slice none 0 0, .slice none 0 0, .slice none 0 0, .slice none 0 0, .int .u32 0, .slice none 0 0, .int .i64 0, .slice none 0 0, .int .i64 0, .string ⟨#[]⟩] 30)=qA0 at ST bA hHeld ⊢
   have BA0:=hid (B0.out.trans (bA.mono B0.out.size))
   have ST:=hid ST
   clear bA
   (try simp only[Act.put,List.setIfInBounds_toArray,List.set_cons_zero,List.set_cons_succ])
   refine wpAnyH_ready (rs:=[0]) (by kernel_rfl) (by simp) ?_
   refine AllReadyH.cons rfl (fun K hK=> ?_) AllReadyH.nil
   go_simp
   go_wp2_with (go_at_call 18;refine (cN _).mono ?_;rintro e qa0 ⟨U,rfl,v1,hU,ow1,b1x⟩)
   have H1:=hid (And.intro hU ow1)
   have Ba0:=hid (BA0.out.trans (b1x.mono BA0.out.size))
   have ST:=hid (ST.out.below b1x)
   have BN:=hid (Below.refl qa0.heap.size qa0)
   clear hU ow1
   clear b1x
   refine hK.out _ _ (ZK.out _ Ba0.out) (fun hHeld=> ?_)
   clear hK K
   (try simp only[Act.put,List.setIfInBounds_toArray,List.set_cons_zero,List.set_cons_succ])
   refine wpAnyH_ready (rs:=[4]) (by kernel_rfl) (by simp) ?_
   refine AllReadyH.cons rfl (fun K hK=> ?_) AllReadyH.nil
   go_simp
   go_wp2_with (go_at_call 19;refine (cL x0 _).mono ?_;rintro e qa1 ⟨rfl,b1x⟩)
   have Ba1:=hid (Ba0.out.trans (b1x.mono Ba0.out.size))
   have ST:=hid (ST.out.below b1x)
   have BN:=hid (below_trans BN.out b1x)
   clear b1x
   refine hK.out _ _ (ZK.out _ Ba1.out) (fun hHeld=> ?_)
   clear hK K
   (try simp only[Act.put,List.setIfInBounds_toArray,List.set_cons_zero,List.set_cons_succ])
   refine wpAnyH_ready (rs:=[8]) (by kernel_rfl) (by simp) ?_
   refine AllReadyH.cons rfl (fun K hK=> ?_) AllReadyH.nil
   go_simp
   go_wp2_with (go_at_call 19;refine (cL x1 _).mono ?_;rintro e qa2 ⟨rfl,b1x⟩)
   have Ba2:=hid (Ba1.out.trans (b1x.mono Ba1.out.size))
   have ST:=hid (ST.out.below b1x)
   have BN:=hid (below_trans BN.out b1x)
   clear b1x
   refine hK.out _ _ (ZK.out _ Ba2.out) (fun hHeld=> ?_)
   clear hK K
   (try simp only[Act.put,List.setIfInBounds_toArray,List.set_cons_zero,List.set_cons_succ])
   refine wpAnyH_ready (rs:=[9]) (by kernel_rfl) (by simp) ?_
   refine AllReadyH.cons rfl (fun K hK=> ?_) AllReadyH.nil
   go_simp
   have rl:RdO (qa2.alloc (.cells #[.int .i64 4, .int .u32 3, .int .i64 1, .int .u32 x0, .int .i64 3, .int .u32 4, .int .i64 1, .int .u32 x1] 47)) (.slice (some ⟨qa2.heap.size,0,none⟩) 4 4) (chA x0 x1):=op_lit qa2 (chA x0 x1) 47 (by simp[chA]) (by simp[chA,maxLen])
   have b1x:Below qa2.heap.size qa2 (qa2.alloc (.cells #[.int .i64 4, .int .u32 3, .int .i64 1, .int .u32 x0, .int .i64 3, .int .u32 4, .int .i64 1, .int .u32 x1] 47)):=box_below qa2 _
   generalize qa2.alloc (.cells #[.int .i64 4, .int .u32 3, .int .i64 1, .int .u32 x0, .int .i64 3, .int .u32 4, .int .i64 1, .int .u32 x1] 47)=qa3 at rl b1x ⊢
   have Ba3:=hid (Ba2.out.trans (b1x.mono Ba2.out.size))
   have ST:=hid (ST.out.below b1x)
   have BN:=hid (below_trans BN.out b1x)
   have RL:=hid rl
   clear rl
   clear b1x
   refine hK.out _ _ (ZK.out _ Ba3.out) (fun hHeld=> ?_)
   clear hK K
   (try simp only[Act.put,List.setIfInBounds_toArray,List.set_cons_zero,List.set_cons_succ])
   refine wpAnyH_ready (rs:=[10]) (by kernel_rfl) (by simp) ?_
   refine AllReadyH.cons rfl (fun K hK=> ?_) AllReadyH.nil
   have c5:=CK.out v1 ⟨#[]⟩ qa3 (H1.out.2.read.below BN.out) _ RL.out
   rw[H1.out.1] at c5
   go_simp
   go_wp2_with (go_at_call 17;refine (mach_let c5).mono ?_;rintro e qa4 ⟨R,rfl,v6,o6,hR,ow6,b1x⟩)
   have one:=rdm_one ow6.read
   rw[hR] at one
   have hRs:R.size=10:=by rw[←hR];rfl
   have HR:=hid (And.intro hR (And.intro (OwM.le Ba3.out.size ow6) (And.intro b1x (And.intro hRs one))))
   clear hR hRs one ow6 c5
   have Ba4:=hid (Ba3.out.trans (b1x.mono Ba3.out.size))
   have ST:=hid (ST.out.below b1x)
   clear b1x
   refine hK.out _ _ (ZK.out _ Ba4.out) (fun hHeld=> ?_)
   clear hK K
   (try simp only[Act.put,List.setIfInBounds_toArray,List.set_cons_zero,List.set_cons_succ])
   refine wpAnyH_take (i:=11) (v:= ?v22) rfl (by kernel_rfl) (by kernel_rfl) (by kernel_rfl) (fun _ _ _ h=>h) (Or.inl ⟨by kernel_rfl, ?h22⟩) hHeld ?r22
   case h22=>intro W hSw;(try dsimp only at hSw);obtain ⟨s0,s1⟩:=hSw;go_simp;try with_reducible rfl
   simp only[Act.put,List.setIfInBounds_toArray,List.set_cons_zero,List.set_cons_succ]
   refine wpAnyH_take (i:=12) (v:= ?v23) rfl (by kernel_rfl) (by kernel_rfl) (by kernel_rfl) (fun _ _ _ h=>h) (Or.inl ⟨by kernel_rfl, ?h23⟩) hHeld ?r23
   case h23=>intro W hSw;(try dsimp only at hSw);obtain ⟨s0,s1⟩:=hSw;go_simp;try with_reducible rfl
   simp only[Act.put,List.setIfInBounds_toArray,List.set_cons_zero,List.set_cons_succ]
   refine wpAnyH_take (i:=13) (v:= ?v24) rfl (by kernel_rfl) (by kernel_rfl) (by kernel_rfl) (fun _ _ _ h=>h) (Or.inl ⟨by kernel_rfl, ?h24⟩) hHeld ?r24
   case h24=>intro W hSw;(try dsimp only at hSw);obtain ⟨s0,s1⟩:=hSw;go_simp;try with_reducible rfl
   simp only[Act.put,List.setIfInBounds_toArray,List.set_cons_zero,List.set_cons_succ]
   refine wpAnyH_ready (rs:=[15]) (by kernel_rfl) (by simp) ?_
   refine AllReadyH.cons rfl (fun K hK=> ?_) AllReadyH.nil
   refine step_store_row rfl 30 (.tmp 7) (.tmp 32) rfl wd.heap.size R rfl rfl 30 _ ST.out (by rw[HR.out.2.2.2.1];exact infoMz) (by rw[HR.out.2.2.2.1];rfl) HR.out.2.2.2.2 ?_
   have sF:Stands _ wd.heap.size R 30:=setRow_heap _ wd.heap.size _ R 30 (0,0) ST.out
   have bF:Below w1.heap.size w1 _:=below_setRow Ba4.out AL.out R
   have kF:Kept 30 qa4 (qa4.setRow wd.heap.size R):=Kept.stands ST.out (gb_row _ _ _)
   have oF:=HR.out.2.1.kept kF (by decide) (by decide) (by decide) (by decide) (by decide) (by decide) (by decide) (by decide)
   generalize qa4.setRow wd.heap.size R=wF at sF bF oF ⊢
   refine hK.out _ _ (ZK.out _ bF) (fun hHeld=> ?_)
   clear hK K
   (try simp only[Act.put,List.setIfInBounds_toArray,List.set_cons_zero,List.set_cons_succ])
   refine wpAnyH_ready (rs:=[16]) (by kernel_rfl) (by simp) ?_
   refine AllReadyH.cons rfl (fun K hK=> ?_) AllReadyH.nil
   go_simp
   refine hK.out _ _ (ZK.out _ bF) (fun hHeld=> ?_)
   clear hK K
   (try simp only[Act.put,List.setIfInBounds_toArray,List.set_cons_zero,List.set_cons_succ])
   refine wpAnyH_done (by kernel_rfl) ?_ _
   have FF:=hid (And.intro sF (And.intro oF bF))
   clear sF oF bF
   go_wp2_with fail
   go_meet
   case rel=>exact ⟨_,v6,o6,rfl,rfl,AL.out,by rw[HR.out.1];exact FF.out.1,FF.out.2.1,FF.out.2.2⟩
 case rest=>
  obtain ⟨Bk,v6,o6,rfl,rfl,hBk,sK,oK,bK⟩:=hcut
  have one:=rdm_one oK.read
  obtain ⟨R,hR⟩:∃zz,Mv.cs v6 m1 o6=zz:=⟨_,rfl⟩
  have hRs:R.size=10:=by rw[←hR];rfl
  rw[hR] at one sK
  have HR:=hid (And.intro hR (And.intro oK (And.intro bK (And.intro hRs one))))
  have HS:=hid (And.intro hBk sK)
  clear hR oK bK hRs one hBk sK
  obtain ⟨WC,hWC⟩:∃WC,WC=wc:=⟨_,rfl⟩
  rw[←hWC] at HR HS ⊢
  clear hWC
  go_upto_region 4 with fail
  go_cut [9] (fun X wx=>X= .int .i64 112∧∃(v7:Mv) (o7:ByteArray),Stands wx Bk (Mv.cs v7 m2 o7) 30∧OwM w1.heap.size wx v7 m2 o7∧Below w1.heap.size w1 wx)
  case first=>
   have Z4:Hid (∀W,Below w1.heap.size w1 W→W.cell? ⟨w.heap.size,0,none⟩=some (.int .u32 x0)):=hid (fun W b=>(S1.out.below b).cell 0 _ rfl)
   have B4:Hid (Below WC.heap.size WC WC.drew):=hid (below_drewN (Below.refl WC.heap.size WC) 1)
   refine wp_region_held_drew (S:=fun W=>W.cell? ⟨w.heap.size,0,none⟩=some (.int .u32 x0)) (by kernel_rfl) (Z4.out _ (HR.out.2.2.1.trans (B4.out.mono HR.out.2.2.1.size))) (fun hHeld=> ?_)
   generalize WC.drew=wd at B4 hHeld ⊢
   refine wpAnyH_take (i:=1) (v:= ?v25) rfl (by kernel_rfl) (by kernel_rfl) (by kernel_rfl) (fun _ _ _ h=>h) (Or.inl ⟨by kernel_rfl, ?h25⟩) hHeld ?r25
   case h25=>intro W hSw;(try dsimp only at hSw);obtain s0:=hSw;go_simp;try with_reducible rfl
   simp only[Act.put,List.setIfInBounds_toArray,List.set_cons_zero,List.set_cons_succ]
   refine wpAnyH_take (i:=3) (v:= ?v26) rfl (by kernel_rfl) (by kernel_rfl) (by kernel_rfl) (fun _ _ _ h=>h) (Or.inl ⟨by kernel_rfl, ?h26⟩) hHeld ?r26
   case h26=>intro W hSw;(try dsimp only at hSw);obtain s0:=hSw;go_simp;try with_reducible rfl
   simp only[Act.put,List.setIfInBounds_toArray,List.set_cons_zero,List.set_cons_succ]
   refine wpAnyH_take (i:=4) (v:= ?v27) rfl (by kernel_rfl) (by kernel_rfl) (by kernel_rfl) (fun _ _ _ h=>h) (Or.inl ⟨by kernel_rfl, ?h27⟩) hHeld ?r27
   case h27=>intro W hSw;(try dsimp only at hSw);obtain s0:=hSw;go_simp;try with_reducible rfl
   simp only[Act.put,List.setIfInBounds_toArray,List.set_cons_zero,List.set_cons_succ]
   refine wpAnyH_take (i:=5) (v:= ?v28) rfl (by kernel_rfl) (by kernel_rfl) (by kernel_rfl) (fun _ _ _ h=>h) (Or.inl ⟨by kernel_rfl, ?h28⟩) hHeld ?r28
   case h28=>intro W hSw;(try dsimp only at hSw);obtain s0:=hSw;go_simp;try with_reducible rfl
   simp only[Act.put,List.setIfInBounds_toArray,List.set_cons_zero,List.set_cons_succ]
   refine wpAnyH_take (i:=7) (v:= ?v29) rfl (by kernel_rfl) (by kernel_rfl) (by kernel_rfl) (fun _ _ _ h=>h) (Or.inl ⟨by kernel_rfl, ?h29⟩) hHeld ?r29
   case h29=>intro W hSw;(try dsimp only at hSw);obtain s0:=hSw;go_simp;try with_reducible rfl
   simp only[Act.put,List.setIfInBounds_toArray,List.set_cons_zero,List.set_cons_succ]
   refine wpAnyH_take (i:=8) (v:= ?v30) rfl (by kernel_rfl) (by kernel_rfl) (by kernel_rfl) (fun _ _ _ h=>h) (Or.inl ⟨by kernel_rfl, ?h30⟩) hHeld ?r30
   case h30=>intro W hSw;(try dsimp only at hSw);obtain s0:=hSw;go_simp;try with_reducible rfl
   simp only[Act.put,List.setIfInBounds_toArray,List.set_cons_zero,List.set_cons_succ]
   refine wpAnyH_ready (rs:=[0,2]) (by kernel_rfl) (by simp) ?_
   refine AllReadyH.cons rfl (fun K hK=> ?_) (AllReadyH.cons rfl (fun K hK=> ?_) AllReadyH.nil)
   ·refine step_load_row rfl 30 (.tmp 7) rfl Bk rfl 30 R (0,0) _ (HS.out.2.below B4.out) Tryz.underlying30 rfl (by rw[HR.out.2.2.2.1];exact infoMz) ?_
    refine hK.out _ _ (Z4.out _ (HR.out.2.2.1.trans (B4.out.mono HR.out.2.2.1.size))) (fun hHeld=> ?_)
    clear hK K
    (try simp only[Act.put,List.setIfInBounds_toArray,List.set_cons_zero,List.set_cons_succ])
    refine wpAnyH_ready (rs:=[2]) (by kernel_rfl) (by simp) ?_
    refine AllReadyH.cons rfl (fun K hK=> ?_) AllReadyH.nil
    go_simp
    go_wp2_with (go_at_call 19;refine (cL y _).mono ?_;rintro e pl0 ⟨rfl,b1x⟩)
    have Cl0:=hid (below_trans B4.out b1x)
    clear b1x
    refine hK.out _ _ (Z4.out _ (HR.out.2.2.1.trans (Cl0.out.mono HR.out.2.2.1.size))) (fun hHeld=> ?_)
    clear hK K
    (try simp only[Act.put,List.setIfInBounds_toArray,List.set_cons_zero,List.set_cons_succ])
    refine wpAnyH_ready (rs:=[6]) (by kernel_rfl) (by simp) ?_
    refine AllReadyH.cons rfl (fun K hK=> ?_) AllReadyH.nil
    go_simp
    go_wp2_with (go_at_call 19;refine (cL x0 _).mono ?_;rintro e pl1 ⟨rfl,b1x⟩)
    have Cl1:=hid (below_trans Cl0.out b1x)
    clear b1x
    refine hK.out _ _ (Z4.out _ (HR.out.2.2.1.trans (Cl1.out.mono HR.out.2.2.1.size))) (fun hHeld=> ?_)
    clear hK K
    (try simp only[Act.put,List.setIfInBounds_toArray,List.set_cons_zero,List.set_cons_succ])
    refine wpAnyH_ready (rs:=[9]) (by kernel_rfl) (by simp) ?_
    refine AllReadyH.cons rfl (fun K hK=> ?_) AllReadyH.nil
    go_simp
    have rl:RdO (pl1.alloc (.cells #[.int .i64 1, .int .u32 y, .int .i64 10, .int .u32 4, .int .i64 1, .int .u32 x0, .int .i64 3, .int .u32 5, .int .i64 11, .int .u32 0] 47)) (.slice (some ⟨pl1.heap.size,0,none⟩) 5 5) (chB x0 y):=op_lit pl1 (chB x0 y) 47 (by simp[chB]) (by simp[chB,maxLen])
    have b1x:Below pl1.heap.size pl1 (pl1.alloc (.cells #[.int .i64 1, .int .u32 y, .int .i64 10, .int .u32 4, .int .i64 1, .int .u32 x0, .int .i64 3, .int .u32 5, .int .i64 11, .int .u32 0] 47)):=box_below pl1 _
    generalize pl1.alloc (.cells #[.int .i64 1, .int .u32 y, .int .i64 10, .int .u32 4, .int .i64 1, .int .u32 x0, .int .i64 3, .int .u32 5, .int .i64 11, .int .u32 0] 47)=pl2 at rl b1x ⊢
    have RL:=hid rl
    clear rl
    have Cl2:=hid (below_trans Cl1.out b1x)
    clear b1x
    refine hK.out _ _ (Z4.out _ (HR.out.2.2.1.trans (Cl2.out.mono HR.out.2.2.1.size))) (fun hHeld=> ?_)
    clear hK K
    (try simp only[Act.put,List.setIfInBounds_toArray,List.set_cons_zero,List.set_cons_succ])
    refine wpAnyH_ready (rs:=[10]) (by kernel_rfl) (by simp) ?_
    refine AllReadyH.cons rfl (fun K hK=> ?_) AllReadyH.nil
    have c5:=CK2.out v6 o6 pl2 (HR.out.2.1.read.below Cl2.out) _ RL.out
    rw[HR.out.1] at c5
    go_simp
    go_wp2_with (go_at_call 17;refine (mach_let c5).mono ?_;rintro e pl3 ⟨Q,rfl,v7,o7,hQ,ow7,b1x⟩)
    have one:=rdm_one ow7.read
    rw[hQ] at one
    have hQs:Q.size=10:=by rw[←hQ];rfl
    have HQ:=hid (And.intro hQ (And.intro (OwM.le (Nat.le_trans HR.out.2.2.1.size Cl2.out.size) ow7) (And.intro b1x (And.intro hQs one))))
    clear hQ hQs one ow7 c5
    have Cl3:=hid (below_trans Cl2.out b1x)
    clear b1x
    refine hK.out _ _ (Z4.out _ (HR.out.2.2.1.trans (Cl3.out.mono HR.out.2.2.1.size))) (fun hHeld=> ?_)
    clear hK K
    (try simp only[Act.put,List.setIfInBounds_toArray,List.set_cons_zero,List.set_cons_succ])
    refine wpAnyH_take (i:=11) (v:= ?v31) rfl (by kernel_rfl) (by kernel_rfl) (by kernel_rfl) (fun _ _ _ h=>h) (Or.inl ⟨by kernel_rfl, ?h31⟩) hHeld ?r31
    case h31=>intro W hSw;(try dsimp only at hSw);obtain s0:=hSw;go_simp;try with_reducible rfl
    simp only[Act.put,List.setIfInBounds_toArray,List.set_cons_zero,List.set_cons_succ]
    refine wpAnyH_take (i:=12) (v:= ?v32) rfl (by kernel_rfl) (by kernel_rfl) (by kernel_rfl) (fun _ _ _ h=>h) (Or.inl ⟨by kernel_rfl, ?h32⟩) hHeld ?r32
    case h32=>intro W hSw;(try dsimp only at hSw);obtain s0:=hSw;go_simp;try with_reducible rfl
    simp only[Act.put,List.setIfInBounds_toArray,List.set_cons_zero,List.set_cons_succ]
    refine wpAnyH_take (i:=13) (v:= ?v33) rfl (by kernel_rfl) (by kernel_rfl) (by kernel_rfl) (fun _ _ _ h=>h) (Or.inl ⟨by kernel_rfl, ?h33⟩) hHeld ?r33
    case h33=>intro W hSw;(try dsimp only at hSw);obtain s0:=hSw;go_simp;try with_reducible rfl
    simp only[Act.put,List.setIfInBounds_toArray,List.set_cons_zero,List.set_cons_succ]
    refine wpAnyH_ready (rs:=[14]) (by kernel_rfl) (by simp) ?_
    refine AllReadyH.cons rfl (fun K hK=> ?_) AllReadyH.nil
    refine step_store_row rfl 30 (.tmp 7) (.tmp 46) rfl Bk Q rfl rfl 30 _ (HS.out.2.below Cl3.out) (by rw[HQ.out.2.2.2.1];exact infoMz) (by rw[HQ.out.2.2.2.1,HR.out.2.2.2.1]) HQ.out.2.2.2.2 ?_
    have sF:Stands _ Bk Q 30:=setRow_heap _ Bk _ Q 30 (0,0) (HS.out.2.below Cl3.out)
    have bF:Below w1.heap.size w1 _:=below_setRow (HR.out.2.2.1.trans (Cl3.out.mono HR.out.2.2.1.size)) HS.out.1 Q
    have kF:Kept 30 pl3 (pl3.setRow Bk Q):=Kept.stands (HS.out.2.below Cl3.out) (gb_row _ _ _)
    have oF:=HQ.out.2.1.kept kF (by decide) (by decide) (by decide) (by decide) (by decide) (by decide) (by decide) (by decide)
    generalize pl3.setRow Bk Q=wF at sF bF oF ⊢
    refine hK.out _ _ (Z4.out _ bF) (fun hHeld=> ?_)
    clear hK K
    (try simp only[Act.put,List.setIfInBounds_toArray,List.set_cons_zero,List.set_cons_succ])
    refine wpAnyH_ready (rs:=[15]) (by kernel_rfl) (by simp) ?_
    refine AllReadyH.cons rfl (fun K hK=> ?_) AllReadyH.nil
    go_simp
    refine hK.out _ _ (Z4.out _ bF) (fun hHeld=> ?_)
    clear hK K
    (try simp only[Act.put,List.setIfInBounds_toArray,List.set_cons_zero,List.set_cons_succ])
    refine wpAnyH_done (by kernel_rfl) ?_ _
    have FF:=hid (And.intro sF (And.intro oF bF))
    clear sF oF bF
    go_wp2_with fail
    go_meet
    case rel=>exact ⟨rfl,v7,o7,by rw[HQ.out.1];exact FF.out.1,FF.out.2.1,FF.out.2.2⟩
   ·go_simp
    go_wp2_with (go_at_call 19;refine (cL y _).mono ?_;rintro e p0 ⟨rfl,b1x⟩)
    have C0:=hid (below_trans B4.out b1x)
    clear b1x
    refine hK.out _ _ (Z4.out _ (HR.out.2.2.1.trans (C0.out.mono HR.out.2.2.1.size))) (fun hHeld=> ?_)
    clear hK K
    (try simp only[Act.put,List.setIfInBounds_toArray,List.set_cons_zero,List.set_cons_succ])
    refine wpAnyH_ready (rs:=[0,6]) (by kernel_rfl) (by simp) ?_
    refine AllReadyH.cons rfl (fun K hK=> ?_) (AllReadyH.cons rfl (fun K hK=> ?_) AllReadyH.nil)
    ·refine step_load_row rfl 30 (.tmp 7) rfl Bk rfl 30 R (0,0) _ (HS.out.2.below C0.out) Tryz.underlying30 rfl (by rw[HR.out.2.2.2.1];exact infoMz) ?_
     refine hK.out _ _ (Z4.out _ (HR.out.2.2.1.trans (C0.out.mono HR.out.2.2.1.size))) (fun hHeld=> ?_)
     clear hK K
     (try simp only[Act.put,List.setIfInBounds_toArray,List.set_cons_zero,List.set_cons_succ])
     refine wpAnyH_ready (rs:=[6]) (by kernel_rfl) (by simp) ?_
     refine AllReadyH.cons rfl (fun K hK=> ?_) AllReadyH.nil
     go_simp
     go_wp2_with (go_at_call 19;refine (cL x0 _).mono ?_;rintro e pl1 ⟨rfl,b1x⟩)
     have Cl1:=hid (below_trans C0.out b1x)
     clear b1x
     refine hK.out _ _ (Z4.out _ (HR.out.2.2.1.trans (Cl1.out.mono HR.out.2.2.1.size))) (fun hHeld=> ?_)
     clear hK K
     (try simp only[Act.put,List.setIfInBounds_toArray,List.set_cons_zero,List.set_cons_succ])
     refine wpAnyH_ready (rs:=[9]) (by kernel_rfl) (by simp) ?_
     refine AllReadyH.cons rfl (fun K hK=> ?_) AllReadyH.nil
     go_simp
     have rl:RdO (pl1.alloc (.cells #[.int .i64 1, .int .u32 y, .int .i64 10, .int .u32 4, .int .i64 1, .int .u32 x0, .int .i64 3, .int .u32 5, .int .i64 11, .int .u32 0] 47)) (.slice (some ⟨pl1.heap.size,0,none⟩) 5 5) (chB x0 y):=op_lit pl1 (chB x0 y) 47 (by simp[chB]) (by simp[chB,maxLen])
     have b1x:Below pl1.heap.size pl1 (pl1.alloc (.cells #[.int .i64 1, .int .u32 y, .int .i64 10, .int .u32 4, .int .i64 1, .int .u32 x0, .int .i64 3, .int .u32 5, .int .i64 11, .int .u32 0] 47)):=box_below pl1 _
     generalize pl1.alloc (.cells #[.int .i64 1, .int .u32 y, .int .i64 10, .int .u32 4, .int .i64 1, .int .u32 x0, .int .i64 3, .int .u32 5, .int .i64 11, .int .u32 0] 47)=pl2 at rl b1x ⊢
     have RL:=hid rl
     clear rl
     have Cl2:=hid (below_trans Cl1.out b1x)
     clear b1x
     refine hK.out _ _ (Z4.out _ (HR.out.2.2.1.trans (Cl2.out.mono HR.out.2.2.1.size))) (fun hHeld=> ?_)
     clear hK K
     (try simp only[Act.put,List.setIfInBounds_toArray,List.set_cons_zero,List.set_cons_succ])
     refine wpAnyH_ready (rs:=[10]) (by kernel_rfl) (by simp) ?_
     refine AllReadyH.cons rfl (fun K hK=> ?_) AllReadyH.nil
     have c5:=CK2.out v6 o6 pl2 (HR.out.2.1.read.below Cl2.out) _ RL.out
     rw[HR.out.1] at c5
     go_simp
     go_wp2_with (go_at_call 17;refine (mach_let c5).mono ?_;rintro e pl3 ⟨Q,rfl,v7,o7,hQ,ow7,b1x⟩)
     have one:=rdm_one ow7.read
     rw[hQ] at one
     have hQs:Q.size=10:=by rw[←hQ];rfl
     have HQ:=hid (And.intro hQ (And.intro (OwM.le (Nat.le_trans HR.out.2.2.1.size Cl2.out.size) ow7) (And.intro b1x (And.intro hQs one))))
     clear hQ hQs one ow7 c5
     have Cl3:=hid (below_trans Cl2.out b1x)
     clear b1x
     refine hK.out _ _ (Z4.out _ (HR.out.2.2.1.trans (Cl3.out.mono HR.out.2.2.1.size))) (fun hHeld=> ?_)
     clear hK K
     (try simp only[Act.put,List.setIfInBounds_toArray,List.set_cons_zero,List.set_cons_succ])
     refine wpAnyH_take (i:=11) (v:= ?v34) rfl (by kernel_rfl) (by kernel_rfl) (by kernel_rfl) (fun _ _ _ h=>h) (Or.inl ⟨by kernel_rfl, ?h34⟩) hHeld ?r34
     case h34=>intro W hSw;(try dsimp only at hSw);obtain s0:=hSw;go_simp;try with_reducible rfl
     simp only[Act.put,List.setIfInBounds_toArray,List.set_cons_zero,List.set_cons_succ]
     refine wpAnyH_take (i:=12) (v:= ?v35) rfl (by kernel_rfl) (by kernel_rfl) (by kernel_rfl) (fun _ _ _ h=>h) (Or.inl ⟨by kernel_rfl, ?h35⟩) hHeld ?r35
     case h35=>intro W hSw;(try dsimp only at hSw);obtain s0:=hSw;go_simp;try with_reducible rfl
     simp only[Act.put,List.setIfInBounds_toArray,List.set_cons_zero,List.set_cons_succ]
     refine wpAnyH_take (i:=13) (v:= ?v36) rfl (by kernel_rfl) (by kernel_rfl) (by kernel_rfl) (fun _ _ _ h=>h) (Or.inl ⟨by kernel_rfl, ?h36⟩) hHeld ?r36
     case h36=>intro W hSw;(try dsimp only at hSw);obtain s0:=hSw;go_simp;try with_reducible rfl
     simp only[Act.put,List.setIfInBounds_toArray,List.set_cons_zero,List.set_cons_succ]
     refine wpAnyH_ready (rs:=[14]) (by kernel_rfl) (by simp) ?_
     refine AllReadyH.cons rfl (fun K hK=> ?_) AllReadyH.nil
     refine step_store_row rfl 30 (.tmp 7) (.tmp 46) rfl Bk Q rfl rfl 30 _ (HS.out.2.below Cl3.out) (by rw[HQ.out.2.2.2.1];exact infoMz) (by rw[HQ.out.2.2.2.1,HR.out.2.2.2.1]) HQ.out.2.2.2.2 ?_
     have sF:Stands _ Bk Q 30:=setRow_heap _ Bk _ Q 30 (0,0) (HS.out.2.below Cl3.out)
     have bF:Below w1.heap.size w1 _:=below_setRow (HR.out.2.2.1.trans (Cl3.out.mono HR.out.2.2.1.size)) HS.out.1 Q
     have kF:Kept 30 pl3 (pl3.setRow Bk Q):=Kept.stands (HS.out.2.below Cl3.out) (gb_row _ _ _)
     have oF:=HQ.out.2.1.kept kF (by decide) (by decide) (by decide) (by decide) (by decide) (by decide) (by decide) (by decide)
     generalize pl3.setRow Bk Q=wF at sF bF oF ⊢
     refine hK.out _ _ (Z4.out _ bF) (fun hHeld=> ?_)
     clear hK K
     (try simp only[Act.put,List.setIfInBounds_toArray,List.set_cons_zero,List.set_cons_succ])
     refine wpAnyH_ready (rs:=[15]) (by kernel_rfl) (by simp) ?_
     refine AllReadyH.cons rfl (fun K hK=> ?_) AllReadyH.nil
     go_simp
     refine hK.out _ _ (Z4.out _ bF) (fun hHeld=> ?_)
     clear hK K
     (try simp only[Act.put,List.setIfInBounds_toArray,List.set_cons_zero,List.set_cons_succ])
     refine wpAnyH_done (by kernel_rfl) ?_ _
     have FF:=hid (And.intro sF (And.intro oF bF))
     clear sF oF bF
     go_wp2_with fail
     go_meet
     case rel=>exact ⟨rfl,v7,o7,by rw[HQ.out.1];exact FF.out.1,FF.out.2.1,FF.out.2.2⟩
    ·go_simp
     go_wp2_with (go_at_call 19;refine (cL x0 _).mono ?_;rintro e p1 ⟨rfl,b1x⟩)
     have C1:=hid (below_trans C0.out b1x)
     clear b1x
     refine hK.out _ _ (Z4.out _ (HR.out.2.2.1.trans (C1.out.mono HR.out.2.2.1.size))) (fun hHeld=> ?_)
     clear hK K
     (try simp only[Act.put,List.setIfInBounds_toArray,List.set_cons_zero,List.set_cons_succ])
     refine wpAnyH_ready (rs:=[0,9]) (by kernel_rfl) (by simp) ?_
     refine AllReadyH.cons rfl (fun K hK=> ?_) (AllReadyH.cons rfl (fun K hK=> ?_) AllReadyH.nil)
     ·refine step_load_row rfl 30 (.tmp 7) rfl Bk rfl 30 R (0,0) _ (HS.out.2.below C1.out) Tryz.underlying30 rfl (by rw[HR.out.2.2.2.1];exact infoMz) ?_
      refine hK.out _ _ (Z4.out _ (HR.out.2.2.1.trans (C1.out.mono HR.out.2.2.1.size))) (fun hHeld=> ?_)
      clear hK K
      (try simp only[Act.put,List.setIfInBounds_toArray,List.set_cons_zero,List.set_cons_succ])
      refine wpAnyH_ready (rs:=[9]) (by kernel_rfl) (by simp) ?_
      refine AllReadyH.cons rfl (fun K hK=> ?_) AllReadyH.nil
      go_simp
      have rl:RdO (p1.alloc (.cells #[.int .i64 1, .int .u32 y, .int .i64 10, .int .u32 4, .int .i64 1, .int .u32 x0, .int .i64 3, .int .u32 5, .int .i64 11, .int .u32 0] 47)) (.slice (some ⟨p1.heap.size,0,none⟩) 5 5) (chB x0 y):=op_lit p1 (chB x0 y) 47 (by simp[chB]) (by simp[chB,maxLen])
      have b1x:Below p1.heap.size p1 (p1.alloc (.cells #[.int .i64 1, .int .u32 y, .int .i64 10, .int .u32 4, .int .i64 1, .int .u32 x0, .int .i64 3, .int .u32 5, .int .i64 11, .int .u32 0] 47)):=box_below p1 _
      generalize p1.alloc (.cells #[.int .i64 1, .int .u32 y, .int .i64 10, .int .u32 4, .int .i64 1, .int .u32 x0, .int .i64 3, .int .u32 5, .int .i64 11, .int .u32 0] 47)=pl2 at rl b1x ⊢
      have RL:=hid rl
      clear rl
      have Cl2:=hid (below_trans C1.out b1x)
      clear b1x
      refine hK.out _ _ (Z4.out _ (HR.out.2.2.1.trans (Cl2.out.mono HR.out.2.2.1.size))) (fun hHeld=> ?_)
      clear hK K
      (try simp only[Act.put,List.setIfInBounds_toArray,List.set_cons_zero,List.set_cons_succ])
      refine wpAnyH_ready (rs:=[10]) (by kernel_rfl) (by simp) ?_
      refine AllReadyH.cons rfl (fun K hK=> ?_) AllReadyH.nil
      have c5:=CK2.out v6 o6 pl2 (HR.out.2.1.read.below Cl2.out) _ RL.out
      rw[HR.out.1] at c5
      go_simp
      go_wp2_with (go_at_call 17;refine (mach_let c5).mono ?_;rintro e pl3 ⟨Q,rfl,v7,o7,hQ,ow7,b1x⟩)
      have one:=rdm_one ow7.read
      rw[hQ] at one
      have hQs:Q.size=10:=by rw[←hQ];rfl
      have HQ:=hid (And.intro hQ (And.intro (OwM.le (Nat.le_trans HR.out.2.2.1.size Cl2.out.size) ow7) (And.intro b1x (And.intro hQs one))))
      clear hQ hQs one ow7 c5
      have Cl3:=hid (below_trans Cl2.out b1x)
      clear b1x
      refine hK.out _ _ (Z4.out _ (HR.out.2.2.1.trans (Cl3.out.mono HR.out.2.2.1.size))) (fun hHeld=> ?_)
      clear hK K
      (try simp only[Act.put,List.setIfInBounds_toArray,List.set_cons_zero,List.set_cons_succ])
      refine wpAnyH_take (i:=11) (v:= ?v37) rfl (by kernel_rfl) (by kernel_rfl) (by kernel_rfl) (fun _ _ _ h=>h) (Or.inl ⟨by kernel_rfl, ?h37⟩) hHeld ?r37
      case h37=>intro W hSw;(try dsimp only at hSw);obtain s0:=hSw;go_simp;try with_reducible rfl
      simp only[Act.put,List.setIfInBounds_toArray,List.set_cons_zero,List.set_cons_succ]
      refine wpAnyH_take (i:=12) (v:= ?v38) rfl (by kernel_rfl) (by kernel_rfl) (by kernel_rfl) (fun _ _ _ h=>h) (Or.inl ⟨by kernel_rfl, ?h38⟩) hHeld ?r38
      case h38=>intro W hSw;(try dsimp only at hSw);obtain s0:=hSw;go_simp;try with_reducible rfl
      simp only[Act.put,List.setIfInBounds_toArray,List.set_cons_zero,List.set_cons_succ]
      refine wpAnyH_take (i:=13) (v:= ?v39) rfl (by kernel_rfl) (by kernel_rfl) (by kernel_rfl) (fun _ _ _ h=>h) (Or.inl ⟨by kernel_rfl, ?h39⟩) hHeld ?r39
      case h39=>intro W hSw;(try dsimp only at hSw);obtain s0:=hSw;go_simp;try with_reducible rfl
      simp only[Act.put,List.setIfInBounds_toArray,List.set_cons_zero,List.set_cons_succ]
      refine wpAnyH_ready (rs:=[14]) (by kernel_rfl) (by simp) ?_
      refine AllReadyH.cons rfl (fun K hK=> ?_) AllReadyH.nil
      refine step_store_row rfl 30 (.tmp 7) (.tmp 46) rfl Bk Q rfl rfl 30 _ (HS.out.2.below Cl3.out) (by rw[HQ.out.2.2.2.1];exact infoMz) (by rw[HQ.out.2.2.2.1,HR.out.2.2.2.1]) HQ.out.2.2.2.2 ?_
      have sF:Stands _ Bk Q 30:=setRow_heap _ Bk _ Q 30 (0,0) (HS.out.2.below Cl3.out)
      have bF:Below w1.heap.size w1 _:=below_setRow (HR.out.2.2.1.trans (Cl3.out.mono HR.out.2.2.1.size)) HS.out.1 Q
      have kF:Kept 30 pl3 (pl3.setRow Bk Q):=Kept.stands (HS.out.2.below Cl3.out) (gb_row _ _ _)
      have oF:=HQ.out.2.1.kept kF (by decide) (by decide) (by decide) (by decide) (by decide) (by decide) (by decide) (by decide)
      generalize pl3.setRow Bk Q=wF at sF bF oF ⊢
      refine hK.out _ _ (Z4.out _ bF) (fun hHeld=> ?_)
      clear hK K
      (try simp only[Act.put,List.setIfInBounds_toArray,List.set_cons_zero,List.set_cons_succ])
      refine wpAnyH_ready (rs:=[15]) (by kernel_rfl) (by simp) ?_
      refine AllReadyH.cons rfl (fun K hK=> ?_) AllReadyH.nil
      go_simp
      refine hK.out _ _ (Z4.out _ bF) (fun hHeld=> ?_)
      clear hK K
      (try simp only[Act.put,List.setIfInBounds_toArray,List.set_cons_zero,List.set_cons_succ])
      refine wpAnyH_done (by kernel_rfl) ?_ _
      have FF:=hid (And.intro sF (And.intro oF bF))
      clear sF oF bF
      go_wp2_with fail
      go_meet
      case rel=>exact ⟨rfl,v7,o7,by rw[HQ.out.1];exact FF.out.1,FF.out.2.1,FF.out.2.2⟩
     ·go_simp
      have rl:RdO (p1.alloc (.cells #[.int .i64 1, .int .u32 y, .int .i64 10, .int .u32 4, .int .i64 1, .int .u32 x0, .int .i64 3, .int .u32 5, .int .i64 11, .int .u32 0] 47)) (.slice (some ⟨p1.heap.size,0,none⟩) 5 5) (chB x0 y):=op_lit p1 (chB x0 y) 47 (by simp[chB]) (by simp[chB,maxLen])
      have b1x:Below p1.heap.size p1 (p1.alloc (.cells #[.int .i64 1, .int .u32 y, .int .i64 10, .int .u32 4, .int .i64 1, .int .u32 x0, .int .i64 3, .int .u32 5, .int .i64 11, .int .u32 0] 47)):=box_below p1 _
      generalize p1.alloc (.cells #[.int .i64 1, .int .u32 y, .int .i64 10, .int .u32 4, .int .i64 1, .int .u32 x0, .int .i64 3, .int .u32 5, .int .i64 11, .int .u32 0] 47)=p2 at rl b1x ⊢
      have RL:=hid rl
      clear rl
      have C2:=hid (below_trans C1.out b1x)
      clear b1x
      refine hK.out _ _ (Z4.out _ (HR.out.2.2.1.trans (C2.out.mono HR.out.2.2.1.size))) (fun hHeld=> ?_)
      clear hK K
      (try simp only[Act.put,List.setIfInBounds_toArray,List.set_cons_zero,List.set_cons_succ])
      refine wpAnyH_ready (rs:=[0]) (by kernel_rfl) (by simp) ?_
      refine AllReadyH.cons rfl (fun K hK=> ?_) AllReadyH.nil
      refine step_load_row rfl 30 (.tmp 7) rfl Bk rfl 30 R (0,0) _ (HS.out.2.below C2.out) Tryz.underlying30 rfl (by rw[HR.out.2.2.2.1];exact infoMz) ?_
      refine hK.out _ _ (Z4.out _ (HR.out.2.2.1.trans (C2.out.mono HR.out.2.2.1.size))) (fun hHeld=> ?_)
      clear hK K
      (try simp only[Act.put,List.setIfInBounds_toArray,List.set_cons_zero,List.set_cons_succ])
      refine wpAnyH_ready (rs:=[10]) (by kernel_rfl) (by simp) ?_
      refine AllReadyH.cons rfl (fun K hK=> ?_) AllReadyH.nil
      have c5:=CK2.out v6 o6 p2 (HR.out.2.1.read.below C2.out) _ RL.out
      rw[HR.out.1] at c5
      go_simp
      go_wp2_with (go_at_call 17;refine (mach_let c5).mono ?_;rintro e pl3 ⟨Q,rfl,v7,o7,hQ,ow7,b1x⟩)
      have one:=rdm_one ow7.read
      rw[hQ] at one
      have hQs:Q.size=10:=by rw[←hQ];rfl
      have HQ:=hid (And.intro hQ (And.intro (OwM.le (Nat.le_trans HR.out.2.2.1.size C2.out.size) ow7) (And.intro b1x (And.intro hQs one))))
      clear hQ hQs one ow7 c5
      have Cl3:=hid (below_trans C2.out b1x)
      clear b1x
      refine hK.out _ _ (Z4.out _ (HR.out.2.2.1.trans (Cl3.out.mono HR.out.2.2.1.size))) (fun hHeld=> ?_)
      clear hK K
      (try simp only[Act.put,List.setIfInBounds_toArray,List.set_cons_zero,List.set_cons_succ])
      refine wpAnyH_take (i:=11) (v:= ?v40) rfl (by kernel_rfl) (by kernel_rfl) (by kernel_rfl) (fun _ _ _ h=>h) (Or.inl ⟨by kernel_rfl, ?h40⟩) hHeld ?r40
      case h40=>intro W hSw;(try dsimp only at hSw);obtain s0:=hSw;go_simp;try with_reducible rfl
      simp only[Act.put,List.setIfInBounds_toArray,List.set_cons_zero,List.set_cons_succ]
      refine wpAnyH_take (i:=12) (v:= ?v41) rfl (by kernel_rfl) (by kernel_rfl) (by kernel_rfl) (fun _ _ _ h=>h) (Or.inl ⟨by kernel_rfl, ?h41⟩) hHeld ?r41
      case h41=>intro W hSw;(try dsimp only at hSw);obtain s0:=hSw;go_simp;try with_reducible rfl
      simp only[Act.put,List.setIfInBounds_toArray,List.set_cons_zero,List.set_cons_succ]
      refine wpAnyH_take (i:=13) (v:= ?v42) rfl (by kernel_rfl) (by kernel_rfl) (by kernel_rfl) (fun _ _ _ h=>h) (Or.inl ⟨by kernel_rfl, ?h42⟩) hHeld ?r42
      case h42=>intro W hSw;(try dsimp only at hSw);obtain s0:=hSw;go_simp;try with_reducible rfl
      simp only[Act.put,List.setIfInBounds_toArray,List.set_cons_zero,List.set_cons_succ]
      refine wpAnyH_ready (rs:=[14]) (by kernel_rfl) (by simp) ?_
      refine AllReadyH.cons rfl (fun K hK=> ?_) AllReadyH.nil
      refine step_store_row rfl 30 (.tmp 7) (.tmp 46) rfl Bk Q rfl rfl 30 _ (HS.out.2.below Cl3.out) (by rw[HQ.out.2.2.2.1];exact infoMz) (by rw[HQ.out.2.2.2.1,HR.out.2.2.2.1]) HQ.out.2.2.2.2 ?_
      have sF:Stands _ Bk Q 30:=setRow_heap _ Bk _ Q 30 (0,0) (HS.out.2.below Cl3.out)
      have bF:Below w1.heap.size w1 _:=below_setRow (HR.out.2.2.1.trans (Cl3.out.mono HR.out.2.2.1.size)) HS.out.1 Q
      have kF:Kept 30 pl3 (pl3.setRow Bk Q):=Kept.stands (HS.out.2.below Cl3.out) (gb_row _ _ _)
      have oF:=HQ.out.2.1.kept kF (by decide) (by decide) (by decide) (by decide) (by decide) (by decide) (by decide) (by decide)
      generalize pl3.setRow Bk Q=wF at sF bF oF ⊢
      refine hK.out _ _ (Z4.out _ bF) (fun hHeld=> ?_)
      clear hK K
      (try simp only[Act.put,List.setIfInBounds_toArray,List.set_cons_zero,List.set_cons_succ])
      refine wpAnyH_ready (rs:=[15]) (by kernel_rfl) (by simp) ?_
      refine AllReadyH.cons rfl (fun K hK=> ?_) AllReadyH.nil
      go_simp
      refine hK.out _ _ (Z4.out _ bF) (fun hHeld=> ?_)
      clear hK K
      (try simp only[Act.put,List.setIfInBounds_toArray,List.set_cons_zero,List.set_cons_succ])
      refine wpAnyH_done (by kernel_rfl) ?_ _
      have FF:=hid (And.intro sF (And.intro oF bF))
      clear sF oF bF
      go_wp2_with fail
      go_meet
      case rel=>exact ⟨rfl,v7,o7,by rw[HQ.out.1];exact FF.out.1,FF.out.2.1,FF.out.2.2⟩
  case rest=>
   obtain ⟨rfl,v7,o7,sQ,oQ,bQ⟩:=hcut
   obtain ⟨WD,hWD⟩:∃WD,WD=wc:=⟨_,rfl⟩
   rw[←hWD] at sQ oQ bQ ⊢
   clear hWD
   have H7:=hid (And.intro sQ (And.intro oQ bQ))
   have hll:=rd_len h uU (P:=Tryz.prog)
   clear sQ oQ bQ
   by_cases h1:(l.length:Int) < 1
   ·go_wp2_with fail
    go_ret
    exact ⟨rfl,below_trans BW.out H7.out.2.2⟩
   by_cases h64:(64:Int) < l.length
   ·go_wp2_with fail
    go_ret
    exact ⟨rfl,below_trans BW.out H7.out.2.2⟩
   have hne:l≠[]:=by intro z;subst z;simp at h1
   obtain ⟨qq,t,hqt⟩:∃q t,l=q++[t]:=⟨l.dropLast,l.getLast hne,(List.dropLast_concat_getLast hne).symm⟩
   have hql:qq.length < 64:=by rw[hqt] at h64;simp at h64;omega
   have hlq:(l.length:Int)=qq.length+1:=by rw[hqt];simp
   obtain ⟨n1,n2,d1,d2,r1,r2,r3⟩:=choose_law x0 x1 y t qq hql
   obtain rfl:n1=m1:=by have:=d1.symm.trans HE1.out;exact (Prod.mk.inj this).1
   obtain rfl:n2=m2:=by have:=d2.symm.trans HE2.out;exact (Prod.mk.inj this).1
   rw[←hqt] at r1 r2 r3
   have gS:gM {n2 with stack:=l}:={GM2.out with stack:=hl,stackZ:=by show l.length*4≤_;omega}
   have aS:Acc ({n2 with stack:=l}:Mc).words []:=AC2.out
   have cR:=fun v o W xt f (t:Stk.Tab W) (h:RdM W v {n2 with stack:=l} o) xa=>w_run11 {n2 with stack:=l} v o xt f W t h gS aS xa
   obtain ⟨X1,K1,E1,hX1⟩:∃X K E,resX {n2 with stack:=l} 111 100=(X,K,E):=⟨_,_,_,rfl⟩
   obtain ⟨X2,K2,E2,hX2⟩:∃X K E,resX {n2 with stack:=l} 112 100=(X,K,E):=⟨_,_,_,rfl⟩
   simp only[hX1] at r1
   simp only[hX2] at r2 r3
   have HX1:=hid hX1
   have HX2:=hid hX2
   have CR:=hid cR
   have R1:=hid r1
   have R2:=hid r2
   have R3:=hid r3
   have HQT:=hid hqt
   have cCp:=w_r3copy vl l WD (h.below (below_trans BW.out H7.out.2.2)) (by unfold maxLen;omega) (by omega)
   have k0:=H7.out.1.cell 0 _ rfl
   have kf:=H7.out.1.free 0
   clear r1 r2 r3 hX1 hX2 cR d1 d2 hne hqt
   go_upto_region 8 with (go_at_call 21;refine cCp.mono ?_;rintro e w3 ⟨v3,rfl,o3,b3⟩;obtain ⟨sa,sc,rfl⟩:=own_form o3;have y0:=below_cell b3 k0;have yf:=(H7.out.1.below b3).free 0)
   have st3:=(H7.out.1.below b3).set 0 (.slice sa l.length sc)
   have kp3:Kept 30 w3 (w3.setCell ⟨Bk,0,none⟩ (.slice sa l.length sc)):=set_kept (H7.out.1.below b3) 0 _
   have o33:=own_kept kp3 (by decide) o3
   have oM3:=(H7.out.2.1.below b3).kept kp3 (by decide) (by decide) (by decide) (by decide) (by decide) (by decide) (by decide) (by decide)
   have bl3:Below w1.heap.size w1 (w3.setCell ⟨Bk,0,none⟩ (.slice sa l.length sc)):=below_set (H7.out.2.2.trans (b3.mono H7.out.2.2.size)) _ _ _ HS.out.1
   generalize w3.setCell ⟨Bk,0,none⟩ (.slice sa l.length sc)=w4 at st3 o33 oM3 bl3 ⊢
   have rM4:RdM w4 {v7 with vs:= .slice sa l.length sc} {n2 with stack:=l} o7:=⟨(Rd_own o33).1,oM3.read.mem,oM3.read.words,oM3.read.codes,oM3.read.tree,oM3.read.insts,oM3.read.out⟩
   have st4:Stands w4 Bk (Mv.cs {v7 with vs:= .slice sa l.length sc} {n2 with stack:=l} o7) 30:=st3
   have BL4:=hid (below_trans BW.out bl3)
   have BL41:=hid bl3
   have one4:=rdm_one rM4
   obtain ⟨V,hV⟩:∃V:Mv,({v7 with vs:= .slice sa l.length sc}:Mv)=V:=⟨_,rfl⟩
   rw[hV] at rM4 st4
   obtain ⟨G,hG⟩:∃zz,Mv.cs V {n2 with stack:=l} o7=zz:=⟨_,rfl⟩
   have hGs:G.size=10:=by rw[←hG];rfl
   rw[hG] at st4
   have HG:=hid (And.intro hG (And.intro rM4 (And.intro st4 hGs)))
   clear st3 kp3 o33 oM3 bl3 rM4 st4 one4 hV hG hGs y0 yf k0 kf b3 o3 cCp
   refine wp_region_lit ?_
   refine wpList_load_row rfl 30 (.tmp 7) rfl Bk rfl 30 _ (0,0) _ HG.out.2.2.1 Tryz.underlying30 rfl (by rw[HG.out.2.2.2];exact infoMz) ?_
   iterate 5 go_step
   have c5:=CR.out V o7 w4 111 100 (hT.below BL4.out) HG.out.2.1 (aX_big 111 (by omega))
   rw[HX1.out,HG.out.1] at c5
   refine c5.mono ?_
   clear c5
   rintro e w5 ⟨v5,o5,rfl,r5,b5⟩
   obtain ⟨ta,tc,etv⟩:=rd_slice r5.stack
   have oneP:=rdm_one r5
   obtain ⟨P,hP⟩:∃zz,Mv.cs v5 X1 o5=zz:=⟨_,rfl⟩
   have hPs:P.size=10:=by rw[←hP];rfl
   rw[hP] at oneP
   simp only[hP]
   have HP:=hid (And.intro hP (And.intro r5 (And.intro b5 (And.intro hPs oneP))))
   have hP0:P[0]? =some v5.vs:=by rw[←hP];rfl
   rw[etv] at hP0
   have HP0:=hid (And.intro hP0 etv)
   clear hP r5 b5 hPs oneP hP0 etv
   go_step
   iterate 15 go_step
   refine wpList_store_row rfl 30 (.tmp 10) (.tmp 63) rfl w5.heap.size P rfl rfl 30 _ (stands_new w5 _ _) (by rw[HP.out.2.2.2.1];exact infoMz) (by rw[HP.out.2.2.2.1];rfl) HP.out.2.2.2.2 ?_
   have s6:Stands _ w5.heap.size P 30:=setRow_heap _ w5.heap.size _ P 30 (0,0) (stands_new w5 #[.slice none 0 0, .slice none 0 0, .slice none 0 0, .slice none 0 0, .int .u32 0, .slice none 0 0, .int .i64 0, .slice none 0 0, .int .i64 0, .string ⟨#[]⟩] 30)
   have b6:Below w5.heap.size w5 _:=below_setRow (box_below w5 (.cells #[.slice none 0 0, .slice none 0 0, .slice none 0 0, .slice none 0 0, .int .u32 0, .slice none 0 0, .int .i64 0, .slice none 0 0, .int .i64 0, .string ⟨#[]⟩] 30)) (Nat.le_refl _) P
   generalize (w5.alloc (.cells #[.slice none 0 0, .slice none 0 0, .slice none 0 0, .slice none 0 0, .int .u32 0, .slice none 0 0, .int .i64 0, .slice none 0 0, .int .i64 0, .string ⟨#[]⟩] 30)).setRow w5.heap.size P=w6 at s6 b6 ⊢
   have b46:=below_trans HP.out.2.2.1 b6
   have BL6:=hid (below_trans BL4.out b46)
   have SG6:=hid (HG.out.2.2.1.below b46)
   have RG6:=hid (HG.out.2.1.below b46)
   have g1:=(S1.out.below (BL41.out.trans (b46.mono BL41.out.size))).cell 0 _ rfl
   have g2:=(S1.out.below (BL41.out.trans (b46.mono BL41.out.size))).cell 1 _ rfl
   have BL61:=hid (BL41.out.trans (b46.mono BL41.out.size))
   have r6:=HP.out.2.1.stack.below b6
   rw[HP0.out.2] at r6
   have f0:=s6.cell 0 _ HP0.out.1
   have h6:=h.below BL6.out
   obtain ⟨ix,i1,i2⟩:=rd_idx h6 uU zU ((l.length:Int) - 1) (by omega) (by omega)
   have et:l.getD ((l.length:Int) - 1).toNat 0=t:=by
    rw[show ((l.length:Int) - 1).toNat=qq.length by omega,HQT.out,List.getD_eq_getElem?_getD]
    simp
   rw[et] at i2
   obtain ⟨vq,q1,_,q2,_⟩:=rd_cutI h6 uU zU 0 ((l.length:Int) - 1) (by omega) (by omega) (by omega)
   have q2':=q2 rfl
   rw[show ((0:Int)).toNat=0 from rfl,List.drop_zero,show (((l.length:Int) - 1) - 0).toNat=qq.length by omega] at q1
   have eq:l.take qq.length=qq:=by rw[HQT.out];simp
   rw[eq] at q1
   obtain ⟨ee,es⟩:=R1.out
   subst ee
   rw[es] at r6 f0
   have HQ1:=hid q1
   have HR6:=hid r6
   have HH6:=hid h6
   clear b46 s6 b6 h6 q1 q2 et eq r6
   have wl:IntKind.i64.wrap ((l.length:Int) - 1)=(l.length:Int) - 1:=by rw[IntKind.wrap_i64];omega
   obtain ⟨Y,hY⟩:∃Y,(if t=0 then x1 else x0)=Y:=⟨_,rfl⟩
   rw[hY] at es f0 HR6
   obtain ⟨YL,hYL⟩:∃YL,qq++[Y]=YL:=⟨_,rfl⟩
   rw[hYL] at f0 HR6 es
   have yl:(YL.length:Int)=l.length:=by rw[←hYL,hlq];simp
   have hyq:((YL.length:Int) !=(l.length:Int))=false:=by simp[yl]
   have lY:=rd_len HR6.out uU (P:=Tryz.prog)
   obtain ⟨iy,j1,j2⟩:=rd_idx HR6.out uU zU ((l.length:Int) - 1) (by omega) (by omega)
   have ey:YL.getD ((l.length:Int) - 1).toNat 0=Y:=by
    rw[show ((l.length:Int) - 1).toNat=qq.length by omega,←hYL,List.getD_eq_getElem?_getD]
    simp
   rw[ey] at j2
   obtain ⟨vy,y1,_,y2,_⟩:=rd_cutI HR6.out uU zU 0 ((l.length:Int) - 1) (by omega) (by omega) (by omega)
   have y2':=y2 rfl
   rw[show ((0:Int)).toNat=0 from rfl,List.drop_zero,show (((l.length:Int) - 1) - 0).toNat=qq.length by omega] at y1
   have eqy:YL.take qq.length=qq:=by rw[←hYL];simp
   rw[eqy] at y1
   have cS:=fun W (b:Below w6.heap.size w6 W)=>w_r3sameQ vy vq qq qq W (y1.below b) (HQ1.out.below b)
   simp only[decide_true] at cS
   have HYL:=hid (And.intro yl hYL)
   clear y1 y2 ey eqy yl hYL es
   have yy:(Y !=Y)=false:=by simp
   have HLQ:=hid hlq
   clear hlq
   by_cases ht:t=0
   ·rw[if_pos ht] at hY
    subst hY
    have htq:(t==0)=true:=by simpa using ht
    have HTT:=hid ht
    clear ht
    go_upto_region 13 with fail
    go_quiet (first|(go_at_call 22;exact Calls.quiet_of (cS _ (below_drewN (Below.refl _ _) _))))
    go_upto_region 15 with fail
    have bd:Below w6.heap.size w6 (w6.drewN nq):=below_drewN (Below.refl _ _) _
    generalize w6.drewN nq=w7 at bd ⊢
    have SG7:=hid (SG6.out.below bd)
    have RG7:=hid (RG6.out.below bd)
    have BL7:=hid (below_trans BL6.out bd)
    have BL71:=hid (BL61.out.trans (bd.mono BL61.out.size))
    have i27:=below_cell bd i2
    have HQ7:=hid (HQ1.out.below bd)
    clear bd i2 f0 g1 g2 j1 j2 lY cS y2' hyq yy
    refine wp_region_lit ?_
    refine wpList_load_row rfl 30 (.tmp 7) rfl Bk rfl 30 _ (0,0) _ SG7.out Tryz.underlying30 rfl (by rw[HG.out.2.2.2];exact infoMz) ?_
    iterate 5 go_step
    have c5:=CR.out V o7 w7 112 100 (hT.below BL7.out) RG7.out (aX_big 112 (by omega))
    rw[HX2.out,HG.out.1] at c5
    refine c5.mono ?_
    clear c5
    rintro e w8 ⟨v8,o8,rfl,r8,b8⟩
    obtain ⟨ua,uc,euv⟩:=rd_slice r8.stack
    have oneF:=rdm_one r8
    obtain ⟨F,hF⟩:∃zz,Mv.cs v8 X2 o8=zz:=⟨_,rfl⟩
    have hFs:F.size=10:=by rw[←hF];rfl
    rw[hF] at oneF
    simp only[hF]
    have HF:=hid (And.intro hF (And.intro r8 (And.intro b8 (And.intro hFs oneF))))
    have hF0:F[0]? =some v8.vs:=by rw[←hF];rfl
    rw[euv] at hF0
    have HF0:=hid (And.intro hF0 euv)
    clear hF r8 b8 hFs oneF hF0 euv
    go_step
    iterate 15 go_step
    refine wpList_store_row rfl 30 (.tmp 15) (.tmp 112) rfl w8.heap.size F rfl rfl 30 _ (stands_new w8 _ _) (by rw[HF.out.2.2.2.1];exact infoMz) (by rw[HF.out.2.2.2.1];rfl) HF.out.2.2.2.2 ?_
    have s9:Stands _ w8.heap.size F 30:=setRow_heap _ w8.heap.size _ F 30 (0,0) (stands_new w8 #[.slice none 0 0, .slice none 0 0, .slice none 0 0, .slice none 0 0, .int .u32 0, .slice none 0 0, .int .i64 0, .slice none 0 0, .int .i64 0, .string ⟨#[]⟩] 30)
    have b9:Below w8.heap.size w8 _:=below_setRow (box_below w8 (.cells #[.slice none 0 0, .slice none 0 0, .slice none 0 0, .slice none 0 0, .int .u32 0, .slice none 0 0, .int .i64 0, .slice none 0 0, .int .i64 0, .string ⟨#[]⟩] 30)) (Nat.le_refl _) F
    generalize (w8.alloc (.cells #[.slice none 0 0, .slice none 0 0, .slice none 0 0, .slice none 0 0, .int .u32 0, .slice none 0 0, .int .i64 0, .slice none 0 0, .int .i64 0, .string ⟨#[]⟩] 30)).setRow w8.heap.size F=w9 at s9 b9 ⊢
    have b79:=below_trans HF.out.2.2.1 b9
    have BL9:=hid (below_trans BL7.out b79)
    have g1:=(S1.out.below (BL71.out.trans (b79.mono BL71.out.size))).cell 0 _ rfl
    have i29:=below_cell b79 i27
    have q9:=HQ7.out.below b79
    have r9:=HF.out.2.1.stack.below b9
    rw[HF0.out.2] at r9
    have f9:=s9.cell 0 _ HF0.out.1
    clear s9 b9 b79 i27
    by_cases h63:(l.length:Int)=64
    ·have e6:=R2.out (by have:=HLQ.out;omega)
     subst e6
     have hz:((l.length:Int)==64)=true:=by simpa using h63
     clear h63 r9 q9
     go_wp2_with fail
     go_ret
     exact ⟨rfl,BL9.out⟩
    have hz:((l.length:Int)==64)=false:=by simpa using h63
    obtain ⟨e0,es⟩:=R3.out (by have:=HLQ.out;omega)
    subst e0
    rw[es] at r9 f9
    have HLL:=hid (And.intro h63 es)
    clear h63 es
    by_cases hty:t=y
    ·rw[if_pos hty] at r9 f9
     obtain ⟨ZL,hZL⟩:∃ZL,qq++[x0]=ZL:=⟨_,rfl⟩
     rw[hZL] at r9 f9
     have yl:(ZL.length:Int)=l.length:=by rw[←hZL,HLQ.out];simp
     have hyq:((ZL.length:Int)==(l.length:Int))=true:=by simp[yl]
     have lY:=rd_len r9 uU (P:=Tryz.prog)
     obtain ⟨iy,j1,j2⟩:=rd_idx r9 uU zU ((l.length:Int) - 1) (by omega) (by omega)
     have ey:ZL.getD ((l.length:Int) - 1).toNat 0=x0:=by
      rw[show ((l.length:Int) - 1).toNat=qq.length by have:=HLQ.out;omega,←hZL,List.getD_eq_getElem?_getD]
      simp
     rw[ey] at j2
     obtain ⟨vy,y1,_,y2,_⟩:=rd_cutI r9 uU zU 0 ((l.length:Int) - 1) (by omega) (by omega) (by omega)
     have y2':=y2 rfl
     rw[show ((0:Int)).toNat=0 from rfl,List.drop_zero,show (((l.length:Int) - 1) - 0).toNat=qq.length by have:=HLQ.out;omega] at y1
     have eqy:ZL.take qq.length=qq:=by rw[←hZL];simp
     rw[eqy] at y1
     have cS:=fun W (b:Below w9.heap.size w9 W)=>w_r3sameQ vy vq qq qq W (y1.below b) (q9.below b)
     simp only[decide_true] at cS
     have xx:(x0==x0)=true:=by simp
     have tt:(t==y)=true:=by simpa using hty
     clear y1 y2 ey eqy yl hZL r9 q9 hty
     go_upto_region 19 with fail
     go_quiet (first|(go_at_call 22;exact Calls.quiet_of (cS _ (below_drewN (Below.refl _ _) _))))
     go_wp2_with fail
     go_ret
     exact ⟨rfl,below_drewN BL9.out _⟩
    ·rw[if_neg hty] at r9 f9
     have cS:=fun W (b:Below w9.heap.size w9 W)=>w_r3sameQ _ vq qq qq W (r9.below b) (q9.below b)
     simp only[decide_true] at cS
     have tt:(t==y)=false:=by simpa using hty
     clear r9 q9 hty
     go_upto_region 20 with fail
     go_quiet (first|(go_at_call 22;exact Calls.quiet_of (cS _ (below_drewN (Below.refl _ _) _))))
     go_wp2_with fail
     go_ret
     exact ⟨rfl,below_drewN BL9.out _⟩
   ·rw[if_neg ht] at hY
    subst hY
    have htq:(t==0)=false:=by simpa using ht
    have HTT:=hid ht
    clear ht
    go_upto_region 13 with fail
    go_quiet (first|(go_at_call 22;exact Calls.quiet_of (cS _ (below_drewN (Below.refl _ _) _))))
    go_upto_region 15 with fail
    have bd:Below w6.heap.size w6 (w6.drewN nq):=below_drewN (Below.refl _ _) _
    generalize w6.drewN nq=w7 at bd ⊢
    have SG7:=hid (SG6.out.below bd)
    have RG7:=hid (RG6.out.below bd)
    have BL7:=hid (below_trans BL6.out bd)
    have BL71:=hid (BL61.out.trans (bd.mono BL61.out.size))
    have i27:=below_cell bd i2
    have HQ7:=hid (HQ1.out.below bd)
    clear bd i2 f0 g1 g2 j1 j2 lY cS y2' hyq yy
    refine wp_region_lit ?_
    refine wpList_load_row rfl 30 (.tmp 7) rfl Bk rfl 30 _ (0,0) _ SG7.out Tryz.underlying30 rfl (by rw[HG.out.2.2.2];exact infoMz) ?_
    iterate 5 go_step
    have c5:=CR.out V o7 w7 112 100 (hT.below BL7.out) RG7.out (aX_big 112 (by omega))
    rw[HX2.out,HG.out.1] at c5
    refine c5.mono ?_
    clear c5
    rintro e w8 ⟨v8,o8,rfl,r8,b8⟩
    obtain ⟨ua,uc,euv⟩:=rd_slice r8.stack
    have oneF:=rdm_one r8
    obtain ⟨F,hF⟩:∃zz,Mv.cs v8 X2 o8=zz:=⟨_,rfl⟩
    have hFs:F.size=10:=by rw[←hF];rfl
    rw[hF] at oneF
    simp only[hF]
    have HF:=hid (And.intro hF (And.intro r8 (And.intro b8 (And.intro hFs oneF))))
    have hF0:F[0]? =some v8.vs:=by rw[←hF];rfl
    rw[euv] at hF0
    have HF0:=hid (And.intro hF0 euv)
    clear hF r8 b8 hFs oneF hF0 euv
    go_step
    iterate 15 go_step
    refine wpList_store_row rfl 30 (.tmp 15) (.tmp 112) rfl w8.heap.size F rfl rfl 30 _ (stands_new w8 _ _) (by rw[HF.out.2.2.2.1];exact infoMz) (by rw[HF.out.2.2.2.1];rfl) HF.out.2.2.2.2 ?_
    have s9:Stands _ w8.heap.size F 30:=setRow_heap _ w8.heap.size _ F 30 (0,0) (stands_new w8 #[.slice none 0 0, .slice none 0 0, .slice none 0 0, .slice none 0 0, .int .u32 0, .slice none 0 0, .int .i64 0, .slice none 0 0, .int .i64 0, .string ⟨#[]⟩] 30)
    have b9:Below w8.heap.size w8 _:=below_setRow (box_below w8 (.cells #[.slice none 0 0, .slice none 0 0, .slice none 0 0, .slice none 0 0, .int .u32 0, .slice none 0 0, .int .i64 0, .slice none 0 0, .int .i64 0, .string ⟨#[]⟩] 30)) (Nat.le_refl _) F
    generalize (w8.alloc (.cells #[.slice none 0 0, .slice none 0 0, .slice none 0 0, .slice none 0 0, .int .u32 0, .slice none 0 0, .int .i64 0, .slice none 0 0, .int .i64 0, .string ⟨#[]⟩] 30)).setRow w8.heap.size F=w9 at s9 b9 ⊢
    have b79:=below_trans HF.out.2.2.1 b9
    have BL9:=hid (below_trans BL7.out b79)
    have g1:=(S1.out.below (BL71.out.trans (b79.mono BL71.out.size))).cell 0 _ rfl
    have i29:=below_cell b79 i27
    have q9:=HQ7.out.below b79
    have r9:=HF.out.2.1.stack.below b9
    rw[HF0.out.2] at r9
    have f9:=s9.cell 0 _ HF0.out.1
    clear s9 b9 b79 i27
    by_cases h63:(l.length:Int)=64
    ·have e6:=R2.out (by have:=HLQ.out;omega)
     subst e6
     have hz:((l.length:Int)==64)=true:=by simpa using h63
     clear h63 r9 q9
     go_wp2_with fail
     go_ret
     exact ⟨rfl,BL9.out⟩
    have hz:((l.length:Int)==64)=false:=by simpa using h63
    obtain ⟨e0,es⟩:=R3.out (by have:=HLQ.out;omega)
    subst e0
    rw[es] at r9 f9
    have HLL:=hid (And.intro h63 es)
    clear h63 es
    by_cases hty:t=y
    ·rw[if_pos hty] at r9 f9
     obtain ⟨ZL,hZL⟩:∃ZL,qq++[x0]=ZL:=⟨_,rfl⟩
     rw[hZL] at r9 f9
     have yl:(ZL.length:Int)=l.length:=by rw[←hZL,HLQ.out];simp
     have hyq:((ZL.length:Int)==(l.length:Int))=true:=by simp[yl]
     have lY:=rd_len r9 uU (P:=Tryz.prog)
     obtain ⟨iy,j1,j2⟩:=rd_idx r9 uU zU ((l.length:Int) - 1) (by omega) (by omega)
     have ey:ZL.getD ((l.length:Int) - 1).toNat 0=x0:=by
      rw[show ((l.length:Int) - 1).toNat=qq.length by have:=HLQ.out;omega,←hZL,List.getD_eq_getElem?_getD]
      simp
     rw[ey] at j2
     obtain ⟨vy,y1,_,y2,_⟩:=rd_cutI r9 uU zU 0 ((l.length:Int) - 1) (by omega) (by omega) (by omega)
     have y2':=y2 rfl
     rw[show ((0:Int)).toNat=0 from rfl,List.drop_zero,show (((l.length:Int) - 1) - 0).toNat=qq.length by have:=HLQ.out;omega] at y1
     have eqy:ZL.take qq.length=qq:=by rw[←hZL];simp
     rw[eqy] at y1
     have cS:=fun W (b:Below w9.heap.size w9 W)=>w_r3sameQ vy vq qq qq W (y1.below b) (q9.below b)
     simp only[decide_true] at cS
     have xx:(x0==x0)=true:=by simp
     have tt:(t==y)=true:=by simpa using hty
     clear y1 y2 ey eqy yl hZL r9 q9 hty
     go_upto_region 19 with fail
     go_quiet (first|(go_at_call 22;exact Calls.quiet_of (cS _ (below_drewN (Below.refl _ _) _))))
     go_wp2_with fail
     go_ret
     exact ⟨rfl,below_drewN BL9.out _⟩
    ·rw[if_neg hty] at r9 f9
     have cS:=fun W (b:Below w9.heap.size w9 W)=>w_r3sameQ _ vq qq qq W (r9.below b) (q9.below b)
     simp only[decide_true] at cS
     have tt:(t==y)=false:=by simpa using hty
     clear r9 q9 hty
     go_upto_region 20 with fail
     go_quiet (first|(go_at_call 22;exact Calls.quiet_of (cS _ (below_drewN (Below.refl _ _) _))))
     go_wp2_with fail
     go_ret
     exact ⟨rfl,below_drewN BL9.out _⟩
end Go.Proofs.YtbamcchghecpeaaGreatDoor
