import Derived.Test.YtlokhciaaepenaaGreatDoorB4
set_option linter.unusedVariables false
set_option linter.unusedSimpArgs false
set_option maxRecDepth 100000
namespace Go.Proofs.YtlokhciaaepenaaGreatDoor
open Go.ChangeShapes Go.WideShapes Go.ChangeAt Go.RowKit
theorem pc0 (l:List Int) (c:Int):pcF l 0 c=(upTo c l).length:=by simp[pcF]
def stepA (s:ByteArray) (base:Nat) (x:Sp) (e:Ending) (w':World):Prop:=
 ∃v nm ar,e= .returned (.tuple #[.agg #[.string nm,v, .string ar], .bool true])∧L nm=x.1∧L ar=x.2.2∧OwnU base w' v x.2.1
set_option maxHeartbeats 4000000 in
set_option maxRecDepth 100000 in
theorem w_rstep_ok (s:ByteArray) (x:Sp) (w:World) (hs:s.size≤140737488355328) (h:stepF (L s)=some x):
  Calls Tryz.prog 20 #[.string s] w fun e w'=>stepA s w.heap.size x e w'∧Below w.heap.size w w':=by
 have hm:s.size≤maxLen:=by unfold maxLen;omega
 have hk:=upTo_len 58 (L s)
 have hL1:=upTo_take 58 (L s)
 have c1:∀w,Calls Tryz.prog 19 #[.string s, .int .i64 0, .int .u8 58] w fun e w'=>e= .returned (.int .i64 (pcF (L s) 0 58))∧w'=w:=fun w=>w_place s 0 58 w hm (by omega) (by decide) (by decide)
 rw[pc0] at c1
 rw[L_len] at hk
 obtain ⟨k,hkk⟩:∃k,(upTo 58 (L s)).length=k:=⟨_,rfl⟩
 rw[hkk] at c1 hk hL1
 have hLp:L (s.extract 0 k)=upTo 58 (L s):=by rw[L_extract s 0 k hk];simpa using hL1
 have hps:(s.extract 0 k).size=k:=by rw[←L_len,hLp,hkk]
 have c2:∀w,Calls Tryz.prog 19 #[.string (s.extract 0 k), .int .i64 0, .int .u8 64] w fun e w'=>e= .returned (.int .i64 (pcF (L (s.extract 0 k)) 0 64))∧w'=w:=fun w=>w_place (s.extract 0 k) 0 64 w (by rw[hps];unfold maxLen;omega) (by omega) (by decide) (by decide)
 rw[pc0,hLp] at c2
 have ha:=upTo_len 64 (upTo 58 (L s))
 have hL2:=upTo_take 64 (upTo 58 (L s))
 unfold stepF at h
 rw[hkk] at h ha
 obtain ⟨a,haa⟩:∃a,(upTo 64 (upTo 58 (L s))).length=a:=⟨_,rfl⟩
 rw[haa] at h ha c2 hL2
 obtain ⟨p,hp⟩:∃p,s.extract 0 k=p:=⟨_,rfl⟩
 rw[hp] at hLp hps c2
 have hLn:L (p.extract 0 a)=upTo 64 (upTo 58 (L s)):=by rw[L_extract p 0 a (by omega),hLp];simpa using hL2
 have hLu:L (p.extract (a+1) p.size)=(upTo 58 (L s)).drop (a+1):=by rw[L_from,hLp]
 have hLa:L (s.extract (k+1) s.size)=(L s).drop (k+1):=L_from s (k+1)
 split at h
 ·cases h
 ·rename_i h1
  split at h
  ·rename_i h2
   have h:=(Option.some.inj h).symm
   have hns:(p.extract 0 a).size=a:=by rw[←L_len,hLn,haa]
   have hus:(p.extract (a+1) p.size).size≤p.size:=by rw[←L_len,L_from,List.length_drop,L_len];omega
   have cn:=fun w=>w_rnamed (p.extract 0 a) w (by rw[hns];unfold maxLen;omega)
   rw[hLn,h2] at cn
   have cu:=fun w=>w_rpunitO (p.extract (a+1) p.size) w (by omega)
   rw[hLu] at cu
   obtain ⟨N,hN⟩:∃N,p.extract 0 a=N:=⟨_,rfl⟩
   obtain ⟨R,hR⟩:∃R,s.extract (k+1) s.size=R:=⟨_,rfl⟩
   rw[hN] at cn hLn
   rw[hR] at hLa
   have z0:(0:Int)≤k:=by omega
   have z1:(k:Int)≤s.size:=by omega
   have y0:(0:Int)≤a:=by omega
   have y1:(a:Int)≤p.size:=by omega
   have hpI:(p.size:Int)=k:=by omega
   by_cases hat:a < k
   ·have hE:(punF ((upTo 58 (L s)).drop (a+1))).2=0:=by
     by_cases e:(punF ((upTo 58 (L s)).drop (a+1))).2=0
     ·exact e
     ·exact absurd ⟨hat,e⟩ h1
    obtain ⟨u,E,hu⟩:∃u E,punF ((upTo 58 (L s)).drop (a+1))=(u,E):=⟨_,_,rfl⟩
    rw[hu] at cu hE
    obtain rfl:E=0:=hE
    have hx:x=(upTo 64 (upTo 58 (L s)),u,(L s).drop (k+1)):=by rw[h,if_pos hat,hu]
    have Hx:=hid hx
    obtain ⟨U,hU⟩:∃U,p.extract (a+1) p.size=U:=⟨_,rfl⟩
    rw[hU] at cu
    have y2:(a:Int)+1≤p.size:=by omega
    have y3:(0:Int)≤(a:Int)+1:=by omega
    have y4:(a:Int) < k:=by omega
    clear h h1 h2 hx hu hL1 hL2 hkk haa hLu hLp hps hns hus hat
    by_cases hc:(k:Int) < s.size
    ·skip
     have z2:(k:Int)+1≤s.size:=by omega
     have z3:(0:Int)≤(k:Int)+1:=by omega
     go_enter Tryz.func20,Tryz.ntmps20
     go_wp2_with (first
      |(go_at_call_of 19 (Value.string s);refine (c1 _).mono ?_;rintro e w1 ⟨rfl,rfl⟩)
      |(go_at_call_of 19 (Value.string p);refine (c2 _).mono ?_;rintro e w1 ⟨rfl,rfl⟩)
      |(go_at_call 33;refine (cu _).mono ?_;rintro e w2 ⟨v2,rfl,o2,b2⟩;refine Hid.out ?_))
     obtain ⟨ao,cap,rfl⟩:=own_form o2
     have t0:Stands w2 w.heap.size #[.string ⟨#[]⟩, .slice none 0 0, .string ⟨#[]⟩] 47:=((stands_new w _ _).below (box_below _ _)).below b2
     have t1:Stands w2 (w.heap.size+1) #[.string ⟨#[]⟩, .slice none 0 0, .string R] 47:=by
      have:=(stands_new (w.alloc (.cells #[.string ⟨#[]⟩, .slice none 0 0, .string ⟨#[]⟩] 47)) #[.string ⟨#[]⟩, .slice none 0 0, .string R] 47).below b2
      rwa [size_al] at this
     have m0:=t1.cell 0 _ rfl
     have m1:=t1.cell 1 _ rfl
     have m2:=t1.cell 2 _ rfl
     have f1:=t1.free
     have hgb:=b2.size
     rw[size_al,size_al] at o2 hgb
     refine hid ?_
     go_wp2_with fail
     obtain ⟨W3,hW3,s1,s0,oW,bW⟩:∃W3,((w2.setCell ⟨w.heap.size+1,1,none⟩ (.slice ao u.length cap)).setCell ⟨w.heap.size+1,0,none⟩ (.string N))=W3∧Stands W3 (w.heap.size+1) #[.string N, .slice ao u.length cap, .string R] 47∧Stands W3 w.heap.size #[.string ⟨#[]⟩, .slice none 0 0, .string ⟨#[]⟩] 47∧OwnU (w.heap.size+1+1) W3 (.slice ao u.length cap) u∧Below w.heap.size w W3:=
      ⟨_,rfl,(t1.set 1 _).set 0 _,(t0.other 1 _ (by omega)).other 0 _ (by omega),own_other (own_other o2 _ 1 _ (by omega)) _ 0 _ (by omega),below_set (below_set (below_trans (below_trans (box_below w _) (box_below _ _)) b2) _ 1 _ (by omega)) _ 0 _ (by omega)⟩
     rw[hW3]
     clear hW3 t0 t1 m0 m1 m2 f1 o2 b2 hgb
     have q0:=s1.cell 0 _ rfl
     have q1:=s1.cell 1 _ rfl
     have q2:=s1.cell 2 _ rfl
     have r0:=s0.cell 0 _ rfl
     have r1:=s0.cell 1 _ rfl
     have r2:=s0.cell 2 _ rfl
     have g0:=s0.free
     go_region_with (go_at_call 34;refine (cn _).mono ?_;rintro e w4 ⟨rfl,b4⟩;have s1':=(show Stands W3.drew _ _ _ from s1).below b4;have s0':=(show Stands W3.drew _ _ _ from s0).below b4;have q0':=s1'.cell 0 _ rfl;have q1':=s1'.cell 1 _ rfl;have q2':=s1'.cell 2 _ rfl;have r0':=s0'.cell 0 _ rfl;have r1':=s0'.cell 1 _ rfl;have r2':=s0'.cell 2 _ rfl;have g0':=s0'.free)
     all_goals (
      go_wp2_with fail
      obtain ⟨W5,hW5,s5,o5,b5⟩:∃W5,(((w4.setCell ⟨w.heap.size,0,none⟩ (.string N)).setCell ⟨w.heap.size,1,none⟩ (.slice ao u.length cap)).setCell ⟨w.heap.size,2,none⟩ (.string R))=W5∧Stands W5 w.heap.size #[.string N, .slice ao u.length cap, .string R] 47∧OwnU w.heap.size W5 (.slice ao u.length cap) u∧Below w.heap.size w W5:=
       ⟨_,rfl,((s0'.set 0 _).set 1 _).set 2 _,own_le (by omega) (own_other (own_other (own_other (own_below (show OwnU (w.heap.size+1+1) W3.drew _ _ from oW) b4) _ 0 _ (by omega)) _ 1 _ (by omega)) _ 2 _ (by omega)),below_set (below_set (below_set (below_trans (show Below w.heap.size w W3.drew from below_drewN bW 1) b4) _ 0 _ (Nat.le_refl _)) _ 1 _ (Nat.le_refl _)) _ 2 _ (Nat.le_refl _)⟩
      rw[hW5]
      have x0:=s5.cell 0 _ rfl
      have x1:=s5.cell 1 _ rfl
      have x2:=s5.cell 2 _ rfl
      refine bodyPost_ret (v:= .tuple #[.agg #[.string N, .slice ao u.length cap, .string R], .bool true]) (by simp[results,Tryz.results20,go_sem,x0,x1,x2]) rfl ⟨⟨_,N,R,rfl, ?_, ?_, ?_⟩,b5⟩
      ·rw[Hx.out,hLn]
      ·rw[Hx.out,hLa]
      ·rw[Hx.out];exact o5)
    ·skip
     have hR0:(L s).drop (k+1)=[]:=List.drop_of_length_le (by rw[L_len];omega)
     go_enter Tryz.func20,Tryz.ntmps20
     go_wp2_with (first
      |(go_at_call_of 19 (Value.string s);refine (c1 _).mono ?_;rintro e w1 ⟨rfl,rfl⟩)
      |(go_at_call_of 19 (Value.string p);refine (c2 _).mono ?_;rintro e w1 ⟨rfl,rfl⟩)
      |(go_at_call 33;refine (cu _).mono ?_;rintro e w2 ⟨v2,rfl,o2,b2⟩;refine Hid.out ?_))
     obtain ⟨ao,cap,rfl⟩:=own_form o2
     have t0:Stands w2 w.heap.size #[.string ⟨#[]⟩, .slice none 0 0, .string ⟨#[]⟩] 47:=((stands_new w _ _).below (box_below _ _)).below b2
     have t1:Stands w2 (w.heap.size+1) #[.string ⟨#[]⟩, .slice none 0 0, .string ⟨#[]⟩] 47:=by
      have:=(stands_new (w.alloc (.cells #[.string ⟨#[]⟩, .slice none 0 0, .string ⟨#[]⟩] 47)) #[.string ⟨#[]⟩, .slice none 0 0, .string ⟨#[]⟩] 47).below b2
      rwa [size_al] at this
     have m0:=t1.cell 0 _ rfl
     have m1:=t1.cell 1 _ rfl
     have m2:=t1.cell 2 _ rfl
     have f1:=t1.free
     have hgb:=b2.size
     rw[size_al,size_al] at o2 hgb
     refine hid ?_
     go_wp2_with fail
     obtain ⟨W3,hW3,s1,s0,oW,bW⟩:∃W3,((w2.setCell ⟨w.heap.size+1,1,none⟩ (.slice ao u.length cap)).setCell ⟨w.heap.size+1,0,none⟩ (.string N))=W3∧Stands W3 (w.heap.size+1) #[.string N, .slice ao u.length cap, .string ⟨#[]⟩] 47∧Stands W3 w.heap.size #[.string ⟨#[]⟩, .slice none 0 0, .string ⟨#[]⟩] 47∧OwnU (w.heap.size+1+1) W3 (.slice ao u.length cap) u∧Below w.heap.size w W3:=
      ⟨_,rfl,(t1.set 1 _).set 0 _,(t0.other 1 _ (by omega)).other 0 _ (by omega),own_other (own_other o2 _ 1 _ (by omega)) _ 0 _ (by omega),below_set (below_set (below_trans (below_trans (box_below w _) (box_below _ _)) b2) _ 1 _ (by omega)) _ 0 _ (by omega)⟩
     rw[hW3]
     clear hW3 t0 t1 m0 m1 m2 f1 o2 b2 hgb
     have q0:=s1.cell 0 _ rfl
     have q1:=s1.cell 1 _ rfl
     have q2:=s1.cell 2 _ rfl
     have r0:=s0.cell 0 _ rfl
     have r1:=s0.cell 1 _ rfl
     have r2:=s0.cell 2 _ rfl
     have g0:=s0.free
     go_region_with (go_at_call 34;refine (cn _).mono ?_;rintro e w4 ⟨rfl,b4⟩;have s1':=(show Stands W3.drew _ _ _ from s1).below b4;have s0':=(show Stands W3.drew _ _ _ from s0).below b4;have q0':=s1'.cell 0 _ rfl;have q1':=s1'.cell 1 _ rfl;have q2':=s1'.cell 2 _ rfl;have r0':=s0'.cell 0 _ rfl;have r1':=s0'.cell 1 _ rfl;have r2':=s0'.cell 2 _ rfl;have g0':=s0'.free)
     all_goals (
      go_wp2_with fail
      obtain ⟨W5,hW5,s5,o5,b5⟩:∃W5,(((w4.setCell ⟨w.heap.size,0,none⟩ (.string N)).setCell ⟨w.heap.size,1,none⟩ (.slice ao u.length cap)).setCell ⟨w.heap.size,2,none⟩ (.string ⟨#[]⟩))=W5∧Stands W5 w.heap.size #[.string N, .slice ao u.length cap, .string ⟨#[]⟩] 47∧OwnU w.heap.size W5 (.slice ao u.length cap) u∧Below w.heap.size w W5:=
       ⟨_,rfl,((s0'.set 0 _).set 1 _).set 2 _,own_le (by omega) (own_other (own_other (own_other (own_below (show OwnU (w.heap.size+1+1) W3.drew _ _ from oW) b4) _ 0 _ (by omega)) _ 1 _ (by omega)) _ 2 _ (by omega)),below_set (below_set (below_set (below_trans (show Below w.heap.size w W3.drew from below_drewN bW 1) b4) _ 0 _ (Nat.le_refl _)) _ 1 _ (Nat.le_refl _)) _ 2 _ (Nat.le_refl _)⟩
      rw[hW5]
      have x0:=s5.cell 0 _ rfl
      have x1:=s5.cell 1 _ rfl
      have x2:=s5.cell 2 _ rfl
      refine bodyPost_ret (v:= .tuple #[.agg #[.string N, .slice ao u.length cap, .string ⟨#[]⟩], .bool true]) (by simp[results,Tryz.results20,go_sem,x0,x1,x2]) rfl ⟨⟨_,N,⟨#[]⟩,rfl, ?_, ?_, ?_⟩,b5⟩
      ·rw[Hx.out,hLn]
      ·rw[Hx.out];exact hR0.symm
      ·rw[Hx.out];exact o5)
   ·have hx:x=(upTo 64 (upTo 58 (L s)),[],(L s).drop (k+1)):=by rw[h,if_neg hat]
    have Hx:=hid hx
    have y4:¬(a:Int) < k:=by omega
    clear h h1 h2 hx hL1 hL2 hkk haa hLu hLp hps hns hus hat cu
    by_cases hc:(k:Int) < s.size
    ·skip
     have z2:(k:Int)+1≤s.size:=by omega
     have z3:(0:Int)≤(k:Int)+1:=by omega
     go_enter Tryz.func20,Tryz.ntmps20
     go_wp2_with (first
      |(go_at_call_of 19 (Value.string s);refine (c1 _).mono ?_;rintro e w1 ⟨rfl,rfl⟩)
      |(go_at_call_of 19 (Value.string p);refine (c2 _).mono ?_;rintro e w1 ⟨rfl,rfl⟩))
     obtain ⟨W3,hW3,s1,s0,oW,bW⟩:∃W3,((w.alloc (.cells #[.string ⟨#[]⟩, .slice none 0 0, .string ⟨#[]⟩] 47)).alloc (.cells #[.string N, .slice none 0 0, .string R] 47))=W3∧Stands W3 (w.heap.size+1) #[.string N, .slice none 0 0, .string R] 47∧Stands W3 w.heap.size #[.string ⟨#[]⟩, .slice none 0 0, .string ⟨#[]⟩] 47∧OwnU (w.heap.size+1+1) W3 (.slice none 0 0) []∧Below w.heap.size w W3:=
      ⟨_,rfl,by have:=stands_new (w.alloc (.cells #[.string ⟨#[]⟩, .slice none 0 0, .string ⟨#[]⟩] 47)) #[.string N, .slice none 0 0, .string R] 47;rwa [size_al] at this,(stands_new w _ _).below (box_below _ _),World.ownsRow_nil _ _ _ _,below_trans (box_below w _) (box_below _ _)⟩
     rw[hW3]
     clear hW3
     have q0:=s1.cell 0 _ rfl
     have q1:=s1.cell 1 _ rfl
     have q2:=s1.cell 2 _ rfl
     have r0:=s0.cell 0 _ rfl
     have r1:=s0.cell 1 _ rfl
     have r2:=s0.cell 2 _ rfl
     have g0:=s0.free
     go_region_with (go_at_call 34;refine (cn _).mono ?_;rintro e w4 ⟨rfl,b4⟩;have s1':=(show Stands W3.drew _ _ _ from s1).below b4;have s0':=(show Stands W3.drew _ _ _ from s0).below b4;have q0':=s1'.cell 0 _ rfl;have q1':=s1'.cell 1 _ rfl;have q2':=s1'.cell 2 _ rfl;have r0':=s0'.cell 0 _ rfl;have r1':=s0'.cell 1 _ rfl;have r2':=s0'.cell 2 _ rfl;have g0':=s0'.free)
     all_goals (
      go_wp2_with fail
      obtain ⟨W5,hW5,s5,o5,b5⟩:∃W5,(((w4.setCell ⟨w.heap.size,0,none⟩ (.string N)).setCell ⟨w.heap.size,1,none⟩ (.slice none 0 0)).setCell ⟨w.heap.size,2,none⟩ (.string R))=W5∧Stands W5 w.heap.size #[.string N, .slice none 0 0, .string R] 47∧OwnU w.heap.size W5 (.slice none 0 0) []∧Below w.heap.size w W5:=
       ⟨_,rfl,((s0'.set 0 _).set 1 _).set 2 _,own_le (by omega) (own_other (own_other (own_other (own_below (show OwnU (w.heap.size+1+1) W3.drew _ _ from oW) b4) _ 0 _ (by omega)) _ 1 _ (by omega)) _ 2 _ (by omega)),below_set (below_set (below_set (below_trans (show Below w.heap.size w W3.drew from below_drewN bW 1) b4) _ 0 _ (Nat.le_refl _)) _ 1 _ (Nat.le_refl _)) _ 2 _ (Nat.le_refl _)⟩
      rw[hW5]
      have x0:=s5.cell 0 _ rfl
      have x1:=s5.cell 1 _ rfl
      have x2:=s5.cell 2 _ rfl
      refine bodyPost_ret (v:= .tuple #[.agg #[.string N, .slice none 0 0, .string R], .bool true]) (by simp[results,Tryz.results20,go_sem,x0,x1,x2]) rfl ⟨⟨_,N,R,rfl, ?_, ?_, ?_⟩,b5⟩
      ·rw[Hx.out,hLn]
      ·rw[Hx.out,hLa]
      ·rw[Hx.out];exact o5)
    ·skip
     have hR0:(L s).drop (k+1)=[]:=List.drop_of_length_le (by rw[L_len];omega)
     go_enter Tryz.func20,Tryz.ntmps20
     go_wp2_with (first
      |(go_at_call_of 19 (Value.string s);refine (c1 _).mono ?_;rintro e w1 ⟨rfl,rfl⟩)
      |(go_at_call_of 19 (Value.string p);refine (c2 _).mono ?_;rintro e w1 ⟨rfl,rfl⟩))
     obtain ⟨W3,hW3,s1,s0,oW,bW⟩:∃W3,((w.alloc (.cells #[.string ⟨#[]⟩, .slice none 0 0, .string ⟨#[]⟩] 47)).alloc (.cells #[.string N, .slice none 0 0, .string ⟨#[]⟩] 47))=W3∧Stands W3 (w.heap.size+1) #[.string N, .slice none 0 0, .string ⟨#[]⟩] 47∧Stands W3 w.heap.size #[.string ⟨#[]⟩, .slice none 0 0, .string ⟨#[]⟩] 47∧OwnU (w.heap.size+1+1) W3 (.slice none 0 0) []∧Below w.heap.size w W3:=
      ⟨_,rfl,by have:=stands_new (w.alloc (.cells #[.string ⟨#[]⟩, .slice none 0 0, .string ⟨#[]⟩] 47)) #[.string N, .slice none 0 0, .string ⟨#[]⟩] 47;rwa [size_al] at this,(stands_new w _ _).below (box_below _ _),World.ownsRow_nil _ _ _ _,below_trans (box_below w _) (box_below _ _)⟩
     rw[hW3]
     clear hW3
     have q0:=s1.cell 0 _ rfl
     have q1:=s1.cell 1 _ rfl
     have q2:=s1.cell 2 _ rfl
     have r0:=s0.cell 0 _ rfl
     have r1:=s0.cell 1 _ rfl
     have r2:=s0.cell 2 _ rfl
     have g0:=s0.free
     go_region_with (go_at_call 34;refine (cn _).mono ?_;rintro e w4 ⟨rfl,b4⟩;have s1':=(show Stands W3.drew _ _ _ from s1).below b4;have s0':=(show Stands W3.drew _ _ _ from s0).below b4;have q0':=s1'.cell 0 _ rfl;have q1':=s1'.cell 1 _ rfl;have q2':=s1'.cell 2 _ rfl;have r0':=s0'.cell 0 _ rfl;have r1':=s0'.cell 1 _ rfl;have r2':=s0'.cell 2 _ rfl;have g0':=s0'.free)
     all_goals (
      go_wp2_with fail
      obtain ⟨W5,hW5,s5,o5,b5⟩:∃W5,(((w4.setCell ⟨w.heap.size,0,none⟩ (.string N)).setCell ⟨w.heap.size,1,none⟩ (.slice none 0 0)).setCell ⟨w.heap.size,2,none⟩ (.string ⟨#[]⟩))=W5∧Stands W5 w.heap.size #[.string N, .slice none 0 0, .string ⟨#[]⟩] 47∧OwnU w.heap.size W5 (.slice none 0 0) []∧Below w.heap.size w W5:=
       ⟨_,rfl,((s0'.set 0 _).set 1 _).set 2 _,own_le (by omega) (own_other (own_other (own_other (own_below (show OwnU (w.heap.size+1+1) W3.drew _ _ from oW) b4) _ 0 _ (by omega)) _ 1 _ (by omega)) _ 2 _ (by omega)),below_set (below_set (below_set (below_trans (show Below w.heap.size w W3.drew from below_drewN bW 1) b4) _ 0 _ (Nat.le_refl _)) _ 1 _ (Nat.le_refl _)) _ 2 _ (Nat.le_refl _)⟩
      rw[hW5]
      have x0:=s5.cell 0 _ rfl
      have x1:=s5.cell 1 _ rfl
      have x2:=s5.cell 2 _ rfl
      refine bodyPost_ret (v:= .tuple #[.agg #[.string N, .slice none 0 0, .string ⟨#[]⟩], .bool true]) (by simp[results,Tryz.results20,go_sem,x0,x1,x2]) rfl ⟨⟨_,N,⟨#[]⟩,rfl, ?_, ?_, ?_⟩,b5⟩
      ·rw[Hx.out,hLn]
      ·rw[Hx.out];exact hR0.symm
      ·rw[Hx.out];exact o5)
  ·cases h
set_option maxHeartbeats 4000000 in
set_option maxRecDepth 100000 in
theorem w_rstep_no (s:ByteArray) (w:World) (hs:s.size≤140737488355328) (h:stepF (L s)=none):
  Calls Tryz.prog 20 #[.string s] w fun e w'=>(∃nm ao n cap ar,e= .returned (.tuple #[.agg #[.string nm, .slice ao n cap, .string ar], .bool false]))∧Below w.heap.size w w':=by
 have hm:s.size≤maxLen:=by unfold maxLen;omega
 have hk:=upTo_len 58 (L s)
 have hL1:=upTo_take 58 (L s)
 have c1:∀w,Calls Tryz.prog 19 #[.string s, .int .i64 0, .int .u8 58] w fun e w'=>e= .returned (.int .i64 (pcF (L s) 0 58))∧w'=w:=fun w=>w_place s 0 58 w hm (by omega) (by decide) (by decide)
 rw[pc0] at c1
 rw[L_len] at hk
 obtain ⟨k,hkk⟩:∃k,(upTo 58 (L s)).length=k:=⟨_,rfl⟩
 rw[hkk] at c1 hk hL1
 have hLp:L (s.extract 0 k)=upTo 58 (L s):=by rw[L_extract s 0 k hk];simpa using hL1
 have hps:(s.extract 0 k).size=k:=by rw[←L_len,hLp,hkk]
 have c2:∀w,Calls Tryz.prog 19 #[.string (s.extract 0 k), .int .i64 0, .int .u8 64] w fun e w'=>e= .returned (.int .i64 (pcF (L (s.extract 0 k)) 0 64))∧w'=w:=fun w=>w_place (s.extract 0 k) 0 64 w (by rw[hps];unfold maxLen;omega) (by omega) (by decide) (by decide)
 rw[pc0,hLp] at c2
 have ha:=upTo_len 64 (upTo 58 (L s))
 have hL2:=upTo_take 64 (upTo 58 (L s))
 unfold stepF at h
 rw[hkk] at h ha
 obtain ⟨a,haa⟩:∃a,(upTo 64 (upTo 58 (L s))).length=a:=⟨_,rfl⟩
 rw[haa] at h ha c2 hL2
 obtain ⟨p,hp⟩:∃p,s.extract 0 k=p:=⟨_,rfl⟩
 rw[hp] at hLp hps c2
 have hLn:L (p.extract 0 a)=upTo 64 (upTo 58 (L s)):=by rw[L_extract p 0 a (by omega),hLp];simpa using hL2
 have hLu:L (p.extract (a+1) p.size)=(upTo 58 (L s)).drop (a+1):=by rw[L_from,hLp]
 have hLa:L (s.extract (k+1) s.size)=(L s).drop (k+1):=L_from s (k+1)
 have hns:(p.extract 0 a).size=a:=by rw[←L_len,hLn,haa]
 have hus:(p.extract (a+1) p.size).size≤p.size:=by rw[←L_len,L_from,List.length_drop,L_len];omega
 have cn:=fun w=>w_rnamed (p.extract 0 a) w (by rw[hns];unfold maxLen;omega)
 rw[hLn] at cn
 have cu:=fun w=>w_rpunitO (p.extract (a+1) p.size) w (by omega)
 rw[hLu] at cu
 obtain ⟨N,hN⟩:∃N,p.extract 0 a=N:=⟨_,rfl⟩
 obtain ⟨R,hR⟩:∃R,s.extract (k+1) s.size=R:=⟨_,rfl⟩
 rw[hN] at cn hLn
 rw[hR] at hLa
 have z0:(0:Int)≤k:=by omega
 have z1:(k:Int)≤s.size:=by omega
 have y0:(0:Int)≤a:=by omega
 have y1:(a:Int)≤p.size:=by omega
 have hpI:(p.size:Int)=k:=by omega
 by_cases hbad:a < k∧¬(punF ((upTo 58 (L s)).drop (a+1))).2=0
 ·obtain ⟨hat,hE⟩:=hbad
  obtain ⟨u,E,hu⟩:∃u E,punF ((upTo 58 (L s)).drop (a+1))=(u,E):=⟨_,_,rfl⟩
  rw[hu] at cu hE
  have hEn:(E !=0)=true:=by simpa using hE
  obtain ⟨U,hU⟩:∃U,p.extract (a+1) p.size=U:=⟨_,rfl⟩
  rw[hU] at cu
  have y2:(a:Int)+1≤p.size:=by omega
  have y3:(0:Int)≤(a:Int)+1:=by omega
  have y4:(a:Int) < k:=by omega
  clear h hu hL1 hL2 hkk haa hLu hLp hps hns hus hat cn hE
  by_cases hc:(k:Int) < s.size
  ·
     have z2:(k:Int)+1≤s.size:=by omega
     have z3:(0:Int)≤(k:Int)+1:=by omega
     go_enter Tryz.func20,Tryz.ntmps20
     go_wp2_with (first
      |(go_at_call_of 19 (Value.string s);refine (c1 _).mono ?_;rintro e w1 ⟨rfl,rfl⟩)
      |(go_at_call_of 19 (Value.string p);refine (c2 _).mono ?_;rintro e w1 ⟨rfl,rfl⟩)
      |(go_at_call 33;refine (cu _).mono ?_;rintro e w2 ⟨v2,rfl,o2,b2⟩;refine Hid.out ?_))
     obtain ⟨ao,cap,rfl⟩:=own_form o2
     have t0:Stands w2 w.heap.size #[.string ⟨#[]⟩, .slice none 0 0, .string ⟨#[]⟩] 47:=((stands_new w _ _).below (box_below _ _)).below b2
     have m0:=t0.cell 0 _ rfl
     have m1:=t0.cell 1 _ rfl
     have m2:=t0.cell 2 _ rfl
     have f1:=t0.free
     refine hid ?_
     go_wp2_with fail
     obtain ⟨W5,hW5,s5,b5⟩:∃W5,(((w2.setCell ⟨w.heap.size,0,none⟩ (.string ⟨#[]⟩)).setCell ⟨w.heap.size,1,none⟩ (.slice none 0 0)).setCell ⟨w.heap.size,2,none⟩ (.string ⟨#[]⟩))=W5∧Stands W5 w.heap.size #[.string ⟨#[]⟩, .slice none 0 0, .string ⟨#[]⟩] 47∧Below w.heap.size w W5:=
      ⟨_,rfl,((t0.set 0 _).set 1 _).set 2 _,below_set (below_set (below_set (below_trans (below_trans (box_below w _) (box_below _ _)) b2) _ 0 _ (Nat.le_refl _)) _ 1 _ (Nat.le_refl _)) _ 2 _ (Nat.le_refl _)⟩
     rw[hW5]
     have x0:=s5.cell 0 _ rfl
     have x1:=s5.cell 1 _ rfl
     have x2:=s5.cell 2 _ rfl
     exact bodyPost_ret (v:= .tuple #[.agg #[.string ⟨#[]⟩, .slice none 0 0, .string ⟨#[]⟩], .bool false]) (by simp[results,Tryz.results20,go_sem,x0,x1,x2]) rfl ⟨⟨_,_,_,_,_,rfl⟩,b5⟩
  ·
     have hR0:(L s).drop (k+1)=[]:=List.drop_of_length_le (by rw[L_len];omega)
     go_enter Tryz.func20,Tryz.ntmps20
     go_wp2_with (first
      |(go_at_call_of 19 (Value.string s);refine (c1 _).mono ?_;rintro e w1 ⟨rfl,rfl⟩)
      |(go_at_call_of 19 (Value.string p);refine (c2 _).mono ?_;rintro e w1 ⟨rfl,rfl⟩)
      |(go_at_call 33;refine (cu _).mono ?_;rintro e w2 ⟨v2,rfl,o2,b2⟩;refine Hid.out ?_))
     obtain ⟨ao,cap,rfl⟩:=own_form o2
     have t0:Stands w2 w.heap.size #[.string ⟨#[]⟩, .slice none 0 0, .string ⟨#[]⟩] 47:=((stands_new w _ _).below (box_below _ _)).below b2
     have m0:=t0.cell 0 _ rfl
     have m1:=t0.cell 1 _ rfl
     have m2:=t0.cell 2 _ rfl
     have f1:=t0.free
     refine hid ?_
     go_wp2_with fail
     obtain ⟨W5,hW5,s5,b5⟩:∃W5,(((w2.setCell ⟨w.heap.size,0,none⟩ (.string ⟨#[]⟩)).setCell ⟨w.heap.size,1,none⟩ (.slice none 0 0)).setCell ⟨w.heap.size,2,none⟩ (.string ⟨#[]⟩))=W5∧Stands W5 w.heap.size #[.string ⟨#[]⟩, .slice none 0 0, .string ⟨#[]⟩] 47∧Below w.heap.size w W5:=
      ⟨_,rfl,((t0.set 0 _).set 1 _).set 2 _,below_set (below_set (below_set (below_trans (below_trans (box_below w _) (box_below _ _)) b2) _ 0 _ (Nat.le_refl _)) _ 1 _ (Nat.le_refl _)) _ 2 _ (Nat.le_refl _)⟩
     rw[hW5]
     have x0:=s5.cell 0 _ rfl
     have x1:=s5.cell 1 _ rfl
     have x2:=s5.cell 2 _ rfl
     exact bodyPost_ret (v:= .tuple #[.agg #[.string ⟨#[]⟩, .slice none 0 0, .string ⟨#[]⟩], .bool false]) (by simp[results,Tryz.results20,go_sem,x0,x1,x2]) rfl ⟨⟨_,_,_,_,_,rfl⟩,b5⟩
 ·rw[if_neg hbad] at h
  have h2:nmF (upTo 64 (upTo 58 (L s)))=false:=by
   cases e:nmF (upTo 64 (upTo 58 (L s)))
   ·rfl
   ·rw[if_pos e] at h;cases h
  rw[h2] at cn
  by_cases hat:a < k
  ·have hE:(punF ((upTo 58 (L s)).drop (a+1))).2=0:=by
    by_cases e:(punF ((upTo 58 (L s)).drop (a+1))).2=0
    ·exact e
    ·exact absurd ⟨hat,e⟩ hbad
   obtain ⟨u,E,hu⟩:∃u E,punF ((upTo 58 (L s)).drop (a+1))=(u,E):=⟨_,_,rfl⟩
   rw[hu] at cu hE
   obtain rfl:E=0:=hE
   obtain ⟨U,hU⟩:∃U,p.extract (a+1) p.size=U:=⟨_,rfl⟩
   rw[hU] at cu
   have y2:(a:Int)+1≤p.size:=by omega
   have y3:(0:Int)≤(a:Int)+1:=by omega
   have y4:(a:Int) < k:=by omega
   clear h hbad h2 hu hL1 hL2 hkk haa hLu hLp hps hns hus hat
   by_cases hc:(k:Int) < s.size
   ·
     have z2:(k:Int)+1≤s.size:=by omega
     have z3:(0:Int)≤(k:Int)+1:=by omega
     go_enter Tryz.func20,Tryz.ntmps20
     go_wp2_with (first
      |(go_at_call_of 19 (Value.string s);refine (c1 _).mono ?_;rintro e w1 ⟨rfl,rfl⟩)
      |(go_at_call_of 19 (Value.string p);refine (c2 _).mono ?_;rintro e w1 ⟨rfl,rfl⟩)
      |(go_at_call 33;refine (cu _).mono ?_;rintro e w2 ⟨v2,rfl,o2,b2⟩;refine Hid.out ?_))
     obtain ⟨ao,cap,rfl⟩:=own_form o2
     have t0:Stands w2 w.heap.size #[.string ⟨#[]⟩, .slice none 0 0, .string ⟨#[]⟩] 47:=((stands_new w _ _).below (box_below _ _)).below b2
     have t1:Stands w2 (w.heap.size+1) #[.string ⟨#[]⟩, .slice none 0 0, .string R] 47:=by
      have:=(stands_new (w.alloc (.cells #[.string ⟨#[]⟩, .slice none 0 0, .string ⟨#[]⟩] 47)) #[.string ⟨#[]⟩, .slice none 0 0, .string R] 47).below b2
      rwa [size_al] at this
     have m0:=t1.cell 0 _ rfl
     have m1:=t1.cell 1 _ rfl
     have m2:=t1.cell 2 _ rfl
     have f1:=t1.free
     have hgb:=b2.size
     rw[size_al,size_al] at o2 hgb
     refine hid ?_
     go_wp2_with fail
     obtain ⟨W3,hW3,s1,s0,oW,bW⟩:∃W3,((w2.setCell ⟨w.heap.size+1,1,none⟩ (.slice ao u.length cap)).setCell ⟨w.heap.size+1,0,none⟩ (.string N))=W3∧Stands W3 (w.heap.size+1) #[.string N, .slice ao u.length cap, .string R] 47∧Stands W3 w.heap.size #[.string ⟨#[]⟩, .slice none 0 0, .string ⟨#[]⟩] 47∧OwnU (w.heap.size+1+1) W3 (.slice ao u.length cap) u∧Below w.heap.size w W3:=
      ⟨_,rfl,(t1.set 1 _).set 0 _,(t0.other 1 _ (by omega)).other 0 _ (by omega),own_other (own_other o2 _ 1 _ (by omega)) _ 0 _ (by omega),below_set (below_set (below_trans (below_trans (box_below w _) (box_below _ _)) b2) _ 1 _ (by omega)) _ 0 _ (by omega)⟩
     rw[hW3]
     clear hW3 t0 t1 m0 m1 m2 f1 o2 b2 hgb
     have q0:=s1.cell 0 _ rfl
     have q1:=s1.cell 1 _ rfl
     have q2:=s1.cell 2 _ rfl
     have r0:=s0.cell 0 _ rfl
     have r1:=s0.cell 1 _ rfl
     have r2:=s0.cell 2 _ rfl
     have g0:=s0.free
     go_region_with (go_at_call 34;refine (cn _).mono ?_;rintro e w4 ⟨rfl,b4⟩;have s1':=(show Stands W3.drew _ _ _ from s1).below b4;have s0':=(show Stands W3.drew _ _ _ from s0).below b4;have q0':=s1'.cell 0 _ rfl;have q1':=s1'.cell 1 _ rfl;have q2':=s1'.cell 2 _ rfl;have r0':=s0'.cell 0 _ rfl;have r1':=s0'.cell 1 _ rfl;have r2':=s0'.cell 2 _ rfl;have g0':=s0'.free)
     all_goals (
      go_wp2_with fail
      obtain ⟨W5,hW5,s5,b5⟩:∃W5,(((w4.setCell ⟨w.heap.size,0,none⟩ (.string N)).setCell ⟨w.heap.size,1,none⟩ (.slice ao u.length cap)).setCell ⟨w.heap.size,2,none⟩ (.string R))=W5∧Stands W5 w.heap.size #[.string N, .slice ao u.length cap, .string R] 47∧Below w.heap.size w W5:=
       ⟨_,rfl,((s0'.set 0 _).set 1 _).set 2 _,below_set (below_set (below_set (below_trans (show Below w.heap.size w W3.drew from below_drewN bW 1) b4) _ 0 _ (Nat.le_refl _)) _ 1 _ (Nat.le_refl _)) _ 2 _ (Nat.le_refl _)⟩
      rw[hW5]
      have x0:=s5.cell 0 _ rfl
      have x1:=s5.cell 1 _ rfl
      have x2:=s5.cell 2 _ rfl
      exact bodyPost_ret (v:= .tuple #[.agg #[.string N, .slice ao u.length cap, .string R], .bool false]) (by simp[results,Tryz.results20,go_sem,x0,x1,x2]) rfl ⟨⟨_,_,_,_,_,rfl⟩,b5⟩)
   ·
     have hR0:(L s).drop (k+1)=[]:=List.drop_of_length_le (by rw[L_len];omega)
     go_enter Tryz.func20,Tryz.ntmps20
     go_wp2_with (first
      |(go_at_call_of 19 (Value.string s);refine (c1 _).mono ?_;rintro e w1 ⟨rfl,rfl⟩)
      |(go_at_call_of 19 (Value.string p);refine (c2 _).mono ?_;rintro e w1 ⟨rfl,rfl⟩)
      |(go_at_call 33;refine (cu _).mono ?_;rintro e w2 ⟨v2,rfl,o2,b2⟩;refine Hid.out ?_))
     obtain ⟨ao,cap,rfl⟩:=own_form o2
     have t0:Stands w2 w.heap.size #[.string ⟨#[]⟩, .slice none 0 0, .string ⟨#[]⟩] 47:=((stands_new w _ _).below (box_below _ _)).below b2
     have t1:Stands w2 (w.heap.size+1) #[.string ⟨#[]⟩, .slice none 0 0, .string ⟨#[]⟩] 47:=by
      have:=(stands_new (w.alloc (.cells #[.string ⟨#[]⟩, .slice none 0 0, .string ⟨#[]⟩] 47)) #[.string ⟨#[]⟩, .slice none 0 0, .string ⟨#[]⟩] 47).below b2
      rwa [size_al] at this
     have m0:=t1.cell 0 _ rfl
     have m1:=t1.cell 1 _ rfl
     have m2:=t1.cell 2 _ rfl
     have f1:=t1.free
     have hgb:=b2.size
     rw[size_al,size_al] at o2 hgb
     refine hid ?_
     go_wp2_with fail
     obtain ⟨W3,hW3,s1,s0,oW,bW⟩:∃W3,((w2.setCell ⟨w.heap.size+1,1,none⟩ (.slice ao u.length cap)).setCell ⟨w.heap.size+1,0,none⟩ (.string N))=W3∧Stands W3 (w.heap.size+1) #[.string N, .slice ao u.length cap, .string ⟨#[]⟩] 47∧Stands W3 w.heap.size #[.string ⟨#[]⟩, .slice none 0 0, .string ⟨#[]⟩] 47∧OwnU (w.heap.size+1+1) W3 (.slice ao u.length cap) u∧Below w.heap.size w W3:=
      ⟨_,rfl,(t1.set 1 _).set 0 _,(t0.other 1 _ (by omega)).other 0 _ (by omega),own_other (own_other o2 _ 1 _ (by omega)) _ 0 _ (by omega),below_set (below_set (below_trans (below_trans (box_below w _) (box_below _ _)) b2) _ 1 _ (by omega)) _ 0 _ (by omega)⟩
     rw[hW3]
     clear hW3 t0 t1 m0 m1 m2 f1 o2 b2 hgb
     have q0:=s1.cell 0 _ rfl
     have q1:=s1.cell 1 _ rfl
     have q2:=s1.cell 2 _ rfl
     have r0:=s0.cell 0 _ rfl
     have r1:=s0.cell 1 _ rfl
     have r2:=s0.cell 2 _ rfl
     have g0:=s0.free
     go_region_with (go_at_call 34;refine (cn _).mono ?_;rintro e w4 ⟨rfl,b4⟩;have s1':=(show Stands W3.drew _ _ _ from s1).below b4;have s0':=(show Stands W3.drew _ _ _ from s0).below b4;have q0':=s1'.cell 0 _ rfl;have q1':=s1'.cell 1 _ rfl;have q2':=s1'.cell 2 _ rfl;have r0':=s0'.cell 0 _ rfl;have r1':=s0'.cell 1 _ rfl;have r2':=s0'.cell 2 _ rfl;have g0':=s0'.free)
     all_goals (
      go_wp2_with fail
      obtain ⟨W5,hW5,s5,b5⟩:∃W5,(((w4.setCell ⟨w.heap.size,0,none⟩ (.string N)).setCell ⟨w.heap.size,1,none⟩ (.slice ao u.length cap)).setCell ⟨w.heap.size,2,none⟩ (.string ⟨#[]⟩))=W5∧Stands W5 w.heap.size #[.string N, .slice ao u.length cap, .string ⟨#[]⟩] 47∧Below w.heap.size w W5:=
       ⟨_,rfl,((s0'.set 0 _).set 1 _).set 2 _,below_set (below_set (below_set (below_trans (show Below w.heap.size w W3.drew from below_drewN bW 1) b4) _ 0 _ (Nat.le_refl _)) _ 1 _ (Nat.le_refl _)) _ 2 _ (Nat.le_refl _)⟩
      rw[hW5]
      have x0:=s5.cell 0 _ rfl
      have x1:=s5.cell 1 _ rfl
      have x2:=s5.cell 2 _ rfl
      exact bodyPost_ret (v:= .tuple #[.agg #[.string N, .slice ao u.length cap, .string ⟨#[]⟩], .bool false]) (by simp[results,Tryz.results20,go_sem,x0,x1,x2]) rfl ⟨⟨_,_,_,_,_,rfl⟩,b5⟩)
  ·have y4:¬(a:Int) < k:=by omega
   clear h hbad h2 hL1 hL2 hkk haa hLu hLp hps hns hus hat cu
   by_cases hc:(k:Int) < s.size
   ·
     have z2:(k:Int)+1≤s.size:=by omega
     have z3:(0:Int)≤(k:Int)+1:=by omega
     go_enter Tryz.func20,Tryz.ntmps20
     go_wp2_with (first
      |(go_at_call_of 19 (Value.string s);refine (c1 _).mono ?_;rintro e w1 ⟨rfl,rfl⟩)
      |(go_at_call_of 19 (Value.string p);refine (c2 _).mono ?_;rintro e w1 ⟨rfl,rfl⟩))
     obtain ⟨W3,hW3,s1,s0,oW,bW⟩:∃W3,((w.alloc (.cells #[.string ⟨#[]⟩, .slice none 0 0, .string ⟨#[]⟩] 47)).alloc (.cells #[.string N, .slice none 0 0, .string R] 47))=W3∧Stands W3 (w.heap.size+1) #[.string N, .slice none 0 0, .string R] 47∧Stands W3 w.heap.size #[.string ⟨#[]⟩, .slice none 0 0, .string ⟨#[]⟩] 47∧OwnU (w.heap.size+1+1) W3 (.slice none 0 0) []∧Below w.heap.size w W3:=
      ⟨_,rfl,by have:=stands_new (w.alloc (.cells #[.string ⟨#[]⟩, .slice none 0 0, .string ⟨#[]⟩] 47)) #[.string N, .slice none 0 0, .string R] 47;rwa [size_al] at this,(stands_new w _ _).below (box_below _ _),World.ownsRow_nil _ _ _ _,below_trans (box_below w _) (box_below _ _)⟩
     rw[hW3]
     clear hW3
     have q0:=s1.cell 0 _ rfl
     have q1:=s1.cell 1 _ rfl
     have q2:=s1.cell 2 _ rfl
     have r0:=s0.cell 0 _ rfl
     have r1:=s0.cell 1 _ rfl
     have r2:=s0.cell 2 _ rfl
     have g0:=s0.free
     go_region_with (go_at_call 34;refine (cn _).mono ?_;rintro e w4 ⟨rfl,b4⟩;have s1':=(show Stands W3.drew _ _ _ from s1).below b4;have s0':=(show Stands W3.drew _ _ _ from s0).below b4;have q0':=s1'.cell 0 _ rfl;have q1':=s1'.cell 1 _ rfl;have q2':=s1'.cell 2 _ rfl;have r0':=s0'.cell 0 _ rfl;have r1':=s0'.cell 1 _ rfl;have r2':=s0'.cell 2 _ rfl;have g0':=s0'.free)
     all_goals (
      go_wp2_with fail
      obtain ⟨W5,hW5,s5,b5⟩:∃W5,(((w4.setCell ⟨w.heap.size,0,none⟩ (.string N)).setCell ⟨w.heap.size,1,none⟩ (.slice none 0 0)).setCell ⟨w.heap.size,2,none⟩ (.string R))=W5∧Stands W5 w.heap.size #[.string N, .slice none 0 0, .string R] 47∧Below w.heap.size w W5:=
       ⟨_,rfl,((s0'.set 0 _).set 1 _).set 2 _,below_set (below_set (below_set (below_trans (show Below w.heap.size w W3.drew from below_drewN bW 1) b4) _ 0 _ (Nat.le_refl _)) _ 1 _ (Nat.le_refl _)) _ 2 _ (Nat.le_refl _)⟩
      rw[hW5]
      have x0:=s5.cell 0 _ rfl
      have x1:=s5.cell 1 _ rfl
      have x2:=s5.cell 2 _ rfl
      exact bodyPost_ret (v:= .tuple #[.agg #[.string N, .slice none 0 0, .string R], .bool false]) (by simp[results,Tryz.results20,go_sem,x0,x1,x2]) rfl ⟨⟨_,_,_,_,_,rfl⟩,b5⟩)
   ·
     have hR0:(L s).drop (k+1)=[]:=List.drop_of_length_le (by rw[L_len];omega)
     go_enter Tryz.func20,Tryz.ntmps20
     go_wp2_with (first
      |(go_at_call_of 19 (Value.string s);refine (c1 _).mono ?_;rintro e w1 ⟨rfl,rfl⟩)
      |(go_at_call_of 19 (Value.string p);refine (c2 _).mono ?_;rintro e w1 ⟨rfl,rfl⟩))
     obtain ⟨W3,hW3,s1,s0,oW,bW⟩:∃W3,((w.alloc (.cells #[.string ⟨#[]⟩, .slice none 0 0, .string ⟨#[]⟩] 47)).alloc (.cells #[.string N, .slice none 0 0, .string ⟨#[]⟩] 47))=W3∧Stands W3 (w.heap.size+1) #[.string N, .slice none 0 0, .string ⟨#[]⟩] 47∧Stands W3 w.heap.size #[.string ⟨#[]⟩, .slice none 0 0, .string ⟨#[]⟩] 47∧OwnU (w.heap.size+1+1) W3 (.slice none 0 0) []∧Below w.heap.size w W3:=
      ⟨_,rfl,by have:=stands_new (w.alloc (.cells #[.string ⟨#[]⟩, .slice none 0 0, .string ⟨#[]⟩] 47)) #[.string N, .slice none 0 0, .string ⟨#[]⟩] 47;rwa [size_al] at this,(stands_new w _ _).below (box_below _ _),World.ownsRow_nil _ _ _ _,below_trans (box_below w _) (box_below _ _)⟩
     rw[hW3]
     clear hW3
     have q0:=s1.cell 0 _ rfl
     have q1:=s1.cell 1 _ rfl
     have q2:=s1.cell 2 _ rfl
     have r0:=s0.cell 0 _ rfl
     have r1:=s0.cell 1 _ rfl
     have r2:=s0.cell 2 _ rfl
     have g0:=s0.free
     go_region_with (go_at_call 34;refine (cn _).mono ?_;rintro e w4 ⟨rfl,b4⟩;have s1':=(show Stands W3.drew _ _ _ from s1).below b4;have s0':=(show Stands W3.drew _ _ _ from s0).below b4;have q0':=s1'.cell 0 _ rfl;have q1':=s1'.cell 1 _ rfl;have q2':=s1'.cell 2 _ rfl;have r0':=s0'.cell 0 _ rfl;have r1':=s0'.cell 1 _ rfl;have r2':=s0'.cell 2 _ rfl;have g0':=s0'.free)
     all_goals (
      go_wp2_with fail
      obtain ⟨W5,hW5,s5,b5⟩:∃W5,(((w4.setCell ⟨w.heap.size,0,none⟩ (.string N)).setCell ⟨w.heap.size,1,none⟩ (.slice none 0 0)).setCell ⟨w.heap.size,2,none⟩ (.string ⟨#[]⟩))=W5∧Stands W5 w.heap.size #[.string N, .slice none 0 0, .string ⟨#[]⟩] 47∧Below w.heap.size w W5:=
       ⟨_,rfl,((s0'.set 0 _).set 1 _).set 2 _,below_set (below_set (below_set (below_trans (show Below w.heap.size w W3.drew from below_drewN bW 1) b4) _ 0 _ (Nat.le_refl _)) _ 1 _ (Nat.le_refl _)) _ 2 _ (Nat.le_refl _)⟩
      rw[hW5]
      have x0:=s5.cell 0 _ rfl
      have x1:=s5.cell 1 _ rfl
      have x2:=s5.cell 2 _ rfl
      exact bodyPost_ret (v:= .tuple #[.agg #[.string N, .slice none 0 0, .string ⟨#[]⟩], .bool false]) (by simp[results,Tryz.results20,go_sem,x0,x1,x2]) rfl ⟨⟨_,_,_,_,_,rfl⟩,b5⟩)
end Go.Proofs.YtlokhciaaepenaaGreatDoor
