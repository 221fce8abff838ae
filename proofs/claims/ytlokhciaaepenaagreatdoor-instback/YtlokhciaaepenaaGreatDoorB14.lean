import Derived.Deep.RegionHeld
import Derived.Test.YtlokhciaaepenaaGreatDoorProg
import Derived.WalkKit
import Derived.Test.YtlokhciaaepenaaGreatDoorB13
set_option linter.unusedVariables false
set_option linter.unusedSimpArgs false
set_option maxRecDepth 100000
namespace Go.Proofs.YtlokhciaaepenaaGreatDoor
open Go.ChangeShapes Go.WideShapes Go.ChangeAt Go.RowKit
def OwO (base:Nat) (w:World) (v:Value) (l:List Opd):Prop:=OwnR 118 2 opR base w v l
def wrdO (base:Nat) (w:World) (cs:List Value) (x:Wd):Prop:=∃vc,cs=[.string (strOfNums x.1), .int .i64 x.2.1, .int .i64 x.2.2.1, .int .u32 x.2.2.2.1,vc]∧OwO base w vc x.2.2.2.2
def insO (base:Nat) (w:World) (cs:List Value) (x:Iz):Prop:=∃vc,cs=[.int .i64 x.1, .int .i64 x.2.1, .string (strOfNums x.2.2.1),vc]∧w.ownsRow base 26 1 vc x.2.2.2.length (x.2.2.2.map (Value.int .u32))
theorem opR_apt {T:TypeId}:Apt T opR:=fun _ _ _ _ _ h=>h
theorem OwO.read {base:Nat} {w:World} {v:Value} {l:List Opd} (h:OwO base w v l):RdO w v l:=OwnR.read (by decide) h (fun _ _ x=>x)
theorem OwO.kept {base:Nat} {T:TypeId} {w w':World} {v:Value} {l:List Opd} (h:OwO base w v l) (k:Kept T w w') (hne:¬118=T):OwO base w' v l:=OwnR.kept h k hne opR_apt
theorem OwO.below {base:Nat} {w w':World} {v:Value} {l:List Opd} (h:OwO base w v l) (g:Below w.heap.size w w'):OwO base w' v l:=OwnR.below h g (fun _ _ x=>x)
theorem OwO.le {b b':Nat} {w:World} {v:Value} {l:List Opd} (hb:b≤b') (h:OwO b' w v l):OwO b w v l:=OwnR.le hb h (fun _ _ x=>x)
theorem wrdO_R {base:Nat} {w:World} (cs:List Value) (x:Wd) (h:wrdO base w cs x):wrdR w cs x:=by
 obtain ⟨v,h1,h2⟩:=h
 exact ⟨v,h1,h2.read⟩
theorem wrdO_apt {base:Nat} {T:TypeId} (h:¬118=T):Apt T (wrdO base):=by
 rintro w w' cs x k ⟨v,h1,h2⟩
 exact ⟨v,h1,h2.kept k h⟩
theorem wrdO_below {base:Nat} {w w':World} (g:Below w.heap.size w w') (cs:List Value) (x:Wd) (h:wrdO base w cs x):wrdO base w' cs x:=by
 obtain ⟨v,h1,h2⟩:=h
 exact ⟨v,h1,h2.below g⟩
theorem wrdO_le {b b':Nat} {w:World} (hb:b≤b') (cs:List Value) (x:Wd) (h:wrdO b' w cs x):wrdO b w cs x:=by
 obtain ⟨v,h1,h2⟩:=h
 exact ⟨v,h1,h2.le hb⟩
theorem insO_R {base:Nat} {w:World} (cs:List Value) (x:Iz) (h:insO base w cs x):insR w cs x:=by
 obtain ⟨v,h1,h2⟩:=h
 exact ⟨v,h1,(Rd_own h2).1⟩
theorem insO_apt {base:Nat} {T:TypeId} (h:¬26=T):Apt T (insO base):=by
 rintro w w' cs x k ⟨v,h1,h2⟩
 exact ⟨v,h1,own_kept k h h2⟩
theorem insO_below {base:Nat} {w w':World} (g:Below w.heap.size w w') (cs:List Value) (x:Iz) (h:insO base w cs x):insO base w' cs x:=by
 obtain ⟨v,h1,h2⟩:=h
 exact ⟨v,h1,own_below h2 g⟩
theorem insO_le {b b':Nat} {w:World} (hb:b≤b') (cs:List Value) (x:Iz) (h:insO b' w cs x):insO b w cs x:=by
 obtain ⟨v,h1,h2⟩:=h
 exact ⟨v,h1,own_le hb h2⟩
def OwW (base:Nat) (w:World) (v:Value) (l:List Wd):Prop:=OwnR 34 5 (wrdO base) base w v l
def OwI (base:Nat) (w:World) (v:Value) (l:List Iz):Prop:=OwnR 43 4 (insO base) base w v l
structure OwM (base:Nat) (w:World) (v:Mv) (m:Mc) (o:ByteArray):Prop where
 stack:w.ownsRow base 26 1 v.vs m.stack.length (m.stack.map (Value.int .u32))
 mem:w.ownsRow base 5 1 v.vm m.mem.length (m.mem.map (Value.int .u8))
 words:OwW base w v.vw m.words
 codes:w.ownsRow base 3 1 v.vc m.codes.length (m.codes.map (Value.int .i64))
 tree:OwnT8 base w v.vt m.tree
 insts:OwI base w v.vi m.insts
 out:strOfNums m.out=o
theorem OwM.read {base:Nat} {w:World} {v:Mv} {m:Mc} {o:ByteArray} (h:OwM base w v m o):RdM w v m o:=
 ⟨(Rd_own h.stack).1,(Rd_own h.mem).1,OwnR.read (by decide) h.words wrdO_R,(Rd_own h.codes).1,ownT8_read h.tree,OwnR.read (by decide) h.insts insO_R,h.out⟩
theorem OwM.below {base:Nat} {w w':World} {v:Mv} {m:Mc} {o:ByteArray} (h:OwM base w v m o) (g:Below w.heap.size w w'):OwM base w' v m o:=
 ⟨own_below h.stack g,own_below h.mem g,OwnR.below h.words g (wrdO_below g),own_below h.codes g,h.tree.below g,OwnR.below h.insts g (insO_below g),h.out⟩
theorem OwM.le {b b':Nat} {w:World} {v:Mv} {m:Mc} {o:ByteArray} (hb:b≤b') (h:OwM b' w v m o):OwM b w v m o:=
 ⟨own_le hb h.stack,own_le hb h.mem,OwnR.le hb h.words (wrdO_le hb),own_le hb h.codes,OwnT8.le hb h.tree,OwnR.le hb h.insts (insO_le hb),h.out⟩
theorem infoWd:(Tryz.prog.info? 34).map (fun i=>(i.zero,i.size,i.bytes))=some (some (.agg #[.string ⟨#[]⟩, .int .i64 0, .int .i64 0, .int .u32 0, .slice none 0 0]),5,64):=by kernel_rfl
theorem infoIz:(Tryz.prog.info? 43).map (fun i=>(i.zero,i.size,i.bytes))=some (some (.agg #[.int .i64 0, .int .i64 0, .string ⟨#[]⟩, .slice none 0 0]),4,56):=by kernel_rfl
theorem OwM.kept {base:Nat} {T:TypeId} {w w':World} {v:Mv} {m:Mc} {o:ByteArray} (h:OwM base w v m o) (k:Kept T w w') (h8:¬5=T) (h32:¬26=T) (hp:¬92=T) (hn:¬51=T) (hi:¬3=T) (hw:¬34=T) (ho:¬118=T) (hx:¬43=T):OwM base w' v m o:=
 ⟨own_kept k h32 h.stack,own_kept k h8 h.mem,OwnR.kept h.words k hw (wrdO_apt ho),own_kept k hi h.codes,OwnR.kept h.tree k hn (nodO_apt h8 h32 hp),OwnR.kept h.insts k hx (insO_apt h32),h.out⟩
theorem infoOp9:(Tryz.prog.info? 118).map (fun i=>(i.zero,i.size,i.bytes))=some (some (.agg #[.int .i64 0, .int .u32 0]),2,16):=by kernel_rfl
theorem infoWd9:(Tryz.prog.info? 34).map (fun i=>(i.zero,i.size,i.bytes))=some (some (.agg #[.string ⟨#[]⟩, .int .i64 0, .int .i64 0, .int .u32 0, .slice none 0 0]),5,64):=by kernel_rfl
theorem infoIz9:(Tryz.prog.info? 43).map (fun i=>(i.zero,i.size,i.bytes))=some (some (.agg #[.int .i64 0, .int .i64 0, .string ⟨#[]⟩, .slice none 0 0]),4,56):=by kernel_rfl
theorem infoI64:(Tryz.prog.info? 3).map (fun i=>(i.zero,i.size,i.bytes))=some (some (.int .i64 0),1,8):=by kernel_rfl
set_option maxHeartbeats 1000000 in
theorem w_pcloneW (v:Value) (rows:List (List Value)) (w:World) (h:SlC 5 w v rows) (h1:∀r∈rows,∀u∈r,u.oneCell'=true) (hb:rows.length*64≤140737488355328):
  Calls Tryz.prog 59 #[v] w fun e w'=>∃v',e= .returned v'∧w'.ownsRow w.heap.size 34 5 v' rows.length rows.flatten∧Below w.heap.size w w':=by
 obtain ⟨i0,hi,hz0,hz1,hz2⟩:=info_parts infoWd9
 obtain ⟨ao,cap,rfl,hc,hn,hx⟩:=h.form
 cases ao with
 |none=>
  have hc0:=hn rfl
  have hl:rows=[]:=List.eq_nil_of_length_eq_zero (by omega)
  subst hl
  subst hc0
  show Calls _ _ #[.slice none 0 0] _ _
  have q:=Lib.run_eql_slice_nil (P:=Tryz.prog) w 24 34 none 0 0 0 0 Tryz.underlying24
  go_enter Tryz.func59,Tryz.ntmps59
  go_wp2_with fail
  go_ret
  exact ⟨_,rfl,World.ownsRow_nil _ _ _ _,Below.refl _ _⟩
 |some a=>
  have q:=Lib.run_eql_slice_nil (P:=Tryz.prog) w 24 34 (some a) rows.length cap 0 0 Tryz.underlying24
  have ha:=h.below (box_below w (.cells #[] 34))
  go_enter Tryz.func59,Tryz.ntmps59
  go_wp2_with (at_builtin;refine wpList_append_rows rfl _ _ 24 rfl w.heap.size 34 i0 _ 5 64 Tryz.underlying24 hi hz0 hz1 hz2 rfl (by decide) _ 0 [] rfl (World.ownsRow_made w #[] 0 (Nat.le_refl _) (Nat.zero_le _) rfl) _ rows rfl ha h1 (by unfold maxLen;omega) (by omega) (by simp) ?_;intro v5 w5 ho5 hg5)
  go_ret
  exact ⟨v5,rfl,by simpa using ho5,below_grown (box_below w _) hg5 (fun k hk=>by simp[Value.ownBlock,Act.eval] at hk;omega)⟩
set_option maxHeartbeats 1000000 in
theorem w_pcloneO (v:Value) (rows:List (List Value)) (w:World) (h:SlC 2 w v rows) (h1:∀r∈rows,∀u∈r,u.oneCell'=true) (hb:rows.length*16≤140737488355328):
  Calls Tryz.prog 60 #[v] w fun e w'=>∃v',e= .returned v'∧w'.ownsRow w.heap.size 118 2 v' rows.length rows.flatten∧Below w.heap.size w w':=by
 obtain ⟨i0,hi,hz0,hz1,hz2⟩:=info_parts infoOp9
 obtain ⟨ao,cap,rfl,hc,hn,hx⟩:=h.form
 cases ao with
 |none=>
  have hc0:=hn rfl
  have hl:rows=[]:=List.eq_nil_of_length_eq_zero (by omega)
  subst hl
  subst hc0
  show Calls _ _ #[.slice none 0 0] _ _
  have q:=Lib.run_eql_slice_nil (P:=Tryz.prog) w 32 118 none 0 0 0 0 Tryz.underlying32
  go_enter Tryz.func60,Tryz.ntmps60
  go_wp2_with fail
  go_ret
  exact ⟨_,rfl,World.ownsRow_nil _ _ _ _,Below.refl _ _⟩
 |some a=>
  have q:=Lib.run_eql_slice_nil (P:=Tryz.prog) w 32 118 (some a) rows.length cap 0 0 Tryz.underlying32
  have ha:=h.below (box_below w (.cells #[] 118))
  go_enter Tryz.func60,Tryz.ntmps60
  go_wp2_with (at_builtin;refine wpList_append_rows rfl _ _ 32 rfl w.heap.size 118 i0 _ 2 16 Tryz.underlying32 hi hz0 hz1 hz2 rfl (by decide) _ 0 [] rfl (World.ownsRow_made w #[] 0 (Nat.le_refl _) (Nat.zero_le _) rfl) _ rows rfl ha h1 (by unfold maxLen;omega) (by omega) (by simp) ?_;intro v5 w5 ho5 hg5)
  go_ret
  exact ⟨v5,rfl,by simpa using ho5,below_grown (box_below w _) hg5 (fun k hk=>by simp[Value.ownBlock,Act.eval] at hk;omega)⟩
set_option maxHeartbeats 1000000 in
theorem w_pcloneI (v:Value) (rows:List (List Value)) (w:World) (h:SlC 4 w v rows) (h1:∀r∈rows,∀u∈r,u.oneCell'=true) (hb:rows.length*56≤140737488355328):
  Calls Tryz.prog 63 #[v] w fun e w'=>∃v',e= .returned v'∧w'.ownsRow w.heap.size 43 4 v' rows.length rows.flatten∧Below w.heap.size w w':=by
 obtain ⟨i0,hi,hz0,hz1,hz2⟩:=info_parts infoIz9
 obtain ⟨ao,cap,rfl,hc,hn,hx⟩:=h.form
 cases ao with
 |none=>
  have hc0:=hn rfl
  have hl:rows=[]:=List.eq_nil_of_length_eq_zero (by omega)
  subst hl
  subst hc0
  show Calls _ _ #[.slice none 0 0] _ _
  have q:=Lib.run_eql_slice_nil (P:=Tryz.prog) w 28 43 none 0 0 0 0 Tryz.underlying28
  go_enter Tryz.func63,Tryz.ntmps63
  go_wp2_with fail
  go_ret
  exact ⟨_,rfl,World.ownsRow_nil _ _ _ _,Below.refl _ _⟩
 |some a=>
  have q:=Lib.run_eql_slice_nil (P:=Tryz.prog) w 28 43 (some a) rows.length cap 0 0 Tryz.underlying28
  have ha:=h.below (box_below w (.cells #[] 43))
  go_enter Tryz.func63,Tryz.ntmps63
  go_wp2_with (at_builtin;refine wpList_append_rows rfl _ _ 28 rfl w.heap.size 43 i0 _ 4 56 Tryz.underlying28 hi hz0 hz1 hz2 rfl (by decide) _ 0 [] rfl (World.ownsRow_made w #[] 0 (Nat.le_refl _) (Nat.zero_le _) rfl) _ rows rfl ha h1 (by unfold maxLen;omega) (by omega) (by simp) ?_;intro v5 w5 ho5 hg5)
  go_ret
  exact ⟨v5,rfl,by simpa using ho5,below_grown (box_below w _) hg5 (fun k hk=>by simp[Value.ownBlock,Act.eval] at hk;omega)⟩
set_option maxHeartbeats 1000000 in
theorem w_pcloneJ (v:Value) (xs:List Int) (w:World) (h:Rd .i64 w v xs) (hb:xs.length*8≤140737488355328):
  Calls Tryz.prog 61 #[v] w fun e w'=>∃v',e= .returned v'∧w'.ownsRow w.heap.size 3 1 v' xs.length (xs.map (Value.int .i64))∧Below w.heap.size w w':=by
 obtain ⟨i0,hi,hz0,hz1,hz2⟩:=info_parts infoI64
 obtain ⟨ao,cap,rfl,hc,hn,hx⟩:=rd_form h
 cases ao with
 |none=>
  have hc0:=hn rfl
  have hl:xs=[]:=List.eq_nil_of_length_eq_zero (by omega)
  subst hl
  subst hc0
  show Calls _ _ #[.slice none 0 0] _ _
  have q:=Lib.run_eql_slice_nil (P:=Tryz.prog) w 25 3 none 0 0 0 0 Tryz.underlying25
  go_enter Tryz.func61,Tryz.ntmps61
  go_wp2_with fail
  go_ret
  exact ⟨_,rfl,World.ownsRow_nil _ _ _ _,Below.refl _ _⟩
 |some a=>
  have q:=Lib.run_eql_slice_nil (P:=Tryz.prog) w 25 3 (some a) xs.length cap 0 0 Tryz.underlying25
  have ha:=h.below (box_below w (.cells #[] 3))
  go_enter Tryz.func61,Tryz.ntmps61
  go_wp2_with (at_builtin;refine wpList_append_rd (k:= .i64) rfl _ _ 25 rfl w.heap.size 3 i0 8 Tryz.underlying25 hi hz0 hz1 hz2 _ [] rfl (World.ownsRow_made w #[] 0 (Nat.le_refl _) (Nat.zero_le _) rfl) _ xs rfl ha (by unfold maxLen;simp;omega) (by simp;omega) (by simp) ?_;intro v5 w5 ho5 hg5)
  go_ret
  exact ⟨v5,rfl,by simpa using ho5,below_grown (box_below w _) hg5 (fun k hk=>by simp[Value.ownBlock,Act.eval] at hk;omega)⟩
theorem frm_siz {t:List Nd} (hf:frmT t=true):t.length≤32∧∀x∈t,sizN x:=by
 obtain ⟨g0,g1,g2,g3⟩:=(frm_iff t).1 hf
 refine ⟨g1,fun x hx=> ?_⟩
 obtain ⟨i,hi,rfl⟩:=List.getElem_of_mem hx
 have h:=g3 i hi
 unfold okN at h
 simp only[Bool.and_eq_true,Bool.or_eq_true,decide_eq_true_eq] at h
 obtain ⟨h1,h2,h3,h4⟩:=h
 have hu:t[i].2.1.length≤4:=by
  rcases h1 with h1|h1
  ·subst h1
   unfold rootF at g2
   simp only[Bool.and_eq_true,decide_eq_true_eq] at g2
   rw[g2.2.1]
   simp
  ·unfold okA at h1
   simp only[Bool.and_eq_true,decide_eq_true_eq] at h1
   omega
 refine ⟨by omega,by omega,by omega,fun p hp=> ?_⟩
 have:=(((okR_iff _).1 h4).1 p hp).2
 omega
set_option maxHeartbeats 1000000 in
theorem w_r8new (w:World):Calls Tryz.prog 47 #[] w fun e w'=>∃v,e= .returned v∧OwnT8 w.heap.size w' v [([],[], -1,[],[])]∧Below w.heap.size w w':=by
 go_enter Tryz.func47,Tryz.ntmps47
 go_wp2_with fail
 go_ret
 refine ⟨_,rfl, ?_,box_below _ _⟩
 refine ⟨[[.string ⟨#[]⟩, .slice none 0 0, .int .i64 (-1), .slice none 0 0, .slice none 0 0]],rfl,by simp,⟨rfl,Or.inr ⟨w.heap.size,1,#[.string ⟨#[]⟩, .slice none 0 0, .int .i64 (-1), .slice none 0 0, .slice none 0 0],rfl,Nat.le_refl _,heap_alloc_new w _,Nat.le_refl _,by decide,rfl,rfl⟩⟩,fun i hi=> ?_⟩
 have:i=0:=by simp at hi;omega
 subst this
 exact ⟨_,_,_,rfl,World.ownsRow_nil _ _ _ _,OwnR.nil _ _ _ _ _,World.ownsRow_nil _ _ _ _⟩
set_option maxHeartbeats 4000000 in
set_option maxRecDepth 100000 in
theorem w_r8add (v:Value) (t:List Nd) (p:Int) (s:ByteArray) (vu:Value) (un:List Int) (w:World) (h:RdT w v t) (hu:Rd .u32 w vu un) (bt:∀x∈t,bytN x) (ls:∀x∈t,lenN x) (hs:s.size≤maxLen):
  Calls Tryz.prog 27 #[v, .int .i64 p, .string s,vu] w fun e w'=>∃v1,e= .returned (.tuple #[v1, .int .i64 (addF t p (L s) un).2.1, .int .i64 (addF t p (L s) un).2.2])∧OwnT8 w.heap.size w' v1 (addF t p (L s) un).1∧Below w.heap.size w w':=by
 have hla:=slr_len h uN (P:=Tryz.prog)
 have hlu:=rd_len hu uU (P:=Tryz.prog)
 have hm:=slr_max h
 unfold maxLen at hm
 obtain ⟨i0,hi0,hz0,hz1,hz2⟩:=info_parts infoNode
 obtain ⟨A,M,E,hA⟩:∃A M E,addF t p (L s) un=(A,M,E):=⟨_,_,_,rfl⟩
 rw[hA]
 show Calls _ _ _ _ fun e w'=>∃v1,e= .returned (.tuple #[v1, .int .i64 M, .int .i64 E])∧OwnT8 w.heap.size w' v1 A∧_
 have HA:=hid hA
 clear hA
 have cw:=w_r8wrong v t p w h bt ls
 by_cases hw:wrgF t p=0
 ·rw[hw] at cw
  have hfr:frmT t=true∧0≤p∧p < t.length:=by
   unfold wrgF at hw
   split at hw
   ·cases hw
   ·rename_i g1
    split at hw
    ·cases hw
    ·rename_i g2
     have g1:frmT t=true:=by simpa using g1
     exact ⟨g1,by omega,by omega⟩
  obtain ⟨hf,hp0,hp1⟩:=hfr
  obtain ⟨hl32,hsz⟩:=frm_siz hf
  have hadd:addF t p (L s) un=if nmF (L s)=false∨4 < un.length then (([]:List Nd),(0:Int),(1:Int)) else if twF t p (L s) un=true then ([],0,20) else if 32≤t.length then ([],0,22) else (t++[(L s,un,p,[],[])],t.length,0):=by
   unfold addF
   rw[if_neg (by simp[hf]),if_neg (by omega)]
  have HD:=hid hadd
  have cn:=fun w'=>w_rnamed s w' hs
  have ct:=fun w' (g:Below w.heap.size w w')=>w_r8twin v t t.length p s vu un w' (h.below g) (hu.below g) bt (Nat.le_refl _)
  simp only[List.take_length] at ct
  clear hadd hw
  cases hnm:nmF (L s)
  ·simp only[hnm] at cn
   have e:Hid (addF t p (L s) un=([],0,1)):=by show _=_;rw[HD.out,if_pos (Or.inl hnm)]
   clear HD hnm ct
   go_enter Tryz.func27,Tryz.ntmps27
   go_wp2_with (first
    |(go_at_call 49;refine cw.mono ?_;rintro e w1 ⟨rfl,b1⟩)
    |(go_at_call 34;refine (cn _).mono ?_;rintro e w2 ⟨rfl,b2⟩))
   go_ret3
   obtain ⟨rfl,h2⟩:=Prod.mk.inj (HA.out.symm.trans e.out)
   obtain ⟨rfl,rfl⟩:=Prod.mk.inj h2
   exact ⟨_,rfl,OwnR.nil _ _ _ _ _,below_trans b1 b2⟩
  ·simp only[hnm] at cn
   by_cases h4:(4:Int) < un.length
   ·have e:Hid (addF t p (L s) un=([],0,1)):=by show _=_;rw[HD.out,if_pos (Or.inr (by omega))]
    clear HD hnm ct
    go_enter Tryz.func27,Tryz.ntmps27
    go_wp2_with (first
     |(go_at_call 49;refine cw.mono ?_;rintro e w1 ⟨rfl,b1⟩)
     |(go_at_call 34;refine (cn _).mono ?_;rintro e w2 ⟨rfl,b2⟩))
    go_ret3
    obtain ⟨rfl,h2⟩:=Prod.mk.inj (HA.out.symm.trans e.out)
    obtain ⟨rfl,rfl⟩:=Prod.mk.inj h2
    exact ⟨_,rfl,OwnR.nil _ _ _ _ _,below_trans b1 b2⟩
   ·have HD2:Hid (addF t p (L s) un=if twF t p (L s) un=true then (([]:List Nd),(0:Int),(20:Int)) else if 32≤t.length then ([],0,22) else (t++[(L s,un,p,[],[])],t.length,0)):=by
     show _=_
     rw[HD.out,if_neg (by rw[hnm];simp;omega)]
    clear HD hnm
    cases htw:twF t p (L s) un
    ·simp only[htw] at ct
     by_cases h32:(32:Int)≤t.length
     ·have e:Hid (addF t p (L s) un=([],0,22)):=by show _=_;rw[HD2.out,htw,if_neg (by simp),if_pos (by omega)]
      clear HD2 htw
      go_enter Tryz.func27,Tryz.ntmps27
      go_wp2_with (first
       |(go_at_call 49;refine cw.mono ?_;rintro e w1 ⟨rfl,b1⟩)
       |(go_at_call 34;refine (cn _).mono ?_;rintro e w2 ⟨rfl,b2⟩;have g2:=below_trans b1 b2)
       |(go_at_call 41;refine (ct _ g2).mono ?_;rintro e w3 ⟨rfl,d3⟩))
      go_ret3
      obtain ⟨rfl,h2⟩:=Prod.mk.inj (HA.out.symm.trans e.out)
      obtain ⟨rfl,rfl⟩:=Prod.mk.inj h2
      exact ⟨_,rfl,OwnR.nil _ _ _ _ _,below_trans g2 (dr_below d3)⟩
     ·have e:Hid (addF t p (L s) un=(t++[(L s,un,p,[],[])],(t.length:Int),(0:Int))):=by show _=_;rw[HD2.out,htw,if_neg (by simp),if_neg (by omega)]
      have cc:=fun w' (g:Below w.heap.size w w')=>w_r8copy v t w' (h.below g) (by omega) hsz
      have cu:=fun w' (g:Below w.heap.size w w')=>w_r3copy vu un w' (hu.below g) (by unfold maxLen;omega) (by omega)
      clear HD2 htw
      go_enter Tryz.func27,Tryz.ntmps27
      go_wp2_with (first
       |(go_at_call 49;refine cw.mono ?_;rintro e w1 ⟨rfl,b1⟩)
       |(go_at_call 34;refine (cn _).mono ?_;rintro e w2 ⟨rfl,b2⟩;have g2:=below_trans b1 b2)
       |(go_at_call 41;refine (ct _ g2).mono ?_;rintro e w3 ⟨rfl,d3⟩;have g3:=below_trans g2 (dr_below d3))
       |(go_at_call 50;refine (cc _ g3).mono ?_;rintro e w4 ⟨vT,rfl,oT,b4⟩;have g4:=below_trans g3 b4)
       |(go_at_call 51;refine (cu _ g4).mono ?_;rintro e w5 ⟨vU,rfl,oU,b5⟩;obtain ⟨ua,uc,rfl⟩:=own_form oU;refine Hid.out ?_))
      have g5:=below_trans g4 b5
      have bX:=box_below w5 (.cells #[.string s, .slice ua un.length uc, .int .i64 p, .slice none 0 0, .slice none 0 0] 51)
      have hx:nodO w.heap.size (w5.alloc (.cells #[.string s, .slice ua un.length uc, .int .i64 p, .slice none 0 0, .slice none 0 0] 51)) [Value.string s, .slice ua un.length uc, .int .i64 p, .slice none 0 0, .slice none 0 0] (L s,un,p,[],[]):=⟨_,_,_,by rw[show strOfNums (L s)=s from nums_LB s],World.ownsRow.alloc (own_le g4.size oU) _,OwnR.nil _ _ _ _ _,World.ownsRow_nil _ _ _ _⟩
      obtain ⟨rows,q1,q2,q3,q4⟩:=OwnT8.below (OwnT8.below (OwnT8.le g3.size oT.own) b5) bX
      have g6:=below_trans g5 bX
      refine hid ?_
      go_wp2_with (at_builtin;refine wpList_append_rows rfl _ _ 27 rfl w.heap.size 51 i0 _ 5 96 Tryz.underlying27 hi0 hz0 hz1 hz2 rfl (by decide) vT t.length _ rfl q3 _ [[Value.string s, .slice ua un.length uc, .int .i64 p, .slice none 0 0, .slice none 0 0]] rfl (slc_one w5 [Value.string s, .slice ua un.length uc, .int .i64 p, .slice none 0 0, .slice none 0 0] 51 5 rfl) (one5 _ _ _ _ _ _ _ _ _ _ _) (by unfold maxLen;simp only[List.length_singleton];omega) (by simp only[List.length_singleton];omega) g6.size ?_;intro v9 w9 ho9 hg9)
      have oT9:=OwnR.snoc (nodO_apt (by decide) (by decide) (by decide)) q1 q2 q3 q4 rfl hx (by simpa using ho9) hg9
      have b9:=below_grown g6 hg9 (fun k hk=>(q3.lt k hk).1)
      go_ret3
      obtain ⟨rfl,h2⟩:=Prod.mk.inj (HA.out.symm.trans e.out)
      obtain ⟨rfl,rfl⟩:=Prod.mk.inj h2
      exact ⟨_,rfl,oT9,b9⟩
    ·simp only[htw] at ct
     have e:Hid (addF t p (L s) un=([],0,20)):=by show _=_;rw[HD2.out,htw,if_pos rfl]
     clear HD2 htw
     go_enter Tryz.func27,Tryz.ntmps27
     go_wp2_with (first
      |(go_at_call 49;refine cw.mono ?_;rintro e w1 ⟨rfl,b1⟩)
      |(go_at_call 34;refine (cn _).mono ?_;rintro e w2 ⟨rfl,b2⟩;have g2:=below_trans b1 b2)
      |(go_at_call 41;refine (ct _ g2).mono ?_;rintro e w3 ⟨rfl,d3⟩))
     go_ret3
     obtain ⟨rfl,h2⟩:=Prod.mk.inj (HA.out.symm.trans e.out)
     obtain ⟨rfl,rfl⟩:=Prod.mk.inj h2
     exact ⟨_,rfl,OwnR.nil _ _ _ _ _,below_trans g2 (dr_below d3)⟩
 ·have e:Hid (addF t p (L s) un=([],0,wrgF t p)):=by
   show _=_
   unfold addF wrgF
   unfold wrgF at hw
   split
   ·rfl
   ·rename_i g1
    rw[if_neg g1] at hw
    split
    ·rename_i g2
     first|rw[if_pos g2]|simp[g2]
    ·rename_i g2
     rw[if_neg g2] at hw
     exact absurd rfl hw
  obtain ⟨W,hW⟩:∃W,wrgF t p=W:=⟨_,rfl⟩
  rw[hW] at cw e hw
  have hwb:(W !=0)=true:=by simpa using hw
  clear hW hw
  go_enter Tryz.func27,Tryz.ntmps27
  go_wp2_with (go_at_call 49;refine cw.mono ?_;rintro e w1 ⟨rfl,b1⟩)
  go_ret3
  obtain ⟨rfl,h2⟩:=Prod.mk.inj (HA.out.symm.trans e.out)
  obtain ⟨rfl,rfl⟩:=Prod.mk.inj h2
  exact ⟨_,rfl,OwnR.nil _ _ _ _ _,b1⟩
theorem idx_node (g m cap n:Nat) (h:n < m):∀w',(Instr.indexAt 27 (.slice (some ⟨g,0,none⟩) m cap) (.int .i64 (n:Int))).run Tryz.prog w'= .ok (.pointer (some ⟨g,n*5,none⟩)) w':=by
 intro w'
 rw[run_indexAt_slice (h:=uN),if_pos ⟨by omega,by omega⟩,zN]
 simp only[Result.andThen,Int.toNat_natCast]
 congr 3
 unfold Addr.add
 split
 ·rename_i hz;rw[hz]
 ·simp
theorem idx_prop (g m cap n:Nat) (h:n < m):∀w',(Instr.indexAt 49 (.slice (some ⟨g,0,none⟩) m cap) (.int .i64 (n:Int))).run Tryz.prog w'= .ok (.pointer (some ⟨g,n*2,none⟩)) w':=by
 intro w'
 rw[run_indexAt_slice (h:=uR),if_pos ⟨by omega,by omega⟩,zR]
 simp only[Result.andThen,Int.toNat_natCast]
 congr 3
 unfold Addr.add
 split
 ·rename_i hz;rw[hz]
 ·simp
def RwI {α:Type} (e:TypeId) (sz:Nat) (O:World→List Value→α→Prop) (base:Nat) (v:Value) (l:List α) (rows:List (List Value)) (i:Nat) (wx:World):Prop:=
 ∃rs:List (List Value),rs.length=l.length∧(∀r∈rs,r.length=sz)∧wx.ownsRow base e sz v l.length rs.flatten∧(∀j (h:j < l.length),j < i→O wx (rs.getD j []) l[j])∧∀j,i≤j→rs.getD j []=rows.getD j []
theorem RwI.start {α:Type} {e:TypeId} {sz:Nat} {O:World→List Value→α→Prop} {base:Nat} {v:Value} {l:List α} {rows:List (List Value)} {wx:World} (h1:rows.length=l.length) (h2:∀r∈rows,r.length=sz) (h3:wx.ownsRow base e sz v l.length rows.flatten):RwI e sz O base v l rows 0 wx:=
 ⟨rows,h1,h2,h3,fun j h hj=>by omega,fun j _=>rfl⟩
theorem RwI.done {α:Type} {e:TypeId} {sz:Nat} {O:World→List Value→α→Prop} {base:Nat} {v:Value} {l:List α} {rows:List (List Value)} {wx:World} {i:Nat} (h:RwI e sz O base v l rows i wx) (hi:l.length≤i):OwnR e sz O base wx v l:=by
 obtain ⟨rs,h1,h2,h3,h4,h5⟩:=h
 exact ⟨rs,h1,h2,h3,fun j hj=>h4 j hj (by omega)⟩
theorem RwI.row {α:Type} {e:TypeId} {sz:Nat} {O:World→List Value→α→Prop} {base:Nat} {v:Value} {l:List α} {rows:List (List Value)} {wx:World} {i:Nat} (h:RwI e sz O base v l rows i wx):∃cs,wx.ownsRow base e sz v l.length cs:=by
 obtain ⟨rs,h1,h2,h3,h4,h5⟩:=h
 exact ⟨_,h3⟩
theorem RwI.kept {α:Type} {T e:TypeId} {sz:Nat} {O:World→List Value→α→Prop} {base:Nat} {v:Value} {l:List α} {rows:List (List Value)} {w w':World} {i:Nat} (h:RwI e sz O base v l rows i w) (k:Kept T w w') (hne:¬e=T) (ha:Apt T O):RwI e sz O base v l rows i w':=by
 obtain ⟨rs,h1,h2,h3,h4,h5⟩:=h
 exact ⟨rs,h1,h2,own_kept k hne h3,fun j hj hji=>ha _ _ _ _ k (h4 j hj hji),h5⟩
theorem RwI.below {α:Type} {e:TypeId} {sz:Nat} {O:World→List Value→α→Prop} {base:Nat} {v:Value} {l:List α} {rows:List (List Value)} {w w':World} {i:Nat} (h:RwI e sz O base v l rows i w) (g:Below w.heap.size w w') (hO:∀cs x,O w cs x→O w' cs x):RwI e sz O base v l rows i w':=by
 obtain ⟨rs,h1,h2,h3,h4,h5⟩:=h
 exact ⟨rs,h1,h2,own_belowN h3 g,fun j hj hji=>hO _ _ (h4 j hj hji),h5⟩
theorem RwI.cell {α:Type} {e:TypeId} {sz:Nat} {O:World→List Value→α→Prop} {base g cap:Nat} {l:List α} {rows:List (List Value)} {w:World} {i:Nat} (h:RwI e sz O base (.slice (some ⟨g,0,none⟩) l.length cap) l rows i w) (hi:i < l.length) (j:Nat) (hj:j < sz) (u:Value) (hu:(rows.getD i [])[j]? =some u):w.cell? ⟨g,i*sz+j,none⟩=some u:=by
 obtain ⟨rs,h1,h2,h3,h4,h5⟩:=h
 exact own_cell h3 (i*sz+j) u (by rw[flat_get rs sz i j h2 (by omega) hj,h5 i (Nat.le_refl _)];exact hu)
theorem RwI.free {α:Type} {e:TypeId} {sz:Nat} {O:World→List Value→α→Prop} {base g cap:Nat} {l:List α} {rows:List (List Value)} {w:World} {i:Nat} (h:RwI e sz O base (.slice (some ⟨g,0,none⟩) l.length cap) l rows i w) (j:Nat):w.frozen? ⟨g,j,none⟩=false:=by
 obtain ⟨rs,h1,h2,h3,h4,h5⟩:=h
 exact h3.frozenAt j
theorem RwI.step {α:Type} {e:TypeId} {sz:Nat} {O:World→List Value→α→Prop} {base g cap:Nat} {l:List α} {rows:List (List Value)} {w:World} {i:Nat} (h:RwI e sz O base (.slice (some ⟨g,0,none⟩) l.length cap) l rows i w) (hi:i < l.length) (j:Nat) (hj:j < sz) (u:Value) (ha:Apt e O) (hx:O w ((rows.getD i []).set j u) (l[i]'hi)):
  RwI e sz O base (.slice (some ⟨g,0,none⟩) l.length cap) l rows (i+1) (w.setCell ⟨g,i*sz+j,none⟩ u)∧Kept e w (w.setCell ⟨g,i*sz+j,none⟩ u):=by
 obtain ⟨rs,h1,h2,h3,h4,h5⟩:=h
 obtain ⟨s1,s2⟩:=h3.stored (i*sz+j) u
 have k:Kept e w (w.setCell ⟨g,i*sz+j,none⟩ u):=Kept.own (v:= .slice (some ⟨g,0,none⟩) l.length cap) h3 s2
 rw[flat_set rs sz i j u h2 (by omega) hj] at s1
 have hri:=h5 i (Nat.le_refl _)
 refine ⟨⟨rs.set i ((rs.getD i []).set j u),by simpa using h1,fun r hr=> ?_,s1,fun m hm hmi=> ?_,fun m hm=> ?_⟩,k⟩
 ·rcases List.mem_or_eq_of_mem_set hr with hr|rfl
  ·exact h2 r hr
  ·rw[List.length_set,List.getD_eq_getElem?_getD,List.getElem?_eq_getElem (by omega)]
   exact h2 _ (List.getElem_mem _)
 ·by_cases he:m=i
  ·subst he
   rw[List.getD_eq_getElem?_getD (l:=rs.set m _),List.getElem?_set_self (by omega),Option.getD_some,hri]
   exact ha _ _ _ _ k hx
  ·rw[List.getD_eq_getElem?_getD,List.getElem?_set_ne (fun q=>he q.symm),←List.getD_eq_getElem?_getD]
   exact ha _ _ _ _ k (h4 m hm (by omega))
 ·rw[List.getD_eq_getElem?_getD,List.getElem?_set_ne (by omega),←List.getD_eq_getElem?_getD]
  exact h5 m (by omega)
theorem op_rows {w:World} {l:List Opd} {rows:List (List Value)} (g2:rows.length=l.length) (g3:∀i (h:i < l.length),opR w (rows.getD i []) l[i]):(∀r∈rows,r.length=2)∧∀r∈rows,∀u∈r,u.oneCell'=true:=by
 have hr:∀r∈rows,∃a b,r=[.int .i64 a, .int .u32 b]:=by
  intro r hr
  obtain ⟨i,hi,rfl⟩:=List.getElem_of_mem hr
  have:=g3 i (by omega)
  rw[List.getD_eq_getElem?_getD,List.getElem?_eq_getElem hi] at this
  exact ⟨_,_,this⟩
 constructor
 ·intro r h
  obtain ⟨a,b,rfl⟩:=hr r h
  rfl
 ·intro r h u hu
  obtain ⟨a,b,rfl⟩:=hr r h
  simp at hu
  rcases hu with rfl|rfl <;> rfl
theorem w_pcloneOps (v:Value) (l:List Opd) (w:World) (h:RdO w v l) (hz:l.length*16≤140737488355328):
  Calls Tryz.prog 60 #[v] w fun e w'=>∃v1,e= .returned v1∧OwO w.heap.size w' v1 l∧Below w.heap.size w w':=by
 obtain ⟨rows,g1,g2,g3⟩:=h
 obtain ⟨h1,h2⟩:=op_rows g2 g3
 refine (w_pcloneO v rows w g1 h2 (by omega)).mono ?_
 rintro e w' ⟨v1,rfl,o,b⟩
 exact ⟨v1,rfl,⟨rows,g2,h1,by rw[←g2];exact o,fun i hi=>g3 i hi⟩,b⟩
theorem wrd_rows {w:World} {l:List Wd} {rows:List (List Value)} (g2:rows.length=l.length) (g3:∀i (h:i < l.length),wrdR w (rows.getD i []) l[i]):(∀r∈rows,r.length=5)∧∀r∈rows,∀u∈r,u.oneCell'=true:=by
 have hr:∀r∈rows,∃a b c d e n f,r=[.string a, .int .i64 b, .int .i64 c, .int .u32 d, .slice e n f]:=by
  intro r hr
  obtain ⟨i,hi,rfl⟩:=List.getElem_of_mem hr
  obtain ⟨vc,e,q⟩:=g3 i (by omega)
  obtain ⟨ca,cq,rfl⟩:=slr_slice q
  rw[List.getD_eq_getElem?_getD,List.getElem?_eq_getElem hi] at e
  exact ⟨_,_,_,_,_,_,_,e⟩
 constructor
 ·intro r h
  obtain ⟨a,b,c,d,e,n,f,rfl⟩:=hr r h
  rfl
 ·intro r h u hu
  obtain ⟨a,b,c,d,e,n,f,rfl⟩:=hr r h
  simp at hu
  rcases hu with rfl|rfl|rfl|rfl|rfl <;> rfl
theorem ins_rows {w:World} {l:List Iz} {rows:List (List Value)} (g2:rows.length=l.length) (g3:∀i (h:i < l.length),insR w (rows.getD i []) l[i]):(∀r∈rows,r.length=4)∧∀r∈rows,∀u∈r,u.oneCell'=true:=by
 have hr:∀r∈rows,∃a b c e n f,r=[.int .i64 a, .int .i64 b, .string c, .slice e n f]:=by
  intro r hr
  obtain ⟨i,hi,rfl⟩:=List.getElem_of_mem hr
  obtain ⟨vc,e,q⟩:=g3 i (by omega)
  obtain ⟨ca,cq,rfl⟩:=rd_slice q
  rw[List.getD_eq_getElem?_getD,List.getElem?_eq_getElem hi] at e
  exact ⟨_,_,_,_,_,_,e⟩
 constructor
 ·intro r h
  obtain ⟨a,b,c,e,n,f,rfl⟩:=hr r h
  rfl
 ·intro r h u hu
  obtain ⟨a,b,c,e,n,f,rfl⟩:=hr r h
  simp at hu
  rcases hu with rfl|rfl|rfl|rfl <;> rfl
structure Cpy (base:Nat) (w:World) (vs vm vw vc vt:Value) (m:Mc):Prop where
 stack:w.ownsRow base 26 1 vs m.stack.length (m.stack.map (Value.int .u32))
 mem:w.ownsRow base 5 1 vm m.mem.length (m.mem.map (Value.int .u8))
 words:OwW base w vw m.words
 codes:w.ownsRow base 3 1 vc m.codes.length (m.codes.map (Value.int .i64))
 tree:OwnT8 base w vt m.tree
theorem Cpy.below {base:Nat} {w w':World} {vs vm vw vc vt:Value} {m:Mc} (h:Cpy base w vs vm vw vc vt m) (g:Below w.heap.size w w'):Cpy base w' vs vm vw vc vt m:=
 ⟨own_below h.stack g,own_below h.mem g,OwnR.below h.words g (wrdO_below g),own_below h.codes g,h.tree.below g⟩
theorem Cpy.kept {base:Nat} {T:TypeId} {w w':World} {vs vm vw vc vt:Value} {m:Mc} (h:Cpy base w vs vm vw vc vt m) (k:Kept T w w') (h8:¬5=T) (h32:¬26=T) (hp:¬92=T) (hn:¬51=T) (hi:¬3=T) (hw:¬34=T) (ho:¬118=T):Cpy base w' vs vm vw vc vt m:=
 ⟨own_kept k h32 h.stack,own_kept k h8 h.mem,OwnR.kept h.words k hw (wrdO_apt ho),own_kept k hi h.codes,OwnR.kept h.tree k hn (nodO_apt h8 h32 hp)⟩
def runL (P:Program):List Oper→Act→World→Option (Act×World)
 |[],a,w=>some (a,w)
 |o::r,a,w=>match o.guard with
  |some _=>none
  |none=>match (execOp a.eval o).run P w with
   | .ok (.value v) w'=>runL P r (a.put o.dst v) w'
   |_=>none
theorem wpList_runL {P:Program} {ops:Array Oper} {Q:Exit→Act→World→Prop}:∀(l:List Oper) (a a':Act) (w w':World),runL P l a w=some (a',w')→Q .normal a' w'→wpList P ops Q l a w
 |[],a,a',w,w',h,hk=>by
  simp only[runL,Option.some.injEq,Prod.mk.injEq] at h
  obtain ⟨rfl,rfl⟩:=h
  exact hk
 |o::r,a,a',w,w',h,hk=>by
  cases hg:o.guard with
  |some x=>simp[runL,hg] at h
  |none=>
   refine wpList_plain hg fun K hK=> ?_
   simp only[runL,hg] at h
   unfold Oper.wp
   split at h
   ·rename_i v w1 hr
    rw[hr,Oper.upon_value]
    exact hK _ _ (wpList_runL r _ a' w1 w' h hk)
   ·simp at h
theorem wp_region_runL {P:Program} {id:Nat} {ops:Array Oper} {Q:Exit→Act→World→Prop} {a:Act} {w w':World} {t:Nat} {v:Value}
  (h:(runL P ops.toList a w).map (fun r=>(r.1.tmps.getD t undef,r.1.defers.isEmpty,r.2))=some (v,true,w')) (hk:∀a':Act,a'.tmps.getD t undef=v→a'.defers=[]→Q .normal a' w'):(Code.region id ops false).wp P Q a w:=by
 obtain ⟨r,h1,h2⟩:=Option.map_eq_some_iff.1 h
 obtain ⟨a',w1⟩:=r
 simp only[Prod.mk.injEq] at h2
 obtain ⟨e1,e2,rfl⟩:=h2
 exact wp_region_list (wpList_runL _ _ _ _ _ h1 (hk a' e1 (List.isEmpty_iff.1 e2)))
def prmV (p:List Int×Int):List Value:=[.string (strOfNums p.1), .int .i64 p.2]
theorem prmV_len:∀r∈prmL.map prmV,r.length=2:=by
 intro r hr
 obtain ⟨p,_,rfl⟩:=List.mem_map.1 hr
 rfl
theorem prm_own (w:World):OwnR 103 2 prmR w.heap.size (w.alloc (.cells (prmL.map prmV).flatten.toArray 103)) (.slice (some ⟨w.heap.size,0,none⟩) 111 111) prmL:=by
 have hl:(prmL.map prmV).flatten.length=111*2:=by rw[flat_len _ 2 prmV_len,List.length_map,prm_len]
 refine ⟨prmL.map prmV,by simp,prmV_len,⟨by rw[hl,prm_len],Or.inr ⟨w.heap.size,111,(prmL.map prmV).flatten.toArray,by rw[prm_len],Nat.le_refl _,heap_alloc_new w _,by rw[prm_len];exact Nat.le_refl _,by unfold maxLen;omega,by simpa using hl, ?_⟩⟩,fun i hi=> ?_⟩
 ·rw[prm_len]
  exact List.take_of_length_le (by simpa using Nat.le_of_eq hl)
 ·rw[List.getD_eq_getElem?_getD,List.getElem?_map,List.getElem?_eq_getElem hi]
  rfl
theorem prm_codes:prmL.all (fun p=>decide (0≤p.2∧p.2 < 65536))=true:=by decide+kernel
theorem wrap_u32 (c:Int) (h0:0≤c) (h1:c < 65536):IntKind.u32.wrap c=c:=by
 simp[IntKind.wrap,IntKind.bits,IntKind.signed]
 omega
theorem uJ:Tryz.prog.underlying 25=some (.slice (Tryz.prog.elem 25)):=by kernel_rfl
theorem eJ:Tryz.prog.elem 25=3:=by kernel_rfl
theorem zJ (w:World):(sizeOf (Tryz.prog.elem 25)).run Tryz.prog w= .ok 1 w:=by rw[eJ];exact Tryz.sizeOf3 w
def fnI (r:Option Nat):Int:=match r with
 |some k=>(k:Nat)
 |none=>0
theorem lst_take {α:Type} (p:α→Bool) (l:List α) (k:Nat) (h:k < l.length) (hp:p l[k]=false):lstF p (l.take (k+1))=lstF p (l.take k):=by
 rw[List.take_succ_eq_append_getElem h,lst_snoc,if_neg (by simp[hp])]
theorem lst_hit {α:Type} (p:α→Bool) (l:List α) (k:Nat) (h:k < l.length) (hp:p l[k]=true):lstF p (l.take (k+1))=some k:=by
 rw[List.take_succ_eq_append_getElem h,lst_snoc,if_pos hp,List.length_take]
 congr 1
 omega
theorem L_nil {s:ByteArray} (h:L s=[]):s=⟨#[]⟩:=by
 have h1:=nums_LB s
 rw[show LB s=[] from h] at h1
 rw[←h1]
 decide+kernel
theorem emp_no {s:ByteArray} (h:¬s=⟨#[]⟩):s.toList.isEmpty=false:=by
 rw[Bool.eq_false_iff]
 intro g
 rw[List.isEmpty_iff,ByteArray.toList_eq] at g
 apply h
 obtain ⟨⟨l⟩⟩:=s
 simp at g
 subst g
 rfl
theorem fix_take {α:Type} (p:α→Bool) (l:List α) (k:Nat) (h:k < l.length) (ha:(l.take k).findIdx? p=none) (hp:p l[k]=false):(l.take (k+1)).findIdx? p=none:=by
 rw[List.findIdx?_eq_none_iff] at ha ⊢
 intro x hx
 rw[List.take_succ_eq_append_getElem h] at hx
 rcases List.mem_append.1 hx with hx|hx
 ·exact ha x hx
 ·simp at hx
  rw[hx]
  exact hp
theorem fix_hit {α:Type} (p:α→Bool) (l:List α) (k:Nat) (h:k < l.length) (ha:(l.take k).findIdx? p=none) (hp:p l[k]=true):l.findIdx? p=some k:=by
 rw[List.findIdx?_eq_some_iff_getElem]
 refine ⟨h,hp,fun j hj=> ?_⟩
 rw[List.findIdx?_eq_none_iff] at ha
 have:=ha l[j] (by rw[List.mem_take_iff_getElem];exact ⟨j,by omega,rfl⟩)
 simp[this]
theorem snd_step {l:List Opd} {words:Int} {k:Nat} (h:k < l.length) (ha:(l.take k).all (okO l.length words)=true) (hx:okO l.length words l[k]=true):(l.take (k+1)).all (okO l.length words)=true:=by
 rw[List.take_succ_eq_append_getElem h,List.all_append,ha]
 simp[hx]
theorem snd_no {l:List Opd} {words:Int} {k:Nat} (h:k < l.length) (hx:okO l.length words l[k]=false):sndF l words=false:=by
 unfold sndF
 have:l.all (okO l.length words)=false:=by
  rw[List.all_eq_false]
  exact ⟨_,List.getElem_mem h,by simp[hx]⟩
 rw[this]
 simp
theorem u32_i64 (n:Int) (h0:0≤n) (h1:n < 4294967296):IntKind.i64.wrap n=n:=by
 simp[IntKind.wrap,IntKind.bits,IntKind.signed]
 omega
end Go.Proofs.YtlokhciaaepenaaGreatDoor
