import Derived.Laws.OwnMore
import Derived.Test.YtlokhciaaepenaaGreatDoorProg
import Derived.Deep.RegionLaw
import Derived.Laws.ResultCell
import Derived.Test.YtlokhciaaepenaaGreatDoorB1
set_option linter.unusedVariables false
set_option linter.unusedSimpArgs false
set_option maxRecDepth 100000
namespace Go.Proofs.YtlokhciaaepenaaGreatDoor
open Go.ChangeShapes Go.WideShapes Go.ChangeAt Go.RowKit
def Kept (T:TypeId) (w w':World):Prop:=∃row,w.grownBy w' row∧∀g,row=some g→∃cur fr,w.heap[g]? =some (.cells cur T fr)
theorem grown_none {w w':World} (h:Below w.heap.size w w'):w.grownBy w' none:=⟨h.os,h.tape,h.output,h.size,fun k hk _=>h.block k hk⟩
theorem Kept.below {T:TypeId} {w w':World} (h:Below w.heap.size w w'):Kept T w w':=⟨none,grown_none h,fun g hg=>by cases hg⟩
theorem Kept.own {base:Nat} {e:TypeId} {sz:Nat} {w w':World} {v:Value} {n:Nat} {cs:List Value} (o:w.ownsRow base e sz v n cs) (g:w.grownBy w' v.ownBlock):Kept e w w':=by
 refine ⟨_,g,fun k hk=> ?_⟩
 obtain ⟨_,o⟩:=o
 rcases o with ⟨rfl,_⟩|⟨k',cap,cur,rfl,_,h1,_⟩
 ·simp[Value.ownBlock] at hk
 ·simp[Value.ownBlock] at hk
  subst hk
  exact ⟨cur,_,h1⟩
theorem Kept.stands {b:Nat} {cs:Array Value} {T:TypeId} {w w':World} (h:Stands w b cs T) (g:w.grownBy w' (some b)):Kept T w w':=
 ⟨_,g,fun k hk=>by cases hk;exact ⟨cs,_,h⟩⟩
def Apt {α:Type} (T:TypeId) (O:World→List Value→α→Prop):Prop:=∀w w' cs x,Kept T w w'→O w cs x→O w' cs x
theorem own_kept {T:TypeId} {w w':World} (k:Kept T w w') {base:Nat} {e:TypeId} {sz:Nat} {v:Value} {n:Nat} {cs:List Value} (hne:¬e=T) (o:w.ownsRow base e sz v n cs):w'.ownsRow base e sz v n cs:=by
 obtain ⟨row,g,hr⟩:=k
 obtain ⟨hl,o⟩:=o
 refine ⟨hl, ?_⟩
 rcases o with o|⟨b,cap,cur,rfl,hb,h1,o⟩
 ·exact Or.inl o
 ·refine Or.inr ⟨b,cap,cur,rfl,hb, ?_,o⟩
  rw[g.block b (Array.getElem?_eq_some_iff.1 h1).1 (fun e0=> ?_)]
  ·exact h1
  ·obtain ⟨cur',fr,h2⟩:=hr b e0.symm
   rw[h1] at h2
   simp at h2
   exact hne h2.2.1
theorem stands_kept {T:TypeId} {w w':World} (k:Kept T w w') {b:Nat} {cs:Array Value} {e:TypeId} (hne:¬e=T) (h:Stands w b cs e):Stands w' b cs e:=by
 obtain ⟨row,g,hr⟩:=k
 unfold Stands at h ⊢
 rw[g.block b (Array.getElem?_eq_some_iff.1 h).1 (fun e0=> ?_)]
 ·exact h
 ·obtain ⟨cur',fr,h2⟩:=hr b e0.symm
  rw[h] at h2
  simp at h2
  exact hne h2.2.1
def OwnR {α:Type} (e:TypeId) (sz:Nat) (O:World→List Value→α→Prop) (base:Nat) (w:World) (v:Value) (xs:List α):Prop:=
 ∃rows:List (List Value),rows.length=xs.length∧(∀r∈rows,r.length=sz)∧w.ownsRow base e sz v xs.length rows.flatten∧∀i (h:i < xs.length),O w (rows.getD i []) xs[i]
theorem OwnR.nil {α:Type} (e:TypeId) (sz:Nat) (O:World→List Value→α→Prop) (base:Nat) (w:World):OwnR e sz O base w (.slice none 0 0) ([]:List α):=⟨[],rfl,by simp,World.ownsRow_nil _ _ _ _,fun i hi=>by simp at hi⟩
theorem OwnR.row {α:Type} {e:TypeId} {sz:Nat} {O:World→List Value→α→Prop} {base:Nat} {w:World} {v:Value} {xs:List α} (h:OwnR e sz O base w v xs):∃cs,w.ownsRow base e sz v xs.length cs:=by
 obtain ⟨rows,_,_,h3,_⟩:=h
 exact ⟨_,h3⟩
theorem OwnR.read {α:Type} {e:TypeId} {sz:Nat} {O R:World→List Value→α→Prop} {base:Nat} {w:World} {v:Value} {xs:List α} (hsz:0 < sz) (h:OwnR e sz O base w v xs) (hR:∀cs x,O w cs x→R w cs x):SlR sz R w v xs:=by
 obtain ⟨rows,h1,h2,h3,h4⟩:=h
 have h5:SlR sz (fun _ cs (r:List Value)=>cs=r) w v rows:=slr_rows (n:=xs.length) (e:=e) (base:=base) id h2 hsz (by simpa [List.flatMap_id] using h3) (fun _ _=>rfl)
 obtain ⟨rows',k1,k2,k3⟩:=h5
 have e0:rows'=rows:=by
  apply List.ext_getElem k2
  intro i hi hj
  have:=k3 i hj
  rw[List.getD_eq_getElem?_getD,List.getElem?_eq_getElem hi] at this
  simpa using this
 subst e0
 exact ⟨rows',k1,h1,fun i hi=>hR _ _ (h4 i hi)⟩
theorem OwnR.kept {α:Type} {T e:TypeId} {sz:Nat} {O:World→List Value→α→Prop} {base:Nat} {w w':World} {v:Value} {xs:List α} (h:OwnR e sz O base w v xs) (k:Kept T w w') (hne:¬e=T) (ha:Apt T O):OwnR e sz O base w' v xs:=by
 obtain ⟨rows,h1,h2,h3,h4⟩:=h
 exact ⟨rows,h1,h2,own_kept k hne h3,fun i hi=>ha _ _ _ _ k (h4 i hi)⟩
theorem OwnR.below {α:Type} {e:TypeId} {sz:Nat} {O:World→List Value→α→Prop} {base:Nat} {w w':World} {v:Value} {xs:List α} (h:OwnR e sz O base w v xs) (g:Below w.heap.size w w') (hO:∀cs x,O w cs x→O w' cs x):OwnR e sz O base w' v xs:=by
 obtain ⟨rows,h1,h2,⟨hl,h3⟩,h4⟩:=h
 refine ⟨rows,h1,h2,⟨hl, ?_⟩,fun i hi=>hO _ _ (h4 i hi)⟩
 rcases h3 with h|⟨b,cap,cur,rfl,hb,hg,hc⟩
 ·exact Or.inl h
 ·refine Or.inr ⟨b,cap,cur,rfl,hb, ?_,hc⟩
  rw[g.block b (Array.getElem?_eq_some_iff.1 hg).1]
  exact hg
theorem OwnR.le {α:Type} {e:TypeId} {sz:Nat} {O O':World→List Value→α→Prop} {base base':Nat} {w:World} {v:Value} {xs:List α} (hb:base'≤base) (h:OwnR e sz O base w v xs) (hO:∀cs x,O w cs x→O' w cs x):OwnR e sz O' base' w v xs:=by
 obtain ⟨rows,h1,h2,h3,h4⟩:=h
 exact ⟨rows,h1,h2,own_le hb h3,fun i hi=>hO _ _ (h4 i hi)⟩
theorem OwnR.snoc {α:Type} {e:TypeId} {sz:Nat} {O:World→List Value→α→Prop} {base:Nat} {w w':World} {U v':Value} {xs:List α} {x:α} {row:List Value} {rows:List (List Value)} (ha:Apt e O) (h1:rows.length=xs.length) (h2:∀r∈rows,r.length=sz) (h3:w.ownsRow base e sz U xs.length rows.flatten) (h4:∀i (h:i < xs.length),O w (rows.getD i []) xs[i])
  (hr:row.length=sz) (hx:O w row x) (o:w'.ownsRow base e sz v' (xs.length+1) (rows.flatten++row)) (g:w.grownBy w' U.ownBlock):OwnR e sz O base w' v' (xs++[x]):=by
 have k:=Kept.own h3 g
 refine ⟨rows++[row],by simp[h1],fun r hm=> ?_,by simpa using o,fun i hi=> ?_⟩
 ·rcases List.mem_append.1 hm with hm|hm
  ·exact h2 r hm
  ·simp at hm;subst hm;exact hr
 ·by_cases hlt:i < xs.length
  ·rw[List.getD_eq_getElem?_getD,List.getElem?_append_left (by omega),List.getElem_append_left hlt,←List.getD_eq_getElem?_getD]
   exact ha _ _ _ _ k (h4 i hlt)
  ·have hi2:i=xs.length:=by simp at hi;omega
   subst hi2
   rw[List.getD_eq_getElem?_getD,List.getElem?_append_right (by omega),h1]
   simp
   exact ha _ _ _ _ k hx
theorem flat_set {α:Type}:∀(rows:List (List α)) (sz i j:Nat) (u:α),(∀r∈rows,r.length=sz)→i < rows.length→j < sz→rows.flatten.set (i*sz+j) u=(rows.set i ((rows.getD i []).set j u)).flatten
 |[],sz,i,j,u,_,hi,_=>by simp at hi
 |r::rows,sz,0,j,u,h,hi,hj=>by
  have hr:=h r (by simp)
  simp only[List.flatten_cons,Nat.zero_mul,Nat.zero_add,List.set_cons_zero,List.getD_cons_zero]
  rw[List.set_append_left _ _ (by omega)]
 |r::rows,sz,i+1,j,u,h,hi,hj=>by
  have hr:=h r (by simp)
  have ih:=flat_set rows sz i j u (fun x hx=>h x (by simp[hx])) (by simpa using hi) hj
  simp only[List.flatten_cons,List.set_cons_succ,List.getD_cons_succ]
  rw[List.set_append_right _ _ (by rw[hr,Nat.add_mul];omega),hr,show (i+1)*sz+j - sz=i*sz+j by rw[Nat.add_mul];omega,ih]
theorem OwnR.set {α:Type} {e:TypeId} {sz:Nat} {O:World→List Value→α→Prop} {base:Nat} {w:World} {g n cap:Nat} {xs:List α} {rows:List (List Value)} (ha:Apt e O) (h1:rows.length=xs.length) (h2:∀r∈rows,r.length=sz) (h3:w.ownsRow base e sz (.slice (some ⟨g,0,none⟩) n cap) xs.length rows.flatten) (h4:∀i (h:i < xs.length),O w (rows.getD i []) xs[i])
  (i j:Nat) (hi:i < xs.length) (hj:j < sz) (u:Value) (x:α) (hx:O (w.setCell ⟨g,i*sz+j,none⟩ u) ((rows.getD i []).set j u) x):OwnR e sz O base (w.setCell ⟨g,i*sz+j,none⟩ u) (.slice (some ⟨g,0,none⟩) n cap) (xs.set i x)∧Kept e w (w.setCell ⟨g,i*sz+j,none⟩ u):=by
 have hn:n=xs.length:=by
  obtain ⟨_,h3⟩:=h3
  rcases h3 with ⟨h,_⟩|⟨g',cap',cur,h,_⟩
  ·simp at h
  ·simp at h;exact h.2.1
 subst hn
 obtain ⟨s1,s2⟩:=h3.stored (i*sz+j) u
 have k:Kept e w (w.setCell ⟨g,i*sz+j,none⟩ u):=Kept.own (v:= .slice (some ⟨g,0,none⟩) xs.length cap) h3 (by simpa [Value.ownBlock] using s2)
 rw[flat_set rows sz i j u h2 (by omega) hj] at s1
 refine ⟨⟨rows.set i ((rows.getD i []).set j u),by simp[h1],fun r hm=> ?_,by simpa using s1,fun m hm=> ?_⟩,k⟩
 ·rcases List.mem_or_eq_of_mem_set hm with hm|rfl
  ·exact h2 r hm
  ·rw[List.length_set,List.getD_eq_getElem?_getD,List.getElem?_eq_getElem (by omega)]
   exact h2 _ (List.getElem_mem _)
 ·rw[List.length_set] at hm
  rw[List.getElem_set]
  by_cases him:i=m
  ·subst him
   rw[if_pos rfl,List.getD_eq_getElem?_getD,List.getElem?_set_self (by omega)]
   exact hx
  ·rw[if_neg him,List.getD_eq_getElem?_getD,List.getElem?_set_ne him,←List.getD_eq_getElem?_getD]
   exact ha _ _ _ _ k (h4 m hm)
theorem uB:Tryz.prog.underlying 23=some (.slice (Tryz.prog.elem 23)):=by kernel_rfl
theorem eB:Tryz.prog.elem 23=5:=by kernel_rfl
theorem infoU8:(Tryz.prog.info? 5).map (fun i=>(i.zero,i.size,i.bytes))=some (some (.int .u8 0),1,1):=by kernel_rfl
theorem w_rcopy (v:Value) (xs:List Int) (w:World) (h:Rd .u8 w v xs) (hb:xs.length≤140737488355328):
  Calls Tryz.prog 81 #[v] w fun e w'=>∃v',e= .returned v'∧w'.ownsRow w.heap.size 5 1 v' xs.length (xs.map (Value.int .u8))∧Below w.heap.size w w':=by
 obtain ⟨i0,hi,hz0,hz1,hz2⟩:=info_parts infoU8
 go_enter Tryz.func81,Tryz.ntmps81
 go_wp2_with (at_builtin;refine wpList_append_rd (k:= .u8) rfl _ _ 23 rfl w.heap.size 5 i0 1 Tryz.underlying23 hi hz0 hz1 hz2 (.slice none 0 0) [] rfl (World.ownsRow_nil _ _ _ _) v xs rfl h (by unfold maxLen;simp;omega) (by simpa using hb) (Nat.le_refl _) ?_;intro v' w1 hown hgr)
 go_ret
 exact ⟨v',rfl,by simpa using hown,below_grown (Below.refl _ _) hgr (fun k hk=>by cases hk)⟩
theorem same_take (xs ys:List Int) (k:Nat) (h1:k < xs.length) (h2:k < ys.length) (h:xs.take k=ys.take k) (e:xs.getD k 0=ys.getD k 0):xs.take (k+1)=ys.take (k+1):=by
 rw[List.take_succ_eq_append_getElem h1,List.take_succ_eq_append_getElem h2,h]
 simp[List.getD_eq_getElem?_getD,List.getElem?_eq_getElem h1,List.getElem?_eq_getElem h2] at e
 rw[e]
theorem ne_at (xs ys:List Int) (k:Nat) (e:¬xs.getD k 0=ys.getD k 0):¬xs=ys:=fun h=>e (by rw[h])
set_option maxHeartbeats 1000000 in
theorem w_r3same (va vb:Value) (xs ys:List Int) (w:World) (ha:Rd .u32 w va xs) (hb:Rd .u32 w vb ys):
  Calls Tryz.prog 9 #[va,vb] w fun e w'=>e= .returned (.bool (decide (xs=ys)))∧Below w.heap.size w w':=by
 rcases ha with ⟨ao,ca,rfl,hao,rfl⟩|⟨b,off,ca,rfl,a0,a1,a2,hca⟩
 ·rcases hb with ⟨bo,cb,rfl,hbo,rfl⟩|⟨b',off',cb,rfl,b0,b1,b2,hcb⟩
  ·go_enter Tryz.func9,Tryz.ntmps9
   go_wp2
   go_rounds 1
   go_ret
   exact ⟨ret_b (by simp),Below.refl _ _⟩
  ·have hf:Hid (decide (([]:List Int)=ys)=false):=by show _=_;simp;intro h;subst h;simp at b0
   have hn:((0:Int) !=(ys.length:Int))=true:=by simp;omega
   go_enter Tryz.func9,Tryz.ntmps9
   go_wp2
   all_goals go_ret
   all_goals exact ⟨ret_b hf.out.symm,Below.refl _ _⟩
 ·rcases hb with ⟨bo,cb,rfl,hbo,rfl⟩|⟨b',off',cb,rfl,b0,b1,b2,hcb⟩
  ·have hf:Hid (decide (xs=([]:List Int))=false):=by show _=_;simp;intro h;subst h;simp at a0
   have hn:((xs.length:Int) !=(0:Int))=true:=by simp;intro h;subst h;simp at a0
   go_enter Tryz.func9,Tryz.ntmps9
   go_wp2
   all_goals go_ret
   all_goals exact ⟨ret_b hf.out.symm,Below.refl _ _⟩
  ·unfold maxLen at a2 b2
   by_cases hl:xs.length=ys.length
   ·have hn:((xs.length:Int) !=(ys.length:Int))=false:=by simp[hl]
    have Hl:=hid hl
    have HA:=hid hca
    have HB:=hid hcb
    clear hl hca hcb
    go_enter Tryz.func9,Tryz.ntmps9
    go_wp2
    go_loopw [5] (fun i wx=>∃k:Nat,(k:Int)≤xs.length∧i= .int .i64 k∧Hid (xs.take k=ys.take k)∧Below w.heap.size w wx) (fun i _=>(xs.length - intOf i).toNat)
    case atStart=>exact ⟨0,by omega,rfl,hid (by simp),Below.refl _ _⟩
    case round=>
     obtain ⟨k,hk,rfl,ht,hg⟩:=hrel
     by_cases hlt:(k:Int) < xs.length
     ·have c1:=below_cell hg (HA.out k (by omega))
      have c2:=below_cell hg (HB.out k (by have:=Hl.out;omega))
      have hlt2:(k:Int) < (ys.length:Int):=by have:=Hl.out;omega
      obtain ⟨x,hx⟩:∃x,xs.getD k 0=x:=⟨_,rfl⟩
      obtain ⟨y,hy⟩:∃y,ys.getD k 0=y:=⟨_,rfl⟩
      rw[hx] at c1
      rw[hy] at c2
      by_cases hxy:x=y
      ·have ht2:Hid (xs.take (k+1)=ys.take (k+1)):=same_take xs ys k (by omega) (by omega) ht.out (by rw[hx,hy,hxy])
       have hb:(x !=y)=false:=by simp[hxy]
       clear hx hy hxy
       go_wp2
       go_quiet (fail)
       go_wp2
       go_roundw
       case rel=>exact ⟨k+1,by omega,by go_num,ht2,below_drewN hg _⟩
       case measure=>simp[intOf];omega
      ·have hf:Hid (decide (xs=ys)=false):=by show _=_;simp;exact ne_at xs ys k (by rw[hx,hy];exact hxy)
       have hb:(x !=y)=true:=by simp[hxy]
       clear hx hy hxy
       go_wp2
       go_quiet (fail)
       go_wp2
       go_ret
       exact ⟨ret_b hf.out.symm,below_drewN hg _⟩
     ·have hf:Hid (decide (xs=ys)=true):=by
       show _=_
       have h1:xs.take k=xs:=List.take_of_length_le (by omega)
       have h2:ys.take k=ys:=List.take_of_length_le (by have:=Hl.out;omega)
       have:=ht.out
       rw[h1,h2] at this
       simp[this]
      go_wp2
      go_ret
      exact ⟨ret_b hf.out.symm,hg⟩
   ·have hf:Hid (decide (xs=ys)=false):=by show _=_;simp;intro h;exact hl (by rw[h])
    have hn:((xs.length:Int) !=(ys.length:Int))=true:=by simp;omega
    clear hl
    go_enter Tryz.func9,Tryz.ntmps9
    go_wp2
    go_ret
    exact ⟨ret_b hf.out.symm,Below.refl _ _⟩
theorem infoU32:(Tryz.prog.info? 26).map (fun i=>(i.zero,i.size,i.bytes))=some (some (.int .u32 0),1,4):=by kernel_rfl
theorem w_r3copy (v:Value) (xs:List Int) (w:World) (h:Rd .u32 w v xs) (h1:xs.length≤maxLen) (hb:xs.length*4≤140737488355328):
  Calls Tryz.prog 51 #[v] w fun e w'=>∃v',e= .returned v'∧w'.ownsRow w.heap.size 26 1 v' xs.length (xs.map (Value.int .u32))∧Below w.heap.size w w':=by
 obtain ⟨i0,hi,hz0,hz1,hz2⟩:=info_parts infoU32
 go_enter Tryz.func51,Tryz.ntmps51
 go_wp2_with (at_builtin;refine wpList_append_rd (k:= .u32) rfl _ _ 22 rfl w.heap.size 26 i0 4 Tryz.underlying22 hi hz0 hz1 hz2 (.slice none 0 0) [] rfl (World.ownsRow_nil _ _ _ _) v xs rfl h (by simpa using h1) (by simpa using hb) (Nat.le_refl _) ?_;intro v' w1 hown hgr)
 go_ret
 exact ⟨v',rfl,by simpa using hown,below_grown (Below.refl _ _) hgr (fun k hk=>by cases hk)⟩
def Dr (w w':World):Prop:=∃m,w'=w.drewN m
theorem dr_refl (w:World):Dr w w:=⟨0,rfl⟩
theorem dr_more {w w':World} (h:Dr w w') (n:Nat):Dr w (w'.drewN n):=by
 obtain ⟨m,rfl⟩:=h
 exact ⟨m+n,by rw[World.drewN_drewN]⟩
theorem dr_below {w w':World} (h:Dr w w'):Below w.heap.size w w':=by
 obtain ⟨m,rfl⟩:=h
 exact below_drewN (Below.refl _ _) m
set_option maxHeartbeats 1000000 in
theorem w_r3sameQ (va vb:Value) (xs ys:List Int) (w:World) (ha:Rd .u32 w va xs) (hb:Rd .u32 w vb ys):
  Calls Tryz.prog 9 #[va,vb] w fun e w'=>e= .returned (.bool (decide (xs=ys)))∧Dr w w':=by
 rcases ha with ⟨ao,ca,rfl,hao,rfl⟩|⟨b,off,ca,rfl,a0,a1,a2,hca⟩
 ·rcases hb with ⟨bo,cb,rfl,hbo,rfl⟩|⟨b',off',cb,rfl,b0,b1,b2,hcb⟩
  ·go_enter Tryz.func9,Tryz.ntmps9
   go_wp2
   go_rounds 1
   go_ret
   exact ⟨ret_b (by simp),dr_refl _⟩
  ·have hf:Hid (decide (([]:List Int)=ys)=false):=by show _=_;simp;intro h;subst h;simp at b0
   have hn:((0:Int) !=(ys.length:Int))=true:=by simp;omega
   go_enter Tryz.func9,Tryz.ntmps9
   go_wp2
   all_goals go_ret
   all_goals exact ⟨ret_b hf.out.symm,dr_refl _⟩
 ·rcases hb with ⟨bo,cb,rfl,hbo,rfl⟩|⟨b',off',cb,rfl,b0,b1,b2,hcb⟩
  ·have hf:Hid (decide (xs=([]:List Int))=false):=by show _=_;simp;intro h;subst h;simp at a0
   have hn:((xs.length:Int) !=(0:Int))=true:=by simp;intro h;subst h;simp at a0
   go_enter Tryz.func9,Tryz.ntmps9
   go_wp2
   all_goals go_ret
   all_goals exact ⟨ret_b hf.out.symm,dr_refl _⟩
  ·unfold maxLen at a2 b2
   by_cases hl:xs.length=ys.length
   ·have hn:((xs.length:Int) !=(ys.length:Int))=false:=by simp[hl]
    have Hl:=hid hl
    have HA:=hid hca
    have HB:=hid hcb
    clear hl hca hcb
    go_enter Tryz.func9,Tryz.ntmps9
    go_wp2
    go_loopw [5] (fun i wx=>∃k:Nat,(k:Int)≤xs.length∧i= .int .i64 k∧Hid (xs.take k=ys.take k)∧Dr w wx) (fun i _=>(xs.length - intOf i).toNat)
    case atStart=>exact ⟨0,by omega,rfl,hid (by simp),dr_refl _⟩
    case round=>
     obtain ⟨k,hk,rfl,ht,hg⟩:=hrel
     by_cases hlt:(k:Int) < xs.length
     ·have c1:=below_cell (dr_below hg) (HA.out k (by omega))
      have c2:=below_cell (dr_below hg) (HB.out k (by have:=Hl.out;omega))
      have hlt2:(k:Int) < (ys.length:Int):=by have:=Hl.out;omega
      obtain ⟨x,hx⟩:∃x,xs.getD k 0=x:=⟨_,rfl⟩
      obtain ⟨y,hy⟩:∃y,ys.getD k 0=y:=⟨_,rfl⟩
      rw[hx] at c1
      rw[hy] at c2
      by_cases hxy:x=y
      ·have ht2:Hid (xs.take (k+1)=ys.take (k+1)):=same_take xs ys k (by omega) (by omega) ht.out (by rw[hx,hy,hxy])
       have hb:(x !=y)=false:=by simp[hxy]
       clear hx hy hxy
       go_wp2
       go_quiet (fail)
       go_wp2
       go_roundw
       case rel=>exact ⟨k+1,by omega,by go_num,ht2,dr_more hg _⟩
       case measure=>simp[intOf];omega
      ·have hf:Hid (decide (xs=ys)=false):=by show _=_;simp;exact ne_at xs ys k (by rw[hx,hy];exact hxy)
       have hb:(x !=y)=true:=by simp[hxy]
       clear hx hy hxy
       go_wp2
       go_quiet (fail)
       go_wp2
       go_ret
       exact ⟨ret_b hf.out.symm,dr_more hg _⟩
     ·have hf:Hid (decide (xs=ys)=true):=by
       show _=_
       have h1:xs.take k=xs:=List.take_of_length_le (by omega)
       have h2:ys.take k=ys:=List.take_of_length_le (by have:=Hl.out;omega)
       have:=ht.out
       rw[h1,h2] at this
       simp[this]
      go_wp2
      go_ret
      exact ⟨ret_b hf.out.symm,hg⟩
   ·have hf:Hid (decide (xs=ys)=false):=by show _=_;simp;intro h;exact hl (by rw[h])
    have hn:((xs.length:Int) !=(ys.length:Int))=true:=by simp;omega
    clear hl
    go_enter Tryz.func9,Tryz.ntmps9
    go_wp2
    go_ret
    exact ⟨ret_b hf.out.symm,dr_refl _⟩
theorem flat_get {α:Type}:∀(rows:List (List α)) (sz i j:Nat),(∀r∈rows,r.length=sz)→i < rows.length→j < sz→rows.flatten[i*sz+j]? =(rows.getD i [])[j]?
 |[],sz,i,j,_,hi,_=>by simp at hi
 |r::rows,sz,0,j,h,hi,hj=>by
  have hr:=h r (by simp)
  simp only[List.flatten_cons,Nat.zero_mul,Nat.zero_add,List.getD_cons_zero]
  rw[List.getElem?_append_left (by omega)]
 |r::rows,sz,i+1,j,h,hi,hj=>by
  have hr:=h r (by simp)
  have ih:=flat_get rows sz i j (fun x hx=>h x (by simp[hx])) (by simpa using hi) hj
  simp only[List.flatten_cons,List.getD_cons_succ]
  rw[List.getElem?_append_right (by rw[hr,Nat.add_mul];omega),hr,show (i+1)*sz+j - sz=i*sz+j by rw[Nat.add_mul];omega,ih]
theorem flat_len {α:Type} (rows:List (List α)) (sz:Nat) (h:∀r∈rows,r.length=sz):rows.flatten.length=rows.length*sz:=by
 induction rows with
 |nil=>simp
 |cons r rows ih=>
  rw[List.flatten_cons,List.length_append,ih (fun x hx=>h x (by simp[hx])),h r (by simp),List.length_cons,Nat.add_mul]
  omega
theorem wp_append_rows {P:Program} {w:World} {o:Oper} {a:Act} {K:Act→World→Prop} {Q:Exit→Act→World→Prop} (s x:Operand) (t:TypeId)
  (ho:o.op= .call {callee:= .builtin .append,args:=#[s,x],argTypes:=#[t,t]})
  (base:Nat) (e:TypeId) (i:TypeInfo) (z:Value) (sz bytes:Nat) (ht:P.underlying t=some (.slice e)) (hi:P.info? e=some i) (hz:i.zero=some z) (hsize:i.size=sz) (hby:i.bytes=bytes) (hzs:z.cells.size=sz) (hsz:0 < sz)
  (v:Value) (n:Nat) (cs:List Value) (hs:a.eval s=v) (hown:w.ownsRow base e sz v n cs)
  (vx:Value) (rows:List (List Value)) (hx:a.eval x=vx) (hr:SlC sz w vx rows) (h1:∀r∈rows,∀u∈r,u.oneCell'=true)
  (h63:n+rows.length≤maxLen) (hbytes:(n+rows.length)*bytes≤140737488355328) (hbase:base≤w.heap.size)
  (h:∀v' w',w'.ownsRow base e sz v' (n+rows.length) (cs++rows.flatten)→w.grownBy w' v.ownBlock→K (a.put o.dst v') w'):o.wp P a w K Q:=by
 rcases hr with ⟨ao,cap,rfl,hn,rfl⟩|⟨b,off,cap,rfl,h0,hc1,hc2,hc⟩
 ·cases ao with
  |none=>
   obtain rfl:=hn rfl
   have hrun:=run_append_owned_none (P:=P) (w:=w) base t o.type e i sz ht hi v n cs hown
   unfold Oper.wp
   simp[execOp,ho,resolve,invoke,builtin,hs,hx,hrun,Result.andThen]
   exact h v w (by simpa using hown) ⟨rfl,rfl,rfl,Nat.le_refl _,fun _ _ _=>rfl⟩
  |some ad=>
   refine wp_append_own w s x t ho base e i z sz bytes ht hi hz hsize hby hzs hsz v n _ hs hown ad 0 cap [] hx (by simp) (by simp) (by simp) (by simpa using h63) (by simpa using hbytes) hbase ?_
   intro v' w' h2 h3 _
   exact h v' w' (by simpa using h2) h3
 ·have hlen:∀r∈rows,r.length=sz:=by
   intro r hr
   obtain ⟨k,hk,rfl⟩:=List.getElem_of_mem hr
   have:=(hc k hk).1
   rwa [List.getD_eq_getElem?_getD,List.getElem?_eq_getElem hk] at this
  refine wp_append_own w s x t ho base e i z sz bytes ht hi hz hsize hby hzs hsz v n _ hs hown ⟨b,off,none⟩ rows.length cap rows.flatten hx (flat_len rows sz hlen) ?_ (fun u hu=> ?_) h63 hbytes hbase ?_
  ·intro j u hj
   have hjl:j < rows.length*sz:=by
    rw[←flat_len rows sz hlen]
    rcases Nat.lt_or_ge j rows.flatten.length with g|g
    ·exact g
    ·rw[List.getElem?_eq_none g] at hj;cases hj
   have hdm:=Nat.div_add_mod j sz
   have hq:j / sz < rows.length:=(Nat.div_lt_iff_lt_mul hsz).2 hjl
   have hm:=Nat.mod_lt j hsz
   have e1:=flat_get rows sz (j / sz) (j%sz) hlen hq hm
   have e2:j / sz*sz+j%sz=j:=by rw[Nat.mul_comm];exact hdm
   rw[e2,hj] at e1
   have e3:=(hc (j / sz) hq).2 (j%sz) hm
   rw[←e1,Nat.add_assoc,e2] at e3
   by_cases hz:j=0
   ·subst hz;simpa [Addr.add] using e3
   ·simpa [Addr.add,hz] using e3
  ·rw[List.mem_flatten] at hu
   obtain ⟨r,hr,hu⟩:=hu
   exact h1 r hr u hu
  ·intro v' w' h2 h3 _
   exact h v' w' h2 h3
theorem wpList_append_rows {P:Program} {w:World} {ops:Array Oper} {rest:List Oper} {o:Oper} {a:Act} {Q:Exit→Act→World→Prop} (hgd:o.guard=none) (s x:Operand) (t:TypeId)
  (ho:o.op= .call {callee:= .builtin .append,args:=#[s,x],argTypes:=#[t,t]})
  (base:Nat) (e:TypeId) (i:TypeInfo) (z:Value) (sz bytes:Nat) (ht:P.underlying t=some (.slice e)) (hi:P.info? e=some i) (hz:i.zero=some z) (hsize:i.size=sz) (hby:i.bytes=bytes) (hzs:z.cells.size=sz) (hsz:0 < sz)
  (v:Value) (n:Nat) (cs:List Value) (hs:a.eval s=v) (hown:w.ownsRow base e sz v n cs)
  (vx:Value) (rows:List (List Value)) (hx:a.eval x=vx) (hr:SlC sz w vx rows) (h1:∀r∈rows,∀u∈r,u.oneCell'=true)
  (h63:n+rows.length≤maxLen) (hbytes:(n+rows.length)*bytes≤140737488355328) (hbase:base≤w.heap.size)
  (h:∀v' w',w'.ownsRow base e sz v' (n+rows.length) (cs++rows.flatten)→w.grownBy w' v.ownBlock→wpList P ops Q rest (a.put o.dst v') w'):wpList P ops Q (o::rest) a w:=
 wpList_plain hgd fun _ hK=>wp_append_rows s x t ho base e i z sz bytes ht hi hz hsize hby hzs hsz v n cs hs hown vx rows hx hr h1 h63 hbytes hbase fun v' w' h2 h3=>hK _ _ (h v' w' h2 h3)
theorem step_append_rows {P:Program} {ops:Array Oper} {w:World} {o:Oper} {a:Act} {K:Act→World→Prop} {Q:Exit→Act→World→Prop} {E:Prop} (hgd:o.guard=none) (s x:Operand) (t:TypeId)
  (ho:o.op= .call {callee:= .builtin .append,args:=#[s,x],argTypes:=#[t,t]})
  (base:Nat) (e:TypeId) (i:TypeInfo) (z:Value) (sz bytes:Nat) (ht:P.underlying t=some (.slice e)) (hi:P.info? e=some i) (hz:i.zero=some z) (hsize:i.size=sz) (hby:i.bytes=bytes) (hzs:z.cells.size=sz) (hsz:0 < sz)
  (v:Value) (n:Nat) (cs:List Value) (hs:a.eval s=v) (hown:w.ownsRow base e sz v n cs)
  (vx:Value) (rows:List (List Value)) (hx:a.eval x=vx) (hr:SlC sz w vx rows) (h1:∀r∈rows,∀u∈r,u.oneCell'=true)
  (h63:n+rows.length≤maxLen) (hbytes:(n+rows.length)*bytes≤140737488355328) (hbase:base≤w.heap.size)
  (h:∀v' w',w'.ownsRow base e sz v' (n+rows.length) (cs++rows.flatten)→w.grownBy w' v.ownBlock→K (a.put o.dst v') w'):
  if Region.wanted o (yielded ops a.tmps)=true then Oper.wp P o a w K Q else E:=by
 rw[if_pos (by simp[Region.wanted,hgd])]
 exact wp_append_rows s x t ho base e i z sz bytes ht hi hz hsize hby hzs hsz v n cs hs hown vx rows hx hr h1 h63 hbytes hbase h
theorem slc_one (w:World) (row:List Value) (T:TypeId) (sz:Nat) (h:row.length=sz):SlC sz (w.alloc (.cells row.toArray T)) (.slice (some ⟨w.heap.size,0,none⟩) 1 1) [row]:=by
 refine Or.inr ⟨w.heap.size,0,1,rfl,by simp,by simp,by decide,fun i hi=> ?_⟩
 have:i=0:=by simp at hi;omega
 subst this
 refine ⟨by simpa using h,fun j hj=> ?_⟩
 rw[World.cell?_alloc_new]
 simp
theorem slr_idxN {α:Type} {P:Program} {R:World→List Value→α→Prop} {w:World} {v:Value} {xs:List α} {sz:Nat} (h:SlR sz R w v xs) {t:TypeId} (ht:P.underlying t=some (.slice (P.elem t))) (hs:∀w,(sizeOf (P.elem t)).run P w= .ok sz w) (i:Nat) (h1:i < xs.length):
  ∃(b o:Nat) (cs:List Value),(∀w',(Instr.indexAt t v (.int .i64 (i:Int))).run P w'= .ok (.pointer (some ⟨b,o,none⟩)) w')∧cs.length=sz∧(∀j,j < sz→w.cell? ⟨b,o+j,none⟩=cs[j]?)∧R w cs xs[i]:=by
 obtain ⟨rows,g1,g2,g3⟩:=h
 obtain ⟨ao,cap,rfl,hc,hn,hx⟩:=g1.form
 obtain ⟨hm,b,off,rfl,hcell⟩:=hx (by omega)
 obtain ⟨l1,l2⟩:=hcell i (by omega)
 refine ⟨b,off+i*sz,rows.getD i [],fun w'=> ?_,l1,fun j hj=>l2 j hj,g3 i h1⟩
 rw[run_indexAt_slice (h:=ht),if_pos ⟨by omega,by omega⟩,hs]
 simp only[Result.andThen,Int.toNat_natCast]
 congr 3
 unfold Addr.add
 split
 ·rename_i hz;rw[hz];rfl
 ·rfl
theorem rd_slice {k:IntKind} {w:World} {v:Value} {xs:List Int} (h:Rd k w v xs):∃ao cap,v= .slice ao xs.length cap:=by
 obtain ⟨ao,cap,rfl,_⟩:=rd_form h
 exact ⟨ao,cap,rfl⟩
theorem slr_slice {α:Type} {R:World→List Value→α→Prop} {sz:Nat} {w:World} {v:Value} {xs:List α} (h:SlR sz R w v xs):∃ao cap,v= .slice ao xs.length cap:=by
 obtain ⟨rows,h1,h2,_⟩:=h
 obtain ⟨ao,cap,rfl,_⟩:=h1.form
 exact ⟨ao,cap,by rw[h2]⟩
theorem set_kept {w:World} {b:Nat} {cs:Array Value} {T:TypeId} (h:Stands w b cs T) (j:Nat) (u:Value):Kept T w (w.setCell ⟨b,j,none⟩ u):=by
 refine Kept.stands h ⟨rfl,rfl,rfl,by simp,fun k hk hne=> ?_⟩
 exact Below.heap_setCell _ _ _ k (fun e=>hne (by rw[e]))
theorem set5 {w:World} {b:Nat} {z0 z1 z2 z3 z4:Value} {T:TypeId} (h:Stands w b #[z0,z1,z2,z3,z4] T) (a0 a1 a2 a3 a4:Value):
  Stands (((((w.setCell ⟨b,0,none⟩ a0).setCell ⟨b,1,none⟩ a1).setCell ⟨b,2,none⟩ a2).setCell ⟨b,3,none⟩ a3).setCell ⟨b,4,none⟩ a4) b #[a0,a1,a2,a3,a4] T∧
  (∀{base:Nat} {e:TypeId} {sz:Nat} {v:Value} {n:Nat} {xs:List Value},¬e=T→w.ownsRow base e sz v n xs→(((((w.setCell ⟨b,0,none⟩ a0).setCell ⟨b,1,none⟩ a1).setCell ⟨b,2,none⟩ a2).setCell ⟨b,3,none⟩ a3).setCell ⟨b,4,none⟩ a4).ownsRow base e sz v n xs):=by
 have h0:=h.set 0 a0
 have h1:=h0.set 1 a1
 have h2:=h1.set 2 a2
 have h3:=h2.set 3 a3
 have h4:=h3.set 4 a4
 exact ⟨h4,fun hne o=>own_kept (set_kept h3 4 a4) hne (own_kept (set_kept h2 3 a3) hne (own_kept (set_kept h1 2 a2) hne (own_kept (set_kept h0 1 a1) hne (own_kept (set_kept h 0 a0) hne o))))⟩
theorem own_some {w:World} {base:Nat} {e:TypeId} {sz:Nat} {v:Value} {n:Nat} {cs:List Value} (o:w.ownsRow base e sz v n cs) (h:0 < n):∃g cap,v= .slice (some ⟨g,0,none⟩) n cap:=by
 rcases o.2 with ⟨_,h0⟩|⟨g,cap,cur,hv,_⟩
 ·omega
 ·exact ⟨g,cap,hv⟩
theorem own_cell {w:World} {base:Nat} {e:TypeId} {sz g n cap:Nat} {cs:List Value} (o:w.ownsRow base e sz (.slice (some ⟨g,0,none⟩) n cap) n cs) (j:Nat) (u:Value) (h:cs[j]? =some u):w.cell? ⟨g,j,none⟩=some u:=by
 have h1:=o.cells (g:=g) rfl j u h
 have e1:(⟨g,0,none⟩:Addr).add j=⟨g,j,none⟩:=by
  unfold Addr.add
  split
  ·rename_i hz;rw[hz]
  ·simp
 rwa [e1] at h1
theorem two_boxes (w:World) (a b:Array Value) (T:TypeId):Stands ((w.alloc (.cells a T)).alloc (.cells b T)) w.heap.size a T∧Stands ((w.alloc (.cells a T)).alloc (.cells b T)) (w.heap.size+1) b T∧Below w.heap.size w ((w.alloc (.cells a T)).alloc (.cells b T)):=by
 refine ⟨(stands_new w a T).below (box_below _ _), ?_,below_trans (box_below w _) (box_below _ _)⟩
 have:=stands_new (w.alloc (.cells a T)) b T
 rwa [size_al] at this
theorem gb_refl (w:World) (r:Option Nat):w.grownBy w r:=⟨rfl,rfl,rfl,Nat.le_refl _,fun _ _ _=>rfl⟩
theorem gb_below {a b c:World} {r:Option Nat} (h:a.grownBy b r) (g:Below b.heap.size b c):a.grownBy c r:=
 ⟨g.os.trans h.os,g.tape.trans h.tape,g.output.trans h.output,Nat.le_trans h.size g.size,fun k hk hne=>(g.block k (Nat.lt_of_lt_of_le hk h.size)).trans (h.block k hk hne)⟩
theorem gb_set {a b:World} {g:Nat} (h:a.grownBy b (some g)) (j:Nat) (u:Value):a.grownBy (b.setCell ⟨g,j,none⟩ u) (some g):=
 ⟨h.os,h.tape,h.output,by simpa [World.setCell] using h.size,fun k hk hne=>(Below.heap_setCell _ _ _ k (fun e=>hne (by rw[e]))).trans (h.block k hk hne)⟩
theorem gb_new {a b:World} {r:Option Nat} {g:Nat} (h:a.grownBy b r) (hg:a.heap.size≤g) (j:Nat) (u:Value):a.grownBy (b.setCell ⟨g,j,none⟩ u) r:=
 ⟨h.os,h.tape,h.output,by simpa [World.setCell] using h.size,fun k hk hne=>(Below.heap_setCell _ _ _ k (fun e=>by have e2:k=g:=e;omega)).trans (h.block k hk hne)⟩
theorem slr_tail {α:Type} {P:Program} {R:World→List Value→α→Prop} {w:World} {v:Value} {xs:List α} {sz:Nat} (h:SlR sz R w v xs) {t:TypeId} (ht:P.underlying t=some (.slice (P.elem t))) (hs:∀w,(sizeOf (P.elem t)).run P w= .ok sz w) (n:Nat) (hn:n≤xs.length):
  ∃v',(∀w',(Instr.slice t v (some (.int .i64 (n:Int))) none none).run P w'= .ok v' w')∧SlR sz R w v' (xs.drop n):=by
 obtain ⟨rows,h1,h2,h3⟩:=h
 obtain ⟨ao,cap,rfl,hc,hno,hx⟩:=h1.form
 refine ⟨sliced ao n rows.length cap sz,fun w'=> ?_,rows.drop n, ?_,by simp[h2],fun i hi=> ?_⟩
 ·rw[run_slice_l w' t ao rows.length cap ht .i64 (n:Int) (by omega) (by omega),hs]
  simp[Result.andThen]
 ·rcases Nat.eq_zero_or_pos (rows.length - n) with h0|h0
  ·refine Or.inl ⟨if cap=n then ao else ao.map (·.add (n*sz)),cap - n,by rw[sliced,h0], ?_, ?_⟩
   ·intro he
    by_cases hcl:cap=n
    ·omega
    ·rw[if_neg hcl] at he
     cases ao with
     |none=>have:=hno rfl;omega
     |some a=>cases he
   ·apply List.eq_nil_of_length_eq_zero
    rw[List.length_drop]
    exact h0
  ·obtain ⟨hm,b,off,rfl,hcell⟩:=hx (by omega)
   have hl:(rows.drop n).length=rows.length - n:=by simp
   refine Or.inr ⟨b,off+n*sz,cap - n, ?_,by omega,by omega,by omega,fun i hi=> ?_⟩
   ·rw[sliced,hl,if_neg (by omega)]
    simp[Addr.add]
   ·rw[hl] at hi
    have e:(rows.drop n).getD i []=rows.getD (n+i) []:=by
     rw[List.getD_eq_getElem?_getD,List.getD_eq_getElem?_getD,List.getElem?_drop]
    rw[e]
    have:=hcell (n+i) (by omega)
    rw[show off+n*sz+i*sz=off+(n+i)*sz by rw[Nat.add_mul];omega]
    exact this
 ·have hi2:n+i < xs.length:=by simp at hi;omega
  have e:(rows.drop n).getD i []=rows.getD (n+i) []:=by
   rw[List.getD_eq_getElem?_getD,List.getD_eq_getElem?_getD,List.getElem?_drop]
  rw[e,List.getElem_drop]
  exact h3 (n+i) hi2
theorem own_belowN {w w':World} {base:Nat} {e:TypeId} {sz:Nat} {v:Value} {n:Nat} {cs:List Value} (o:w.ownsRow base e sz v n cs) (g:Below w.heap.size w w'):w'.ownsRow base e sz v n cs:=by
 obtain ⟨hl,h3⟩:=o
 refine ⟨hl, ?_⟩
 rcases h3 with h|⟨b,cap,cur,rfl,hb,hg,hc⟩
 ·exact Or.inl h
 ·refine Or.inr ⟨b,cap,cur,rfl,hb, ?_,hc⟩
  rw[g.block b (Array.getElem?_eq_some_iff.1 hg).1]
  exact hg
theorem res_row2 {P:Program} {fn:Func} {p a:Tmp} {ty:TypeId} (h:fn.results=#[.cell p ty, .tmp a]) (tmps:Array Value) (w:World) (g:Nat) (t:TypeId) (cs:Array Value) (fr:Nat×Nat) (d:TypeDesc)
  (hp:tmps.getD p undef= .pointer (some ⟨g,0,none⟩)) (hg:w.heap[g]? =some (.cells cs t fr))
  (hu:P.underlying ty=some d) (hd:(match d with| .struct _| .array _ _=>true|_=>false)=true) (hi:(P.info? ty).map (·.size)=some cs.size):
  (results fn tmps).run P w= .ok (.tuple #[.agg cs,tmps.getD a undef]) w:=by
 have hp':tmps[p]?.getD undef= .pointer (some ⟨g,0,none⟩):=by simpa using hp
 simp[results,h,hp',asAddr,run_loadVar_row w g t ty cs fr d hg hu hd hi]
theorem res_row3 {P:Program} {fn:Func} {p a b:Tmp} {ty:TypeId} (h:fn.results=#[.cell p ty, .tmp a, .tmp b]) (tmps:Array Value) (w:World) (g:Nat) (t:TypeId) (cs:Array Value) (fr:Nat×Nat) (d:TypeDesc)
  (hp:tmps.getD p undef= .pointer (some ⟨g,0,none⟩)) (hg:w.heap[g]? =some (.cells cs t fr))
  (hu:P.underlying ty=some d) (hd:(match d with| .struct _| .array _ _=>true|_=>false)=true) (hi:(P.info? ty).map (·.size)=some cs.size):
  (results fn tmps).run P w= .ok (.tuple #[.agg cs,tmps.getD a undef,tmps.getD b undef]) w:=by
 have hp':tmps[p]?.getD undef= .pointer (some ⟨g,0,none⟩):=by simpa using hp
 simp[results,h,hp',asAddr,run_loadVar_row w g t ty cs fr d hg hu hd hi]
def propR (w:World) (cs:List Value) (x:Pp):Prop:=∃vd,cs=[.string (strOfNums x.1),vd]∧Rd .u8 w vd x.2
def nodR (w:World) (cs:List Value) (x:Nd):Prop:=∃vu vp vc,cs=[.string (strOfNums x.1),vu, .int .i64 x.2.2.1,vp,vc]∧Rd .u32 w vu x.2.1∧SlR 2 propR w vp x.2.2.2.1∧Rd .u32 w vc x.2.2.2.2
theorem propR_below {w w':World} (g:Below w.heap.size w w') (cs:List Value) (x:Pp) (h:propR w cs x):propR w' cs x:=by
 obtain ⟨v,h1,h2⟩:=h
 exact ⟨v,h1,h2.below g⟩
theorem nodR_below {w w':World} (g:Below w.heap.size w w') (cs:List Value) (x:Nd) (h:nodR w cs x):nodR w' cs x:=by
 obtain ⟨vu,vp,vc,h1,h2,h3,h4⟩:=h
 exact ⟨vu,vp,vc,h1,h2.below g,h3.below g (propR_below g),h4.below g⟩
def propO (base:Nat) (w:World) (cs:List Value) (x:Pp):Prop:=∃vd,cs=[.string (strOfNums x.1),vd]∧w.ownsRow base 5 1 vd x.2.length (x.2.map (Value.int .u8))
def nodO (base:Nat) (w:World) (cs:List Value) (x:Nd):Prop:=∃vu vp vc,cs=[.string (strOfNums x.1),vu, .int .i64 x.2.2.1,vp,vc]∧w.ownsRow base 26 1 vu x.2.1.length (x.2.1.map (Value.int .u32))∧OwnR 92 2 (propO base) base w vp x.2.2.2.1∧w.ownsRow base 26 1 vc x.2.2.2.2.length (x.2.2.2.2.map (Value.int .u32))
theorem propO_R {base:Nat} {w:World} (cs:List Value) (x:Pp) (h:propO base w cs x):propR w cs x:=by
 obtain ⟨v,h1,h2⟩:=h
 exact ⟨v,h1,(Rd_own h2).1⟩
theorem nodO_R {base:Nat} {w:World} (cs:List Value) (x:Nd) (h:nodO base w cs x):nodR w cs x:=by
 obtain ⟨vu,vp,vc,h1,h2,h3,h4⟩:=h
 exact ⟨vu,vp,vc,h1,(Rd_own h2).1,h3.read (by decide) propO_R,(Rd_own h4).1⟩
theorem propO_apt {base:Nat} {T:TypeId} (h:¬5=T):Apt T (propO base):=by
 rintro w w' cs x k ⟨v,h1,h2⟩
 exact ⟨v,h1,own_kept k h h2⟩
theorem nodO_apt {base:Nat} {T:TypeId} (h8:¬5=T) (h32:¬26=T) (hp:¬92=T):Apt T (nodO base):=by
 rintro w w' cs x k ⟨vu,vp,vc,h1,h2,h3,h4⟩
 exact ⟨vu,vp,vc,h1,own_kept k h32 h2,h3.kept k hp (propO_apt h8),own_kept k h32 h4⟩
theorem propO_below {base:Nat} {w w':World} (g:Below w.heap.size w w') (cs:List Value) (x:Pp) (h:propO base w cs x):propO base w' cs x:=by
 obtain ⟨v,h1,h2⟩:=h
 exact ⟨v,h1,own_below h2 g⟩
theorem nodO_below {base:Nat} {w w':World} (g:Below w.heap.size w w') (cs:List Value) (x:Nd) (h:nodO base w cs x):nodO base w' cs x:=by
 obtain ⟨vu,vp,vc,h1,h2,h3,h4⟩:=h
 exact ⟨vu,vp,vc,h1,own_below h2 g,h3.below g (propO_below g),own_below h4 g⟩
theorem propO_le {b b':Nat} {w:World} (hb:b≤b') (cs:List Value) (x:Pp) (h:propO b' w cs x):propO b w cs x:=by
 obtain ⟨v,h1,h2⟩:=h
 exact ⟨v,h1,own_le hb h2⟩
theorem nodO_le {b b':Nat} {w:World} (hb:b≤b') (cs:List Value) (x:Nd) (h:nodO b' w cs x):nodO b w cs x:=by
 obtain ⟨vu,vp,vc,h1,h2,h3,h4⟩:=h
 exact ⟨vu,vp,vc,h1,own_le hb h2,h3.le hb (propO_le hb),own_le hb h4⟩
def RdT (w:World) (v:Value) (t:List Nd):Prop:=SlR 5 nodR w v t
def OwnT8 (base:Nat) (w:World) (v:Value) (t:List Nd):Prop:=OwnR 51 5 (nodO base) base w v t
theorem ownT8_read {base:Nat} {w:World} {v:Value} {t:List Nd} (h:OwnT8 base w v t):RdT w v t:=OwnR.read (by decide) h nodO_R
theorem RdT.below {w w':World} {v:Value} {t:List Nd} (h:RdT w v t) (g:Below w.heap.size w w'):RdT w' v t:=SlR.below h g (nodR_below g)
theorem OwnT8.below {base:Nat} {w w':World} {v:Value} {t:List Nd} (h:OwnT8 base w v t) (g:Below w.heap.size w w'):OwnT8 base w' v t:=OwnR.below h g (nodO_below g)
theorem OwnT8.le {b b':Nat} {w:World} {v:Value} {t:List Nd} (hb:b≤b') (h:OwnT8 b' w v t):OwnT8 b w v t:=OwnR.le hb h (nodO_le hb)
def bytN (x:Nd):Prop:=bytesL x.1∧∀p∈x.2.2.2.1,bytesL p.1∧bytesL p.2
def lenN (x:Nd):Prop:=x.1.length≤maxLen∧∀p∈x.2.2.2.1,p.1.length≤maxLen
def sizN (x:Nd):Prop:=x.2.1.length*4≤140737488355328∧x.2.2.2.2.length*4≤140737488355328∧x.2.2.2.1.length*40≤140737488355328∧∀p∈x.2.2.2.1,p.2.length≤140737488355328
theorem uN:Tryz.prog.underlying 27=some (.slice (Tryz.prog.elem 27)):=by kernel_rfl
theorem eN:Tryz.prog.elem 27=51:=by kernel_rfl
theorem zN (w:World):(sizeOf (Tryz.prog.elem 27)).run Tryz.prog w= .ok 5 w:=by rw[eN];exact Tryz.sizeOf51 w
theorem uR:Tryz.prog.underlying 49=some (.slice (Tryz.prog.elem 49)):=by kernel_rfl
theorem eR:Tryz.prog.elem 49=92:=by kernel_rfl
theorem zR (w:World):(sizeOf (Tryz.prog.elem 49)).run Tryz.prog w= .ok 2 w:=by rw[eR];exact Tryz.sizeOf92 w
theorem nod_at {w:World} {v:Value} {t:List Nd} (h:RdT w v t) (i:Nat) (h1:i < t.length):
  ∃(b o:Nat) (nm:ByteArray) (vu vp vc:Value),(∀w',(Instr.indexAt 27 v (.int .i64 (i:Int))).run Tryz.prog w'= .ok (.pointer (some ⟨b,o,none⟩)) w')∧w.cell? ⟨b,o,none⟩=some (.string nm)∧w.cell? ⟨b,o+1,none⟩=some vu∧w.cell? ⟨b,o+2,none⟩=some (.int .i64 t[i].2.2.1)∧w.cell? ⟨b,o+3,none⟩=some vp∧w.cell? ⟨b,o+4,none⟩=some vc∧strOfNums t[i].1=nm∧Rd .u32 w vu t[i].2.1∧SlR 2 propR w vp t[i].2.2.2.1∧Rd .u32 w vc t[i].2.2.2.2:=by
 obtain ⟨b,o,cs,r,hl,hc,vu,vp,vc,rfl,h2,h3,h4⟩:=slr_idxN h uN zN i h1
 exact ⟨b,o,_,vu,vp,vc,r,hc 0 (by omega),hc 1 (by omega),hc 2 (by omega),hc 3 (by omega),hc 4 (by omega),rfl,h2,h3,h4⟩
theorem prp_at8 {w:World} {v:Value} {l:List Pp} (h:SlR 2 propR w v l) (i:Nat) (h1:i < l.length):
  ∃(b o:Nat) (nm:ByteArray) (vd:Value),(∀w',(Instr.indexAt 49 v (.int .i64 (i:Int))).run Tryz.prog w'= .ok (.pointer (some ⟨b,o,none⟩)) w')∧w.cell? ⟨b,o,none⟩=some (.string nm)∧w.cell? ⟨b,o+1,none⟩=some vd∧strOfNums l[i].1=nm∧Rd .u8 w vd l[i].2:=by
 obtain ⟨b,o,cs,r,hl,hc,vd,rfl,h2⟩:=slr_idxN h uR zR i h1
 exact ⟨b,o,_,vd,r,hc 0 (by omega),hc 1 (by omega),rfl,h2⟩
def opR (w:World) (cs:List Value) (x:Opd):Prop:=cs=[.int .i64 x.1, .int .u32 x.2]
theorem opR_below {w w':World} (g:Below w.heap.size w w') (cs:List Value) (x:Opd) (h:opR w cs x):opR w' cs x:=h
def RdO (w:World) (v:Value) (l:List Opd):Prop:=SlR 2 opR w v l
theorem RdO.below {w w':World} {v:Value} {l:List Opd} (h:RdO w v l) (g:Below w.heap.size w w'):RdO w' v l:=SlR.below h g (opR_below g)
theorem uO:Tryz.prog.underlying 32=some (.slice (Tryz.prog.elem 32)):=by kernel_rfl
theorem eO:Tryz.prog.elem 32=118:=by kernel_rfl
theorem zO (w:World):(sizeOf (Tryz.prog.elem 32)).run Tryz.prog w= .ok 2 w:=by rw[eO];exact Tryz.sizeOf118 w
theorem op_at {w:World} {v:Value} {l:List Opd} (h:RdO w v l) (i:Nat) (h1:i < l.length):
  ∃(b o:Nat),(∀w',(Instr.indexAt 32 v (.int .i64 (i:Int))).run Tryz.prog w'= .ok (.pointer (some ⟨b,o,none⟩)) w')∧w.cell? ⟨b,o,none⟩=some (.int .i64 l[i].1)∧w.cell? ⟨b,o+1,none⟩=some (.int .u32 l[i].2):=by
 obtain ⟨b,o,cs,r,hl,hc,h2⟩:=slr_idxN h uO zO i h1
 have h3:cs=[.int .i64 l[i].1, .int .u32 l[i].2]:=h2
 subst h3
 exact ⟨b,o,r,hc 0 (by omega),hc 1 (by omega)⟩
end Go.Proofs.YtlokhciaaepenaaGreatDoor
