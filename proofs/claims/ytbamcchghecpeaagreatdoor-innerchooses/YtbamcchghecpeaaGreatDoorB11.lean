import Derived.Deep.Cut
import Derived.Deep.CutRange
import Derived.Test.YtbamcchghecpeaaGreatDoorB10
set_option linter.unusedVariables false
set_option linter.unusedSimpArgs false
set_option maxRecDepth 100000
namespace Go.Proofs.YtbamcchghecpeaaGreatDoor
open Go.ChangeShapes Go.WideShapes Go.ChangeAt Go.RowKit
def RwI {α:Type} (e:TypeId) (sz:Nat) (O:World→List Value→α→Prop) (base:Nat) (v:Value) (l:List α) (rows:List (List Value)) (i:Nat) (wx:World):Prop:=
 ∃rs:List (List Value),rs.length=l.length∧(∀r∈rs,r.length=sz)∧wx.ownsRow base e sz v l.length rs.flatten∧(∀j (h:j < l.length),j < i→O wx (rs.getD j []) l[j])∧∀j,i≤j→rs.getD j []=rows.getD j []
theorem RwI.start {α:Type} {e:TypeId} {sz:Nat} {O:World→List Value→α→Prop} {base:Nat} {v:Value} {l:List α} {rows:List (List Value)} {wx:World} (h1:rows.length=l.length) (h2:∀r∈rows,r.length=sz) (h3:wx.ownsRow base e sz v l.length rows.flatten):RwI e sz O base v l rows 0 wx:=
 ⟨rows,h1,h2,h3,fun j h hj=>by omega,fun j _=>rfl⟩
theorem RwI.done {α:Type} {e:TypeId} {sz:Nat} {O:World→List Value→α→Prop} {base:Nat} {v:Value} {l:List α} {rows:List (List Value)} {wx:World} {i:Nat} (h:RwI e sz O base v l rows i wx) (hi:l.length≤i):OwnR e sz O base wx v l:=by
 obtain ⟨rs,h1,h2,h3,h4,h5⟩:=h
 exact ⟨rs,h1,h2,h3,fun j hj=>h4 j hj (by omega)⟩
theorem RwI.row {α:Type} {e:TypeId} {sz:Nat} {O:World→List Value→α→Prop} {base:Nat} {v:Value} {l:List α} {rows:List (List Value)} {wx:World} {i:Nat} (h:RwI e sz O base v l rows i wx):∃cs,wx.ownsRow base e sz v l.length cs:=by
 obtain ⟨rs,h1,h2,h3,h4,h5⟩:=h
 exact ⟨_,h3⟩
theorem RwI.kept {α:Type} {T e:TypeId} {sz:Nat} {O:World→List Value→α→Prop} {base:Nat} {v:Value} {l:List α} {rows:List (List Value)} {w w':World} {i:Nat} (h:RwI e sz O base v l rows i w) (k:Kept T w w') (hne:¬e=T) (ha:Apt T O):RwI e sz O base v l rows i w':=by
 obtain ⟨rs,h1,h2,h3,h4,h5⟩:=h
 exact ⟨rs,h1,h2,own_kept k hne h3,fun j hj hji=>ha _ _ _ _ k (h4 j hj hji),h5⟩
theorem RwI.below {α:Type} {e:TypeId} {sz:Nat} {O:World→List Value→α→Prop} {base:Nat} {v:Value} {l:List α} {rows:List (List Value)} {w w':World} {i:Nat} (h:RwI e sz O base v l rows i w) (g:Below w.heap.size w w') (hO:∀cs x,O w cs x→O w' cs x):RwI e sz O base v l rows i w':=by
 obtain ⟨rs,h1,h2,h3,h4,h5⟩:=h
 exact ⟨rs,h1,h2,own_belowN h3 g,fun j hj hji=>hO _ _ (h4 j hj hji),h5⟩
theorem RwI.cell {α:Type} {e:TypeId} {sz:Nat} {O:World→List Value→α→Prop} {base g cap:Nat} {l:List α} {rows:List (List Value)} {w:World} {i:Nat} (h:RwI e sz O base (.slice (some ⟨g,0,none⟩) l.length cap) l rows i w) (hi:i < l.length) (j:Nat) (hj:j < sz) (u:Value) (hu:(rows.getD i [])[j]? =some u):w.cell? ⟨g,i*sz+j,none⟩=some u:=by
 obtain ⟨rs,h1,h2,h3,h4,h5⟩:=h
 exact own_cell h3 (i*sz+j) u (by rw[flat_get rs sz i j h2 (by omega) hj,h5 i (Nat.le_refl _)];exact hu)
theorem RwI.free {α:Type} {e:TypeId} {sz:Nat} {O:World→List Value→α→Prop} {base g cap:Nat} {l:List α} {rows:List (List Value)} {w:World} {i:Nat} (h:RwI e sz O base (.slice (some ⟨g,0,none⟩) l.length cap) l rows i w) (j:Nat):w.frozen? ⟨g,j,none⟩=false:=by
 obtain ⟨rs,h1,h2,h3,h4,h5⟩:=h
 exact h3.frozenAt j
theorem RwI.step {α:Type} {e:TypeId} {sz:Nat} {O:World→List Value→α→Prop} {base g cap:Nat} {l:List α} {rows:List (List Value)} {w:World} {i:Nat} (h:RwI e sz O base (.slice (some ⟨g,0,none⟩) l.length cap) l rows i w) (hi:i < l.length) (j:Nat) (hj:j < sz) (u:Value) (ha:Apt e O) (hx:O w ((rows.getD i []).set j u) (l[i]'hi)):
  RwI e sz O base (.slice (some ⟨g,0,none⟩) l.length cap) l rows (i+1) (w.setCell ⟨g,i*sz+j,none⟩ u)∧Kept e w (w.setCell ⟨g,i*sz+j,none⟩ u):=by
 obtain ⟨rs,h1,h2,h3,h4,h5⟩:=h
 obtain ⟨s1,s2⟩:=h3.stored (i*sz+j) u
 have k:Kept e w (w.setCell ⟨g,i*sz+j,none⟩ u):=Kept.own (v:= .slice (some ⟨g,0,none⟩) l.length cap) h3 s2
 rw[flat_set rs sz i j u h2 (by omega) hj] at s1
 have hri:=h5 i (Nat.le_refl _)
 refine ⟨⟨rs.set i ((rs.getD i []).set j u),by simpa using h1,fun r hr=> ?_,s1,fun m hm hmi=> ?_,fun m hm=> ?_⟩,k⟩
 ·rcases List.mem_or_eq_of_mem_set hr with hr|rfl
  ·exact h2 r hr
  ·rw[List.length_set,List.getD_eq_getElem?_getD,List.getElem?_eq_getElem (by omega)]
   exact h2 _ (List.getElem_mem _)
 ·by_cases he:m=i
  ·subst he
   rw[List.getD_eq_getElem?_getD (l:=rs.set m _),List.getElem?_set_self (by omega),Option.getD_some,hri]
   exact ha _ _ _ _ k hx
  ·rw[List.getD_eq_getElem?_getD,List.getElem?_set_ne (fun q=>he q.symm),←List.getD_eq_getElem?_getD]
   exact ha _ _ _ _ k (h4 m hm (by omega))
 ·rw[List.getD_eq_getElem?_getD,List.getElem?_set_ne (by omega),←List.getD_eq_getElem?_getD]
  exact h5 m (by omega)
theorem op_rows {w:World} {l:List Opd} {rows:List (List Value)} (g2:rows.length=l.length) (g3:∀i (h:i < l.length),opR w (rows.getD i []) l[i]):(∀r∈rows,r.length=2)∧∀r∈rows,∀u∈r,u.oneCell'=true:=by
 have hr:∀r∈rows,∃a b,r=[.int .i64 a, .int .u32 b]:=by
  intro r hr
  obtain ⟨i,hi,rfl⟩:=List.getElem_of_mem hr
  have:=g3 i (by omega)
  rw[List.getD_eq_getElem?_getD,List.getElem?_eq_getElem hi] at this
  exact ⟨_,_,this⟩
 constructor
 ·intro r h
  obtain ⟨a,b,rfl⟩:=hr r h
  rfl
 ·intro r h u hu
  obtain ⟨a,b,rfl⟩:=hr r h
  simp at hu
  rcases hu with rfl|rfl <;> rfl
theorem w_pcloneOps (v:Value) (l:List Opd) (w:World) (h:RdO w v l) (hz:l.length*16≤140737488355328):
  Calls Tryz.prog 56 #[v] w fun e w'=>∃v1,e= .returned v1∧OwO w.heap.size w' v1 l∧Below w.heap.size w w':=by
 obtain ⟨rows,g1,g2,g3⟩:=h
 obtain ⟨h1,h2⟩:=op_rows g2 g3
 refine (w_pcloneO v rows w g1 h2 (by omega)).mono ?_
 rintro e w' ⟨v1,rfl,o,b⟩
 exact ⟨v1,rfl,⟨rows,g2,h1,by rw[←g2];exact o,fun i hi=>g3 i hi⟩,b⟩
theorem wrd_rows {w:World} {l:List Wd} {rows:List (List Value)} (g2:rows.length=l.length) (g3:∀i (h:i < l.length),wrdR w (rows.getD i []) l[i]):(∀r∈rows,r.length=5)∧∀r∈rows,∀u∈r,u.oneCell'=true:=by
 have hr:∀r∈rows,∃a b c d e n f,r=[.string a, .int .i64 b, .int .i64 c, .int .u32 d, .slice e n f]:=by
  intro r hr
  obtain ⟨i,hi,rfl⟩:=List.getElem_of_mem hr
  obtain ⟨vc,e,q⟩:=g3 i (by omega)
  obtain ⟨ca,cq,rfl⟩:=slr_slice q
  rw[List.getD_eq_getElem?_getD,List.getElem?_eq_getElem hi] at e
  exact ⟨_,_,_,_,_,_,_,e⟩
 constructor
 ·intro r h
  obtain ⟨a,b,c,d,e,n,f,rfl⟩:=hr r h
  rfl
 ·intro r h u hu
  obtain ⟨a,b,c,d,e,n,f,rfl⟩:=hr r h
  simp at hu
  rcases hu with rfl|rfl|rfl|rfl|rfl <;> rfl
theorem ins_rows {w:World} {l:List Iz} {rows:List (List Value)} (g2:rows.length=l.length) (g3:∀i (h:i < l.length),insR w (rows.getD i []) l[i]):(∀r∈rows,r.length=4)∧∀r∈rows,∀u∈r,u.oneCell'=true:=by
 have hr:∀r∈rows,∃a b c e n f,r=[.int .i64 a, .int .i64 b, .string c, .slice e n f]:=by
  intro r hr
  obtain ⟨i,hi,rfl⟩:=List.getElem_of_mem hr
  obtain ⟨vc,e,q⟩:=g3 i (by omega)
  obtain ⟨ca,cq,rfl⟩:=rd_slice q
  rw[List.getD_eq_getElem?_getD,List.getElem?_eq_getElem hi] at e
  exact ⟨_,_,_,_,_,_,e⟩
 constructor
 ·intro r h
  obtain ⟨a,b,c,e,n,f,rfl⟩:=hr r h
  rfl
 ·intro r h u hu
  obtain ⟨a,b,c,e,n,f,rfl⟩:=hr r h
  simp at hu
  rcases hu with rfl|rfl|rfl|rfl <;> rfl
structure Cpy (base:Nat) (w:World) (vs vm vw vc vt:Value) (m:Mc):Prop where
 stack:w.ownsRow base 26 1 vs m.stack.length (m.stack.map (Value.int .u32))
 mem:w.ownsRow base 5 1 vm m.mem.length (m.mem.map (Value.int .u8))
 words:OwW base w vw m.words
 codes:w.ownsRow base 3 1 vc m.codes.length (m.codes.map (Value.int .i64))
 tree:OwnT8 base w vt m.tree
theorem Cpy.below {base:Nat} {w w':World} {vs vm vw vc vt:Value} {m:Mc} (h:Cpy base w vs vm vw vc vt m) (g:Below w.heap.size w w'):Cpy base w' vs vm vw vc vt m:=
 ⟨own_below h.stack g,own_below h.mem g,OwnR.below h.words g (wrdO_below g),own_below h.codes g,h.tree.below g⟩
theorem Cpy.kept {base:Nat} {T:TypeId} {w w':World} {vs vm vw vc vt:Value} {m:Mc} (h:Cpy base w vs vm vw vc vt m) (k:Kept T w w') (h8:¬5=T) (h32:¬26=T) (hp:¬93=T) (hn:¬91=T) (hi:¬3=T) (hw:¬59=T) (ho:¬47=T):Cpy base w' vs vm vw vc vt m:=
 ⟨own_kept k h32 h.stack,own_kept k h8 h.mem,OwnR.kept h.words k hw (wrdO_apt ho),own_kept k hi h.codes,OwnR.kept h.tree k hn (nodO_apt h8 h32 hp)⟩
def kX (T:TypeId):Bool:=kR T||(T==62||T==30)
theorem kX_kR (T:TypeId) (h:kX T=false):kR T=false:=by
 unfold kX at h
 simp only[Bool.or_eq_false_iff] at h
 exact h.1
theorem propO_agrX {D:Nat→Prop} {base:Nat} {w w':World} (g:Agr kX D w w') (hD:∀b,D b→b < base) (cs:List Value) (x:Pp) (h:propO base w cs x):propO base w' cs x:=by
 obtain ⟨v,h1,h2⟩:=h
 exact ⟨v,h1,own_stb h2 rfl hD w' g⟩
theorem nodO_agrX {D:Nat→Prop} {base:Nat} {w w':World} (g:Agr kX D w w') (hD:∀b,D b→b < base) (cs:List Value) (x:Nd) (h:nodO base w cs x):nodO base w' cs x:=by
 obtain ⟨vu,vp,vc,h1,h2,h3,h4⟩:=h
 exact ⟨vu,vp,vc,h1,own_stb h2 rfl hD w' g,h3.agr g rfl hD (propO_agrX g hD),own_stb h4 rfl hD w' g⟩
structure CpA (B:Nat) (D:Nat→Prop) (w:World) (vs vm vw vc vt:Value) (m:Mc):Prop where
 stack:Stb kX D w (fun u=>Rd .u32 u vs m.stack)
 mem:Stb kX D w (fun u=>Rd .u8 u vm m.mem)
 words:WdL kX D B w vw m.words
 codes:Stb kX D w (fun u=>Rd .i64 u vc m.codes)
 tree:Stb kX D w (fun u=>RdT u vt m.tree)
theorem stb_old {K:TypeId→Bool} {w:World} {φ:World→Prop} (h:Stb K (fun _=>False) w φ):Stb K (fun k=>w.heap.size≤k) w φ:=h.mono (fun _ q=>q) (fun k hk d=>absurd hk (Nat.not_lt.2 d))
theorem CpA.of {B:Nat} {w:World} {vs vm vw vc vt:Value} {m:Mc} (h:Cpy B w vs vm vw vc vt m):CpA B (fun k=>w.heap.size≤k) w vs vm vw vc vt m:=by
 refine ⟨stb_old ((own_stb h.stack rfl (fun b d=>d.elim)).imp (fun _ o=>(Rd_own o).1)),stb_old ((own_stb h.mem rfl (fun b d=>d.elim)).imp (fun _ o=>(Rd_own o).1)), ?_,stb_old ((own_stb h.codes rfl (fun b d=>d.elim)).imp (fun _ o=>(Rd_own o).1)),stb_old (fun w' g=>ownT8_read (OwnR.agr h.tree g rfl (fun b d=>d.elim) (nodO_agrX g (fun b d=>d.elim))))⟩
 obtain ⟨rows,h1,h2,h3,h4⟩:=h.words
 refine ⟨rows,h1,h2,h3,fun i hi=> ?_⟩
 obtain ⟨vc,e,o⟩:=h4 i hi
 exact ⟨vc,e,stb_old (fun w' g=>OwO.read (OwnR.agr o g rfl (fun b d=>d.elim) (fun _ _ x=>x)))⟩
theorem CpA.kept {B:Nat} {D:Nat→Prop} {T:TypeId} {w w':World} {vs vm vw vc vt:Value} {m:Mc} (h:CpA B D w vs vm vw vc vt m) (k:Kept T w w') (hT:kX T=true) (hw:¬59=T):CpA B D w' vs vm vw vc vt m:=by
 have a:Agr kX D w w':=Agr.kept k hT
 refine ⟨h.stack.agr a,h.mem.agr a,h.words.agr a ?_,h.codes.agr a,h.tree.agr a⟩
 obtain ⟨rows,h1,h2,h3,h4⟩:=h.words
 exact own_kept' k h3 hw
theorem CpA.below {B:Nat} {D:Nat→Prop} {w w':World} {vs vm vw vc vt:Value} {m:Mc} (h:CpA B D w vs vm vw vc vt m) (g:Below w.heap.size w w'):CpA B D w' vs vm vw vc vt m:=h.kept (Kept.below g:Kept 62 w w') rfl (by decide)
def cb (r:List Value):Option Nat:=(r.getD 3 (.slice none 0 0)).ownBlock
def RwA (B B1:Nat) (v:Value) (l:List Iz) (rows:List (List Value)) (i:Nat) (wx:World):Prop:=
 ∃rs:List (List Value),rs.length=l.length∧(∀r∈rs,r.length=4)∧wx.ownsRow B 62 4 v l.length rs.flatten∧(∀k,v.ownBlock=some k→k < B1)∧B1≤wx.heap.size∧
  (∀j (h:j < l.length),j < i→insO B1 wx (rs.getD j []) l[j])∧(∀j,i≤j→rs.getD j []=rows.getD j [])∧∀a b k,a < b→b < i→b < l.length→cb (rs.getD a [])=some k→cb (rs.getD b [])≠some k
theorem RwA.rwi {B B1:Nat} {v:Value} {l:List Iz} {rows:List (List Value)} {i:Nat} {wx:World} (h:RwA B B1 v l rows i wx):RwI 62 4 (insO B1) B v l rows i wx:=by
 obtain ⟨rs,h1,h2,h3,h4,h5,h6,h7,h8⟩:=h
 exact ⟨rs,h1,h2,h3,h6,h7⟩
theorem RwA.start {B:Nat} {v:Value} {l:List Iz} {rows:List (List Value)} {wx:World} (h1:rows.length=l.length) (h2:∀r∈rows,r.length=4) (h3:wx.ownsRow B 62 4 v l.length rows.flatten):RwA B wx.heap.size v l rows 0 wx:=
 ⟨rows,h1,h2,h3,fun k hk=>(h3.lt k hk).2,Nat.le_refl _,fun j h hj=>by omega,fun j _=>rfl,fun a b k h1 h2=>by omega⟩
theorem RwA.kept {B B1:Nat} {T:TypeId} {v:Value} {l:List Iz} {rows:List (List Value)} {i:Nat} {w w':World} (h:RwA B B1 v l rows i w) (k:Kept T w w') (hne:¬62=T) (h32:¬26=T):RwA B B1 v l rows i w':=by
 obtain ⟨rs,h1,h2,h3,h4,h5,h6,h7,h8⟩:=h
 have sz:w.heap.size≤w'.heap.size:=by
  obtain ⟨row,g,hr⟩:=k
  exact g.size
 exact ⟨rs,h1,h2,own_kept k hne h3,h4,Nat.le_trans h5 sz,fun j hj hji=>insO_apt h32 _ _ _ _ k (h6 j hj hji),h7,h8⟩
theorem RwA.below {B B1:Nat} {v:Value} {l:List Iz} {rows:List (List Value)} {i:Nat} {w w':World} (h:RwA B B1 v l rows i w) (g:Below w.heap.size w w'):RwA B B1 v l rows i w':=h.kept (Kept.below g:Kept 30 w w') (by decide) (by decide)
theorem RwA.step {B B1 g cap:Nat} {l:List Iz} {rows:List (List Value)} {i:Nat} {w0 w:World} (h:RwA B B1 (.slice (some ⟨g,0,none⟩) l.length cap) l rows i w0) (bD:Below w0.heap.size w0 w) (hi:i < l.length) (u:Value) (hu:∀k,u.ownBlock=some k→w0.heap.size≤k) (hx:insO B1 w ((rows.getD i []).set 3 u) (l[i]'hi)):
  RwA B B1 (.slice (some ⟨g,0,none⟩) l.length cap) l rows (i+1) (w.setCell ⟨g,i*4+3,none⟩ u)∧Kept 62 w (w.setCell ⟨g,i*4+3,none⟩ u):=by
 have old:∀rs:List (List Value),(∀j (h:j < l.length),j < i→insO B1 w0 (rs.getD j []) l[j])→∀a k,a < i→cb (rs.getD a [])=some k→k < w0.heap.size:=by
  intro rs h6 a k ha hk
  obtain ⟨vc,e,o⟩:=h6 a (by omega) ha
  rw[e] at hk
  exact (o.lt k hk).2
 obtain ⟨rs,h1,h2,h3,h4,h5,h6,h7,h8⟩:=h
 have old':=old rs h6
 have h3':=own_belowN h3 bD
 obtain ⟨s1,s2⟩:=h3'.stored (i*4+3) u
 have k:Kept 62 w (w.setCell ⟨g,i*4+3,none⟩ u):=Kept.own (v:= .slice (some ⟨g,0,none⟩) l.length cap) h3' s2
 rw[flat_set rs 4 i 3 u h2 (by omega) (by omega)] at s1
 have hri:=h7 i (Nat.le_refl _)
 have hl4:(rs.getD i []).length=4:=by
  rw[List.getD_eq_getElem?_getD,List.getElem?_eq_getElem (by omega)]
  exact h2 _ (List.getElem_mem _)
 have sz:w.heap.size≤(w.setCell ⟨g,i*4+3,none⟩ u).heap.size:=by
  obtain ⟨row,gg,hr⟩:=k
  exact gg.size
 have gi:(rs.set i ((rs.getD i []).set 3 u)).getD i []=(rs.getD i []).set 3 u:=by
  rw[List.getD_eq_getElem?_getD (l:=rs.set i _),List.getElem?_set_self (by omega),Option.getD_some]
 have gn:∀m,¬m=i→(rs.set i ((rs.getD i []).set 3 u)).getD m []=rs.getD m []:=by
  intro m hm
  rw[List.getD_eq_getElem?_getD,List.getElem?_set_ne (fun q=>hm q.symm),←List.getD_eq_getElem?_getD]
 have cbi:cb ((rs.getD i []).set 3 u)=u.ownBlock:=by
  unfold cb
  rw[List.getD_eq_getElem?_getD,List.getElem?_set_self (by omega),Option.getD_some]
 refine ⟨⟨rs.set i ((rs.getD i []).set 3 u),by simpa using h1,fun r hr=> ?_,s1,h4,Nat.le_trans h5 (Nat.le_trans bD.size sz),fun m hm hmi=> ?_,fun m hm=> ?_,fun a b kk hab hbi hbl ha=> ?_⟩,k⟩
 ·rcases List.mem_or_eq_of_mem_set hr with hr|rfl
  ·exact h2 r hr
  ·rw[List.length_set]
   exact hl4
 ·by_cases he:m=i
  ·subst he
   rw[gi,hri]
   exact insO_apt (by decide) _ _ _ _ k hx
  ·rw[gn m he]
   exact insO_apt (by decide) _ _ _ _ k (insO_below bD _ _ (h6 m hm (by omega)))
 ·rw[gn m (by omega)]
  exact h7 m (by omega)
 ·rw[gn a (by omega)] at ha
  by_cases he:b=i
  ·subst he
   rw[gi,cbi]
   intro hk
   have:=hu kk hk
   have:=old' a kk hab ha
   omega
  ·rw[gn b he]
   exact h8 a b kk hab (by omega) hbl ha
structure CpL (B:Nat) (D:Nat→Prop) (w:World) (v:Mv) (m:Mc) (o:ByteArray):Prop where
 stack:Stb kR D w (fun u=>Rd .u32 u v.vs m.stack)
 mem:Stb kR D w (fun u=>Rd .u8 u v.vm m.mem)
 codes:Stb kR D w (fun u=>Rd .i64 u v.vc m.codes)
 tree:Stb kR D w (fun u=>RdT u v.vt m.tree)
 out:strOfNums m.out=o
 wd:WdL kR D B w v.vw m.words
 ins:InL kR D B w v.vi m.insts
 hD:∀k,D k→B≤k∧k < w.heap.size
theorem slc_own4 {B:Nat} {w:World} {v:Value} {n:Nat} {rows:List (List Value)} (hn:rows.length=n) (h2:∀r∈rows,r.length=4) (o:w.ownsRow B 62 4 v n rows.flatten):SlC 4 w v rows:=by
 have h5:SlR 4 (fun _ cs (r:List Value)=>cs=r) w v rows:=slr_rows (n:=n) (e:=62) (base:=B) id h2 (by decide) (by simpa [List.flatMap_id] using o) (fun _ _=>rfl)
 obtain ⟨rows',k1,k2,k3⟩:=h5
 have e0:rows'=rows:=by
  apply List.ext_getElem k2
  intro i hi hj
  have:=k3 i hj
  rw[List.getD_eq_getElem?_getD,List.getElem?_eq_getElem hi] at this
  exact this
 rw[e0] at k1
 exact k1
theorem CpL.of {B B1:Nat} {w:World} {v:Mv} {m:Mc} {o:ByteArray} {rows:List (List Value)} {i:Nat} (P:CpA B (fun k=>B1≤k) w v.vs v.vm v.vw v.vc v.vt m) (I:RwA B B1 v.vi m.insts rows i w) (hi:m.insts.length≤i) (hB:B≤B1) (ho:strOfNums m.out=o):CpL B (fun k=>B1≤k∧k < w.heap.size) w v m o:=by
 have lift:∀{φ:World→Prop},Stb kX (fun k=>B1≤k) w φ→Stb kR (fun k=>B1≤k∧k < w.heap.size) w φ:=fun h=>h.mono kX_kR (fun k hk d=>d.1)
 refine ⟨lift P.stack,lift P.mem,lift P.codes,lift P.tree,ho, ?_, ?_,fun k hk=>⟨Nat.le_trans hB hk.1,hk.2⟩⟩
 ·obtain ⟨rs,h1,h2,h3,h4⟩:=P.words
  refine ⟨rs,h1,h2,h3,fun i hi=> ?_⟩
  obtain ⟨vc,e,s⟩:=h4 i hi
  exact ⟨vc,e,lift s⟩
 ·obtain ⟨rs,h1,h2,h3,h4,h5,h6,h7,h8⟩:=I
  refine ⟨rs,h1,h2, ?_,fun j hj=> ?_,fun a b k hab hbl ha=> ?_⟩
  ·intro w' g
   exact slc_own4 h1 h2 (own_agr g rfl (fun b hb d=>by have:=h4 b hb;have:=d.1;omega) h3)
  ·obtain ⟨vc,e,ow⟩:=h6 j hj (by omega)
   exact ⟨vc,e,own_le hB ow,fun k hk=>ow.lt k hk⟩
  ·exact h8 a b k hab (by omega) hbl ha
theorem set10X {w:World} {b:Nat} {z0 z1 z2 z3 z4 z5 z6 z7 z8 z9:Value} {T:TypeId} (h:Stands w b #[z0,z1,z2,z3,z4,z5,z6,z7,z8,z9] T) (a0 a1 a2 a3 a4 a5 a6 a7 a8 a9:Value):
  Stands ((((((((((w.setCell ⟨b,0,none⟩ a0).setCell ⟨b,1,none⟩ a1).setCell ⟨b,2,none⟩ a2).setCell ⟨b,3,none⟩ a3).setCell ⟨b,4,none⟩ a4).setCell ⟨b,5,none⟩ a5).setCell ⟨b,6,none⟩ a6).setCell ⟨b,7,none⟩ a7).setCell ⟨b,8,none⟩ a8).setCell ⟨b,9,none⟩ a9) b #[a0,a1,a2,a3,a4,a5,a6,a7,a8,a9] T∧∀Q:World→Prop,(∀u u',Kept T u u'→Q u→Q u')→Q w→Q ((((((((((w.setCell ⟨b,0,none⟩ a0).setCell ⟨b,1,none⟩ a1).setCell ⟨b,2,none⟩ a2).setCell ⟨b,3,none⟩ a3).setCell ⟨b,4,none⟩ a4).setCell ⟨b,5,none⟩ a5).setCell ⟨b,6,none⟩ a6).setCell ⟨b,7,none⟩ a7).setCell ⟨b,8,none⟩ a8).setCell ⟨b,9,none⟩ a9):=by
 have h0:=h.set 0 a0
 have h1:=h0.set 1 a1
 have h2:=h1.set 2 a2
 have h3:=h2.set 3 a3
 have h4:=h3.set 4 a4
 have h5:=h4.set 5 a5
 have h6:=h5.set 6 a6
 have h7:=h6.set 7 a7
 have h8:=h7.set 8 a8
 have h9:=h8.set 9 a9
 exact ⟨by simpa only[List.setIfInBounds_toArray,List.set_cons_zero,List.set_cons_succ] using h9,fun Q hQ q=>hQ _ _ (set_kept h8 9 a9) (hQ _ _ (set_kept h7 8 a8) (hQ _ _ (set_kept h6 7 a7) (hQ _ _ (set_kept h5 6 a6) (hQ _ _ (set_kept h4 5 a5) (hQ _ _ (set_kept h3 4 a4) (hQ _ _ (set_kept h2 3 a3) (hQ _ _ (set_kept h1 2 a2) (hQ _ _ (set_kept h0 1 a1) (hQ _ _ (set_kept h 0 a0) (q))))))))))⟩
theorem idx_wrdX (g n cap i:Nat) (hi:i < n):∀w',(Instr.indexAt 24 (.slice (some ⟨g,0,none⟩) n cap) (.int .i64 (i:Int))).run Tryz.prog w'= .ok (.pointer (some ⟨g,i*5,none⟩)) w':=by
 intro w'
 rw[run_indexAt_slice (h:=uW),if_pos ⟨by omega,by omega⟩,zW]
 simp only[Result.andThen,Int.toNat_natCast]
 congr 3
 unfold Addr.add
 split
 ·rename_i hz;rw[hz]
 ·simp
theorem idx_insX (g n cap i:Nat) (hi:i < n):∀w',(Instr.indexAt 28 (.slice (some ⟨g,0,none⟩) n cap) (.int .i64 (i:Int))).run Tryz.prog w'= .ok (.pointer (some ⟨g,i*4,none⟩)) w':=by
 intro w'
 rw[run_indexAt_slice (h:=uI),if_pos ⟨by omega,by omega⟩,zI]
 simp only[Result.andThen,Int.toNat_natCast]
 congr 3
 unfold Addr.add
 split
 ·rename_i hz;rw[hz]
 ·simp
set_option maxHeartbeats 8000000 in
set_option maxRecDepth 100000 in
theorem w_copyL (m:Mc) (v:Mv) (o:ByteArray) (w:World) (h:RdM w v m o) (z:gM m):
  Calls Tryz.prog 40 #[.agg (v.cs m o)] w fun e w'=>∃v1,e= .returned (.agg (v1.cs m o))∧(∃D,CpL w.heap.size D w' v1 m o)∧Below w.heap.size w w':=by
 obtain ⟨vs,vm,vw,vc,vt,vi⟩:=v
 obtain ⟨hs,hm,hw,hc,ht,hi,ho⟩:=h
 simp only at hs hm hw hc ht hi
 obtain ⟨sa,sq,rfl⟩:=rd_slice hs
 obtain ⟨ma,mq,rfl⟩:=rd_slice hm
 obtain ⟨wa,wq,rfl⟩:=slr_slice hw
 obtain ⟨ca,cq,rfl⟩:=rd_slice hc
 obtain ⟨ta,tq,rfl⟩:=slr_slice ht
 obtain ⟨ia,iq,rfl⟩:=slr_slice hi
 have c32:=fun W (b:Below w.heap.size w W)=>w_pclone32 _ _ W (hs.below b) (by have:=z.stackZ;omega)
 have c8:=fun W (b:Below w.heap.size w W)=>w_pclone8 _ _ W (hm.below b) (by have:=z.memZ;omega)
 have cJ:=fun W (b:Below w.heap.size w W)=>w_pcloneJ _ _ W (hc.below b) (by have:=z.codesZ;omega)
 have cT:=fun W (b:Below w.heap.size w W)=>w_p8copyS _ _ W (RdT.below ht b) (by have:=z.treeZ;omega) (fun x hx=>(z.tree x hx).2.2.1)
 have mw:=z.wordsZ
 have mi:=z.instsZ
 have gzw:=fun x hx=>(z.words x hx).siz
 have gzi:=fun x hx=>(z.insts x hx).siz
 obtain ⟨rows,hr1,hr2,hr3⟩:=hw
 obtain ⟨irows,hi1,hi2,hi3⟩:=hi
 obtain ⟨hrl,hro⟩:=wrd_rows hr2 hr3
 obtain ⟨hil',hio⟩:=ins_rows hi2 hi3
 have cW:=fun W (b:Below w.heap.size w W)=>w_pcloneW _ rows W (hr1.below b) hro (by omega)
 have cI:=fun W (b:Below w.heap.size w W)=>w_pcloneI _ irows W (hi1.below b) hio (by omega)
 simp only[hr2] at cW
 simp only[hi2] at cI
 have c32i:=fun (i:Nat) (hil:i < m.insts.length) (vx:Value) (hx:Rd .u32 w vx m.insts[i].2.2.2) W (b:Below w.heap.size w W)=>w_pclone32 vx _ W (hx.below b) (by have:=gzi _ (List.getElem_mem hil);omega)
 have cO:=fun (i:Nat) (hil:i < m.words.length) (vx:Value) (hx:RdO w vx m.words[i].2.2.2.2) W (b:Below w.heap.size w W)=>w_pcloneOps vx _ W (RdO.below hx b) (by have:=gzw _ (List.getElem_mem hil);omega)
 have C32i:=hid c32i
 have CO:=hid cO
 have CW:=hid cW
 have CI:=hid cI
 have CJ:=hid cJ
 have CT:=hid cT
 have C8:=hid c8
 have HR3:=hid hr3
 have HI3:=hid hi3
 have HR2:=hid hr2
 have HI2:=hid hi2
 have HRL:=hid hrl
 have HIL:=hid hil'
 have HO:=hid ho
 have s0:=(stands_new w #[.slice sa m.stack.length sq, .slice ma m.mem.length mq, .slice wa m.words.length wq, .slice ca m.codes.length cq, .int .u32 m.base, .slice ta m.tree.length tq, .int .i64 m.node, .slice ia m.insts.length iq, .int .i64 m.self, .string o] 30).below (box_below (w.alloc (.cells #[.slice sa m.stack.length sq, .slice ma m.mem.length mq, .slice wa m.words.length wq, .slice ca m.codes.length cq, .int .u32 m.base, .slice ta m.tree.length tq, .int .i64 m.node, .slice ia m.insts.length iq, .int .i64 m.self, .string o] 30)) (.cells #[.slice none 0 0, .slice none 0 0, .slice none 0 0, .slice none 0 0, .int .u32 0, .slice none 0 0, .int .i64 0, .slice none 0 0, .int .i64 0, .string ⟨#[]⟩] 30))
 have s1:=stands_new (w.alloc (.cells #[.slice sa m.stack.length sq, .slice ma m.mem.length mq, .slice wa m.words.length wq, .slice ca m.codes.length cq, .int .u32 m.base, .slice ta m.tree.length tq, .int .i64 m.node, .slice ia m.insts.length iq, .int .i64 m.self, .string o] 30)) #[.slice none 0 0, .slice none 0 0, .slice none 0 0, .slice none 0 0, .int .u32 0, .slice none 0 0, .int .i64 0, .slice none 0 0, .int .i64 0, .string ⟨#[]⟩] 30
 have bw:=below_trans (box_below w (.cells #[.slice sa m.stack.length sq, .slice ma m.mem.length mq, .slice wa m.words.length wq, .slice ca m.codes.length cq, .int .u32 m.base, .slice ta m.tree.length tq, .int .i64 m.node, .slice ia m.insts.length iq, .int .i64 m.self, .string o] 30)) (box_below (w.alloc (.cells #[.slice sa m.stack.length sq, .slice ma m.mem.length mq, .slice wa m.words.length wq, .slice ca m.codes.length cq, .int .u32 m.base, .slice ta m.tree.length tq, .int .i64 m.node, .slice ia m.insts.length iq, .int .i64 m.self, .string o] 30)) (.cells #[.slice none 0 0, .slice none 0 0, .slice none 0 0, .slice none 0 0, .int .u32 0, .slice none 0 0, .int .i64 0, .slice none 0 0, .int .i64 0, .string ⟨#[]⟩] 30))
 rw[size_al] at s1
 simp only[Mv.cs]
 clear hs hm hc ht hr1 hi1 hro hio z c32i cO cW cI cJ cT c8 hr3 hi3 hr2 hi2 hrl hil' gzw gzi ho
 go_enter Tryz.func40,Tryz.ntmps40
 go_upto_region 1 with fail
 generalize (w.alloc (.cells #[.slice sa m.stack.length sq, .slice ma m.mem.length mq, .slice wa m.words.length wq, .slice ca m.codes.length cq, .int .u32 m.base, .slice ta m.tree.length tq, .int .i64 m.node, .slice ia m.insts.length iq, .int .i64 m.self, .string o] 30)).alloc (.cells #[.slice none 0 0, .slice none 0 0, .slice none 0 0, .slice none 0 0, .int .u32 0, .slice none 0 0, .int .i64 0, .slice none 0 0, .int .i64 0, .string ⟨#[]⟩] 30)=W0 at s0 s1 bw ⊢
 have hW0:w.heap.size+1 < W0.heap.size:=(Array.getElem?_eq_some_iff.1 s1).1
 have f0:=s0.cell 0 _ rfl
 go_upto_region 2 with (go_at_call 53;refine (c32 _ bw).mono ?_;rintro e qA ⟨vX,rfl,oX,dA⟩;obtain ⟨sa1,sq1,rfl⟩:=own_form oX;have y1:=(s0.below dA).cell 0 _ rfl;have y2:=(s0.below dA).free 0)
 have kA:=set_kept (s0.below dA) 0 (.slice sa1 m.stack.length sq1)
 have s0A:Stands _ w.heap.size #[.slice sa1 m.stack.length sq1, .slice ma m.mem.length mq, .slice wa m.words.length wq, .slice ca m.codes.length cq, .int .u32 m.base, .slice ta m.tree.length tq, .int .i64 m.node, .slice ia m.insts.length iq, .int .i64 m.self, .string o] 30:=(s0.below dA).set 0 (.slice sa1 m.stack.length sq1)
 have s1A:=(s1.below dA).other (b':=w.heap.size) 0 (.slice sa1 m.stack.length sq1) (by omega)
 have bA:=below_set (below_trans bw dA) w.heap.size 0 (.slice sa1 m.stack.length sq1) (Nat.le_refl _)
 have oS:=own_le bw.size (own_kept kA (by decide) oX)
 generalize qA.setCell ⟨w.heap.size,0,none⟩ (.slice sa1 m.stack.length sq1)=QA at s0A s1A bA oS kA ⊢
 clear y1 y2 oX dA kA f0 s0 s1 c32
 have f1:=s0A.cell 1 _ rfl
 go_upto_region 3 with (go_at_call 54;refine (C8.out _ bA).mono ?_;rintro e qB ⟨vX,rfl,oX,dB⟩;obtain ⟨ma1,mq1,rfl⟩:=own_form oX;have y1:=(s0A.below dB).cell 1 _ rfl;have y2:=(s0A.below dB).free 1)
 have kB:=set_kept (s0A.below dB) 1 (.slice ma1 m.mem.length mq1)
 have s0B:Stands _ w.heap.size #[.slice sa1 m.stack.length sq1, .slice ma1 m.mem.length mq1, .slice wa m.words.length wq, .slice ca m.codes.length cq, .int .u32 m.base, .slice ta m.tree.length tq, .int .i64 m.node, .slice ia m.insts.length iq, .int .i64 m.self, .string o] 30:=(s0A.below dB).set 1 (.slice ma1 m.mem.length mq1)
 have s1B:=(s1A.below dB).other (b':=w.heap.size) 1 (.slice ma1 m.mem.length mq1) (by omega)
 have bB:=below_set (below_trans bA dB) w.heap.size 1 (.slice ma1 m.mem.length mq1) (Nat.le_refl _)
 have oM:=own_le bA.size (own_kept kB (by decide) oX)
 have oSB:=own_kept kB (by decide) (own_belowN oS dB)
 generalize qB.setCell ⟨w.heap.size,1,none⟩ (.slice ma1 m.mem.length mq1)=QB at s0B s1B bB oM oSB kB ⊢
 clear y1 y2 oX dB kB f1 s0A s1A bA oS C8
 have f2:=s0B.cell 2 _ rfl
 go_upto_region 4 with (go_at_call 55;refine (CW.out _ bB).mono ?_;rintro e qC ⟨vX,rfl,oX,dC⟩;obtain ⟨wa1,wq1,rfl⟩:=own_form oX;have y1:=(s0B.below dC).cell 2 _ rfl;have y2:=(s0B.below dC).free 2)
 have kC:=set_kept (s0B.below dC) 2 (.slice wa1 m.words.length wq1)
 have s0C:Stands _ w.heap.size #[.slice sa1 m.stack.length sq1, .slice ma1 m.mem.length mq1, .slice wa1 m.words.length wq1, .slice ca m.codes.length cq, .int .u32 m.base, .slice ta m.tree.length tq, .int .i64 m.node, .slice ia m.insts.length iq, .int .i64 m.self, .string o] 30:=(s0B.below dC).set 2 (.slice wa1 m.words.length wq1)
 have s1C:=(s1B.below dC).other (b':=w.heap.size) 2 (.slice wa1 m.words.length wq1) (by omega)
 have bC:=below_set (below_trans bB dC) w.heap.size 2 (.slice wa1 m.words.length wq1) (Nat.le_refl _)
 have oW:=own_le bB.size (own_kept kC (by decide) oX)
 have oSC:=own_kept kC (by decide) (own_belowN oSB dC)
 have oMC:=own_kept kC (by decide) (own_belowN oM dC)
 generalize qC.setCell ⟨w.heap.size,2,none⟩ (.slice wa1 m.words.length wq1)=QC at s0C s1C bC oW oMC oSC kC ⊢
 clear y1 y2 oX dC kC f2 s0B s1B bB oM oSB CW
 have f2:=s0C.cell 2 _ rfl
 go_wp2_with fail
 go_loopw [20] (fun I wx=>∃(i:Nat),(i:Int)≤m.words.length∧I= .int .i64 i∧Stands wx w.heap.size #[.slice sa1 m.stack.length sq1, .slice ma1 m.mem.length mq1, .slice wa1 m.words.length wq1, .slice ca m.codes.length cq, .int .u32 m.base, .slice ta m.tree.length tq, .int .i64 m.node, .slice ia m.insts.length iq, .int .i64 m.self, .string o] 30∧Stands wx (w.heap.size+1) #[.slice none 0 0, .slice none 0 0, .slice none 0 0, .slice none 0 0, .int .u32 0, .slice none 0 0, .int .i64 0, .slice none 0 0, .int .i64 0, .string ⟨#[]⟩] 30∧wx.ownsRow w.heap.size 26 1 (.slice sa1 m.stack.length sq1) m.stack.length (m.stack.map (Value.int .u32))∧wx.ownsRow w.heap.size 5 1 (.slice ma1 m.mem.length mq1) m.mem.length (m.mem.map (Value.int .u8))∧RwI 59 5 (wrdO w.heap.size) w.heap.size (.slice wa1 m.words.length wq1) m.words rows i wx∧Below w.heap.size w wx) (fun I _=>(m.words.length - intOf I).toNat)
 case atStart=>exact ⟨0,by omega,rfl,s0C,s1C,oSC,oMC,RwI.start HR2.out HRL.out oW,bC⟩
 case round=>
  clear s0C s1C oSC oMC oW bC f2
  obtain ⟨i,hi,rfl,st,sz,oS,oM,hI,hb⟩:=hrel
  by_cases hlt:(i:Int) < m.words.length
  ·have hil:i < m.words.length:=by omega
   obtain ⟨csW,oWr⟩:=hI.row
   obtain ⟨g,cap,hg⟩:=own_some oWr (by omega)
   simp only[Value.slice.injEq] at hg
   obtain ⟨rfl, -,rfl⟩:=hg
   have hgb:=(oWr.lt g rfl).1
   have hgB:g≠w.heap.size:=by
    intro e
    have a1:=stands_apart st oWr (by decide)
    simp[Value.ownBlock] at a1
    exact a1 e.symm
   obtain ⟨vcI,hrow,rc⟩:=HR3.out i hil
   have cd:=fun W (b:Below w.heap.size w W)=>CO.out i hil vcI rc W b
   obtain ⟨xa,xq,rfl⟩:=slr_slice rc
   have c4:=hI.cell hil 4 (by decide) _ (by rw[hrow];rfl)
   have c2:=st.cell 2 _ rfl
   have hix:=idx_wrdX g m.words.length wq1 i hil
   obtain ⟨N5,hN5⟩:∃N,m.words[i].2.2.2.2.length=N:=⟨_,rfl⟩
   rw[hN5] at c4 hrow
   have HS:Hid (∀W,Below wr.heap.size wr W→W.cell? ⟨w.heap.size,2,none⟩=some (.slice (some ⟨g,0,none⟩) m.words.length wq1)):=fun W q=>below_cell q c2
   have hrd:Hid (Below wr.heap.size wr wr.drew):=below_drewN (Below.refl _ _) 1
   have hbd:Hid (Below w.heap.size w wr.drew):=below_drewN hb 1
   simp only[hN5] at cd
   have CD:=hid cd
   have T2:Hid (∀qD,Below wr.heap.size wr qD→qD.cell? ⟨g,i*5+4,none⟩=some (.slice xa N5 xq)):=fun qD q=>below_cell q c4
   have T3:Hid (∀qD,Below wr.heap.size wr qD→qD.frozen? ⟨g,i*5+4,none⟩=false):=fun qD q=>(hI.below q (wrdO_below q)).free (i*5+4)
   have HI:=hid hI
   have HROW:=hid hrow
   have HN5:=hid hN5
   have ST:=hid st
   have SZ:=hid sz
   have OS:=hid oS
   have OM:=hid oM
   clear cd hI oWr hN5 hrow rc st sz oS oM
   go_wp2_with fail
   go_region_with (go_at_call 56;refine (CD.out _ (by with_reducible exact hbd.out)).mono ?_;rintro e qD ⟨vD,rfl,oD,bD'⟩;obtain ⟨csD,rD⟩:=oD.row;obtain ⟨dd,dcap,rfl⟩:=own_form rD;have RD:Hid (Below wr.heap.size wr qD):=below_trans hrd.out bD';have y0:=HS.out qD RD.out;have y1:=T2.out qD RD.out;have y2:=T3.out qD RD.out;have OD:=hid oD;clear oD bD' rD)
   all_goals (
    go_wp2_with fail
    have bD:=RD.out
    have hx:wrdO w.heap.size qD ((rows.getD i []).set 4 (.slice dd m.words[i].2.2.2.2.length dcap)) (m.words[i]'hil):=by rw[HROW.out];exact ⟨_,rfl,OwO.le (Nat.le_trans hb.size hrd.out.size) OD.out⟩
    obtain ⟨hI9,k9⟩:=RwI.step (HI.out.below bD (wrdO_below bD)) hil 4 (by decide) (.slice dd m.words[i].2.2.2.2.length dcap) (wrdO_apt (by decide)) hx
    have B9:=below_set (below_trans hb bD) g (i*5+4) (.slice dd m.words[i].2.2.2.2.length dcap) hgb
    have st9:=stands_kept k9 (by decide) (ST.out.below bD)
    have sz9:=stands_kept k9 (by decide) (SZ.out.below bD)
    have oS9:=own_kept k9 (by decide) (own_belowN OS.out bD)
    have oM9:=own_kept k9 (by decide) (own_belowN OM.out bD)
    go_roundw
    case rel=>exact ⟨i+1,by omega,by go_num,st9,sz9,oS9,oM9,hI9,B9⟩
    case measure=>simp[intOf];omega)
  ·have hin:i=m.words.length:=by omega
   have oW:=hI.done (by omega)
   obtain ⟨W1,hW1⟩:∃W1,W1=wr:=⟨_,rfl⟩
   subst hW1
   clear hI hin
   have f3:=st.cell 3 _ rfl
   go_upto_region 10 with (go_at_call 57;refine (CJ.out _ hb).mono ?_;rintro e qD ⟨vX,rfl,oX,dD⟩;obtain ⟨ca1,cq1,rfl⟩:=own_form oX;have y1:=(st.below dD).cell 3 _ rfl;have y2:=(st.below dD).free 3)
   have kD:=set_kept (st.below dD) 3 (.slice ca1 m.codes.length cq1)
   have s0D:Stands _ w.heap.size #[.slice sa1 m.stack.length sq1, .slice ma1 m.mem.length mq1, .slice wa1 m.words.length wq1, .slice ca1 m.codes.length cq1, .int .u32 m.base, .slice ta m.tree.length tq, .int .i64 m.node, .slice ia m.insts.length iq, .int .i64 m.self, .string o] 30:=(st.below dD).set 3 (.slice ca1 m.codes.length cq1)
   have s1D:=(sz.below dD).other (b':=w.heap.size) 3 (.slice ca1 m.codes.length cq1) (by omega)
   have bD:=below_set (below_trans hb dD) w.heap.size 3 (.slice ca1 m.codes.length cq1) (Nat.le_refl _)
   have oC:=own_le hb.size (own_kept kD (by decide) oX)
   have oSD:=own_kept kD (by decide) (own_belowN oS dD)
   have oMD:=own_kept kD (by decide) (own_belowN oM dD)
   have oWD:=OwnR.kept (OwnR.below oW dD (wrdO_below dD)) kD (by decide) (wrdO_apt (by decide))
   generalize qD.setCell ⟨w.heap.size,3,none⟩ (.slice ca1 m.codes.length cq1)=QD at s0D s1D bD oC oSD oMD oWD kD ⊢
   clear y1 y2 oX dD kD f3 st sz oS oM oW CJ
   have f5:=s0D.cell 5 _ rfl
   go_upto_region 11 with (go_at_call 58;refine (CT.out _ bD).mono ?_;rintro e qE ⟨vX,rfl,oX,dE⟩;obtain ⟨csX,rX⟩:=oX.own.row;obtain ⟨ta1,tq1,rfl⟩:=own_form rX;have y1:=(s0D.below dE).cell 5 _ rfl;have y2:=(s0D.below dE).free 5)
   have kE:=set_kept (s0D.below dE) 5 (.slice ta1 m.tree.length tq1)
   have s0E:Stands _ w.heap.size #[.slice sa1 m.stack.length sq1, .slice ma1 m.mem.length mq1, .slice wa1 m.words.length wq1, .slice ca1 m.codes.length cq1, .int .u32 m.base, .slice ta1 m.tree.length tq1, .int .i64 m.node, .slice ia m.insts.length iq, .int .i64 m.self, .string o] 30:=(s0D.below dE).set 5 (.slice ta1 m.tree.length tq1)
   have s1E:=(s1D.below dE).other (b':=w.heap.size) 5 (.slice ta1 m.tree.length tq1) (by omega)
   have bE:=below_set (below_trans bD dE) w.heap.size 5 (.slice ta1 m.tree.length tq1) (Nat.le_refl _)
   have oT:=OwnR.kept (OwnT8.le bD.size oX.own) kE (by decide) (nodO_apt (by decide) (by decide) (by decide))
   have PE:Cpy w.heap.size _ (.slice sa1 m.stack.length sq1) (.slice ma1 m.mem.length mq1) (.slice wa1 m.words.length wq1) (.slice ca1 m.codes.length cq1) (.slice ta1 m.tree.length tq1) m:=⟨own_kept kE (by decide) (own_belowN oSD dE),own_kept kE (by decide) (own_belowN oMD dE),OwnR.kept (OwnR.below oWD dE (wrdO_below dE)) kE (by decide) (wrdO_apt (by decide)),own_kept kE (by decide) (own_belowN oC dE),oT⟩
   generalize qE.setCell ⟨w.heap.size,5,none⟩ (.slice ta1 m.tree.length tq1)=QE at s0E s1E bE oT PE kE ⊢
   clear y1 y2 oX rX dE kE f5 s0D s1D oC oSD oMD oWD CT bD oT
   have f7:=s0E.cell 7 _ rfl
   go_upto_region 12 with (go_at_call 59;refine (CI.out _ bE).mono ?_;rintro e qF ⟨vX,rfl,oX,dF⟩;obtain ⟨ia1,iq1,rfl⟩:=own_form oX;have y1:=(s0E.below dF).cell 7 _ rfl;have y2:=(s0E.below dF).free 7)
   have kF:=set_kept (s0E.below dF) 7 (.slice ia1 m.insts.length iq1)
   have s0F:Stands _ w.heap.size #[.slice sa1 m.stack.length sq1, .slice ma1 m.mem.length mq1, .slice wa1 m.words.length wq1, .slice ca1 m.codes.length cq1, .int .u32 m.base, .slice ta1 m.tree.length tq1, .int .i64 m.node, .slice ia1 m.insts.length iq1, .int .i64 m.self, .string o] 30:=(s0E.below dF).set 7 (.slice ia1 m.insts.length iq1)
   have s1F:=(s1E.below dF).other (b':=w.heap.size) 7 (.slice ia1 m.insts.length iq1) (by omega)
   have bF:=below_set (below_trans bE dF) w.heap.size 7 (.slice ia1 m.insts.length iq1) (Nat.le_refl _)
   have oI:=own_le bE.size (own_kept kF (by decide) oX)
   have PF:=(PE.below dF).kept kF (by decide) (by decide) (by decide) (by decide) (by decide) (by decide) (by decide)
   generalize qF.setCell ⟨w.heap.size,7,none⟩ (.slice ia1 m.insts.length iq1)=QF at s0F s1F bF oI PF kF ⊢
   clear y1 y2 oX dF kF f7 s0E s1E PE bE CI
   have PA:=CpA.of PF
   have RA:=RwA.start HI2.out HIL.out oI
   have hB1:Hid (w.heap.size≤QF.heap.size):=hid bF.size
   obtain ⟨B1,eB1⟩:∃n,QF.heap.size=n:=⟨_,rfl⟩
   rw[eB1] at PA RA hB1
   have PA:=hid PA
   have RA:=hid RA
   clear PF oI eB1
   have f7:=s0F.cell 7 _ rfl
   go_wp2_with fail
   go_loopw [51] (fun I wx=>∃(i:Nat),(i:Int)≤m.insts.length∧I= .int .i64 i∧Stands wx w.heap.size #[.slice sa1 m.stack.length sq1, .slice ma1 m.mem.length mq1, .slice wa1 m.words.length wq1, .slice ca1 m.codes.length cq1, .int .u32 m.base, .slice ta1 m.tree.length tq1, .int .i64 m.node, .slice ia1 m.insts.length iq1, .int .i64 m.self, .string o] 30∧Stands wx (w.heap.size+1) #[.slice none 0 0, .slice none 0 0, .slice none 0 0, .slice none 0 0, .int .u32 0, .slice none 0 0, .int .i64 0, .slice none 0 0, .int .i64 0, .string ⟨#[]⟩] 30∧CpA w.heap.size (fun k=>B1≤k) wx (.slice sa1 m.stack.length sq1) (.slice ma1 m.mem.length mq1) (.slice wa1 m.words.length wq1) (.slice ca1 m.codes.length cq1) (.slice ta1 m.tree.length tq1) m∧RwA w.heap.size B1 (.slice ia1 m.insts.length iq1) m.insts irows i wx∧Below w.heap.size w wx) (fun I _=>(m.insts.length - intOf I).toNat)
   case atStart=>exact ⟨0,by omega,rfl,s0F,s1F,PA.out,RA.out,bF⟩
   case round=>
    clear s0F s1F PA RA bF f7 hb hi
    obtain ⟨i,hi,rfl,st,sz,P,hI,hb⟩:=hrel
    by_cases hlt:(i:Int) < m.insts.length
    ·have hil:i < m.insts.length:=by omega
     obtain ⟨csW,oWr⟩:=hI.rwi.row
     obtain ⟨g,cap,hg⟩:=own_some oWr (by omega)
     simp only[Value.slice.injEq] at hg
     obtain ⟨rfl, -,rfl⟩:=hg
     have hgb:=(oWr.lt g rfl).1
     obtain ⟨vcI,hrow,rc⟩:=HI3.out i hil
     have cd:=fun W (b:Below w.heap.size w W)=>C32i.out i hil vcI rc W b
     obtain ⟨xa,xq,rfl⟩:=rd_slice rc
     have c4:=hI.rwi.cell hil 3 (by decide) _ (by rw[hrow];rfl)
     have c2:=st.cell 7 _ rfl
     have hix:=idx_insX g m.insts.length iq1 i hil
     obtain ⟨N5,hN5⟩:∃N,m.insts[i].2.2.2.length=N:=⟨_,rfl⟩
     rw[hN5] at c4 hrow
     have HS:Hid (∀W,Below wr.heap.size wr W→W.cell? ⟨w.heap.size,7,none⟩=some (.slice (some ⟨g,0,none⟩) m.insts.length iq1)):=fun W q=>below_cell q c2
     have hrd:Hid (Below wr.heap.size wr wr.drew):=below_drewN (Below.refl _ _) 1
     have hbd:Hid (Below w.heap.size w wr.drew):=below_drewN hb 1
     have CD:=hid cd
     have T2:Hid (∀qD,Below wr.heap.size wr qD→qD.cell? ⟨g,i*4+3,none⟩=some (.slice xa N5 xq)):=fun qD q=>below_cell q c4
     have T3:Hid (∀qD,Below wr.heap.size wr qD→qD.frozen? ⟨g,i*4+3,none⟩=false):=fun qD q=>(hI.below q).rwi.free (i*4+3)
     have hB9:Hid (B1≤wr.heap.size):=by
      obtain ⟨_,_,_,_,_,z,_⟩:=hI
      exact hid z
     have HI:=hid hI
     have HROW:=hid hrow
     have ST:=hid st
     have SZ:=hid sz
     have PP:=hid P
     rw[hN5] at CD
     have HN5:=hid hN5
     clear cd hI oWr hN5 hrow rc st sz P
     go_wp2_with fail
     go_region_with (go_at_call 53;refine (CD.out _ (by with_reducible exact hbd.out)).mono ?_;rintro e qD ⟨vD,rfl,oD,bD'⟩;obtain ⟨dd,dcap,rfl⟩:=own_form oD;have RD:Hid (Below wr.heap.size wr qD):=below_trans hrd.out bD';have y0:=HS.out qD RD.out;have y1:=T2.out qD RD.out;have y2:=T3.out qD RD.out;have OD:=hid oD;clear oD bD')
     all_goals (
      go_wp2_with fail
      have bD:=RD.out
      have hx:insO B1 qD ((irows.getD i []).set 3 (.slice dd N5 dcap)) (m.insts[i]'hil):=by rw[HROW.out];exact ⟨_,rfl,by rw[HN5.out];exact own_le (Nat.le_trans hB9.out hrd.out.size) OD.out⟩
      obtain ⟨hI9,k9⟩:=RwA.step HI.out bD hil (.slice dd N5 dcap) (fun k hk=>Nat.le_trans hrd.out.size (OD.out.lt k hk).1) hx
      have B9:=below_set (below_trans hb bD) g (i*4+3) (.slice dd N5 dcap) hgb
      have st9:=stands_kept k9 (by decide) (ST.out.below bD)
      have sz9:=stands_kept k9 (by decide) (SZ.out.below bD)
      have P9:=(PP.out.below bD).kept k9 rfl (by decide)
      go_roundw
      case rel=>exact ⟨i+1,by omega,by go_num,st9,sz9,P9,hI9,B9⟩
      case measure=>simp[intOf];omega)
    ·have hil9:m.insts.length≤i:=by omega
     have u0:=st.cell 0 _ rfl
     have u1:=st.cell 1 _ rfl
     have u2:=st.cell 2 _ rfl
     have u3:=st.cell 3 _ rfl
     have u4:=st.cell 4 _ rfl
     have u5:=st.cell 5 _ rfl
     have u6:=st.cell 6 _ rfl
     have u7:=st.cell 7 _ rfl
     have u8:=st.cell 8 _ rfl
     have u9:=st.cell 9 _ rfl
     have y0:=sz.cell 0 _ rfl
     have y1:=sz.cell 1 _ rfl
     have y2:=sz.cell 2 _ rfl
     have y3:=sz.cell 3 _ rfl
     have y4:=sz.cell 4 _ rfl
     have y5:=sz.cell 5 _ rfl
     have y6:=sz.cell 6 _ rfl
     have y7:=sz.cell 7 _ rfl
     have y8:=sz.cell 8 _ rfl
     have y9:=sz.cell 9 _ rfl
     have yf:=sz.free
     obtain ⟨k1,k2⟩:=set10X sz (.slice sa1 m.stack.length sq1) (.slice ma1 m.mem.length mq1) (.slice wa1 m.words.length wq1) (.slice ca1 m.codes.length cq1) (.int .u32 m.base) (.slice ta1 m.tree.length tq1) (.int .i64 m.node) (.slice ia1 m.insts.length iq1) (.int .i64 m.self) (.string o)
     have K1:=hid k1
     have GM:=hid (k2 (fun u=>CpA w.heap.size (fun k=>B1≤k) u _ _ _ _ _ m∧RwA w.heap.size B1 _ m.insts irows i u) (fun u u' kk q=>⟨q.1.kept kk rfl (by decide),q.2.kept kk (by decide) (by decide)⟩) ⟨P,hI⟩)
     have HL:=hid hil9
     have J7:Hid (Below w.heap.size w _):=below_set (below_set (below_set (below_set (below_set (below_set (below_set (below_set (below_set (below_set (hb) (w.heap.size+1) 0 (.slice sa1 m.stack.length sq1) (by omega)) (w.heap.size+1) 1 (.slice ma1 m.mem.length mq1) (by omega)) (w.heap.size+1) 2 (.slice wa1 m.words.length wq1) (by omega)) (w.heap.size+1) 3 (.slice ca1 m.codes.length cq1) (by omega)) (w.heap.size+1) 4 (.int .u32 m.base) (by omega)) (w.heap.size+1) 5 (.slice ta1 m.tree.length tq1) (by omega)) (w.heap.size+1) 6 (.int .i64 m.node) (by omega)) (w.heap.size+1) 7 (.slice ia1 m.insts.length iq1) (by omega)) (w.heap.size+1) 8 (.int .i64 m.self) (by omega)) (w.heap.size+1) 9 (.string o) (by omega)
     clear k1 k2 hil9 P hI hb st sz C32i CO HR3 HI3
     go_wp2_with fail
     (try simp only[Exit.inBlock,Exit.then])
     refine bodyPost_ret (results_cell_row rfl _ _ (w.heap.size+1) 30 _ (0,0) _ rfl K1.out Tryz.underlying30 rfl (show _=some 10 by kernel_rfl)) rfl ?_
     exact ⟨⟨.slice sa1 m.stack.length sq1, .slice ma1 m.mem.length mq1, .slice wa1 m.words.length wq1, .slice ca1 m.codes.length cq1, .slice ta1 m.tree.length tq1, .slice ia1 m.insts.length iq1⟩,rfl,⟨_,CpL.of (v:=⟨.slice sa1 m.stack.length sq1, .slice ma1 m.mem.length mq1, .slice wa1 m.words.length wq1, .slice ca1 m.codes.length cq1, .slice ta1 m.tree.length tq1, .slice ia1 m.insts.length iq1⟩) GM.out.1 GM.out.2 HL.out hB1.out HO.out⟩,J7.out⟩
def zeroR:Array Value:=#[.slice none 0 0, .slice none 0 0, .slice none 0 0, .slice none 0 0, .int .u32 0, .slice none 0 0, .int .i64 0, .slice none 0 0, .int .i64 0, .string ⟨#[]⟩, .slice none 0 0, .slice none 0 0, .slice none 0 0, .slice none 0 0, .slice none 0 0, .int .u32 0, .slice none 0 0, .int .i64 0, .slice none 0 0, .int .i64 0, .string ⟨#[]⟩, .slice none 0 0, .slice none 0 0, .int .i64 0, .int .i64 0, .int .i64 0, .int .u32 0]
def nilX:Mv:=⟨.slice none 0 0, .slice none 0 0, .slice none 0 0, .slice none 0 0, .slice none 0 0, .slice none 0 0⟩
theorem CpL.forms {B:Nat} {D:Nat→Prop} {w:World} {v:Mv} {m:Mc} {o:ByteArray} (h:CpL B D w v m o):
  ∃a0 k0 a1 k1 a2 k2 a3 k3 a5 k5 a7 k7,v=⟨.slice a0 m.stack.length k0, .slice a1 m.mem.length k1, .slice a2 m.words.length k2, .slice a3 m.codes.length k3, .slice a5 m.tree.length k5, .slice a7 m.insts.length k7⟩:=by
 obtain ⟨a0,k0,h0⟩:=rd_slice h.stack.now
 obtain ⟨a1,k1,h1⟩:=rd_slice h.mem.now
 obtain ⟨a2,k2,h2⟩:=slr_slice h.wd.read
 obtain ⟨a3,k3,h3⟩:=rd_slice h.codes.now
 obtain ⟨a5,k5,h5⟩:=slr_slice h.tree.now
 obtain ⟨a7,k7,h7⟩:=slr_slice h.ins.read
 cases v
 simp only at h0 h1 h2 h3 h5 h7
 subst h0 h1 h2 h3 h5 h7
 exact ⟨_,_,_,_,_,_,_,_,_,_,_,_,rfl⟩
theorem rd_nil32 (u:World):Rd .u32 u (.slice none 0 0) []:=Or.inl ⟨none,0,rfl,fun _=>rfl,rfl⟩
theorem RunP.beg {B:Nat} {D:Nat→Prop} {w w':World} {q:Nat} {v:Mv} {m:Mc} {o:ByteArray} {xt fuel:Int} (h:CpL B D w v m o) (g:Below w.heap.size w w') (hq:B≤q) (hB:B≤w.heap.size) (tab:∀u,Below B w' u→Stk.Tab u)
  (st:Stands w' q (rnC ⟨v,m,o, .slice none 0 0,[]⟩ ⟨nilX,nilM,⟨#[]⟩, .slice none 0 0,[]⟩ (.slice none 0 0) 0 xt fuel 0) 67):
  RunP B D w' q ⟨v,m,o, .slice none 0 0,[]⟩ ⟨nilX,nilM,⟨#[]⟩, .slice none 0 0,[]⟩ (.slice none 0 0) [] xt fuel 0:=by
 have a:Agr kR D w w':=Agr.below g
 have k:Kept 67 w w':=Kept.below g
 exact ⟨st,⟨h.stack.agr a,h.mem.agr a,h.codes.agr a,h.tree.agr a,h.out,Stb.const rd_nil32⟩,h.wd.kept k a (by decide),h.ins.kept k a (by decide),World.ownsRow_nil _ _ _ _,hq,Nat.le_trans hB g.size,fun k hk=>⟨(h.hD k hk).1,Nat.lt_of_lt_of_le (h.hD k hk).2 g.size⟩,tab⟩
theorem wdP_beg {m:Mc} {xt:Int} {k:Nat} (hf:frmM m=true) (g:gM m) (x0:0≤xt) (x1:xt < m.words.length) (hk:k≤100000) (ac:Acc m.words []) (xa:aX xt):WdP (whoF iP m xt k) xt m [] [] 0 k:=by
 refine ⟨⟨⟨hf,⟨g, ?_,by simp[mkR],by simp[mkR],by simp[mkR]⟩⟩,by simp[Fok],by simp⟩,by simp[dpF],by simpa using hk,x0,x1,ac,xa, ?_⟩
 ·intro x hx
  simp[mkR] at hx
 ·simp only[unw,whoF,rn]
  rfl
theorem wpList_buildS {P:Program} {ops:Array Oper} {rest:List Oper} {o:Oper} {a:Act} {w:World} {Q:Exit→Act→World→Prop} (hg:o.guard=none) (t:TypeId) (parts:Array (Nat×Operand)) (ho:o.op= .build t parts) (cs:Array Value)
  (hb:P.built t (parts.map fun (i,x)=>(i,a.eval x)).toList=some cs) (h:wpList P ops Q rest (a.put o.dst (.agg cs)) w):wpList P ops Q (o::rest) a w:=
 wpList_build hg t parts ho (by rw[hb];rfl) (by rw[hb];exact h)
set_option maxHeartbeats 8000000 in
theorem w_ranN (m:Mc) (v:Mv) (o:ByteArray) (xt fuel:Int) (w:World) (h:RdM w v m o) (g:gM m) (hno:(frmM m&&(decide (0≤xt)&&decide (xt < (m.words.length:Int))))=false∨fuel < 0∨100000 < fuel):
  Calls Tryz.prog 26 #[.agg (v.cs m o), .int .i64 xt, .int .i64 fuel] w fun e w'=>e= .returned (.tuple #[.agg zeroR, .int .i64 1])∧Below w.heap.size w w':=by
 have ch:=fun W (b:Below w.heap.size w W)=>w_has m v o xt W (h.below b) g
 obtain ⟨vs,vm,vw,vc,vt,vi⟩:=v
 obtain ⟨hs,hm,hw,hc,ht,hi,ho⟩:=h
 simp only at hs hm hw hc ht hi
 obtain ⟨sa,sq,rfl⟩:=rd_slice hs
 obtain ⟨ma,mq,rfl⟩:=rd_slice hm
 obtain ⟨wa,wq,rfl⟩:=slr_slice hw
 obtain ⟨ca,cq,rfl⟩:=rd_slice hc
 obtain ⟨ta,tq,rfl⟩:=slr_slice ht
 obtain ⟨ia,iq,rfl⟩:=slr_slice hi
 simp only[Mv.cs] at ch ⊢
 have s0:=(stands_new w #[.slice sa m.stack.length sq, .slice ma m.mem.length mq, .slice wa m.words.length wq, .slice ca m.codes.length cq, .int .u32 m.base, .slice ta m.tree.length tq, .int .i64 m.node, .slice ia m.insts.length iq, .int .i64 m.self, .string o] 30).below (box_below (w.alloc (.cells #[.slice sa m.stack.length sq, .slice ma m.mem.length mq, .slice wa m.words.length wq, .slice ca m.codes.length cq, .int .u32 m.base, .slice ta m.tree.length tq, .int .i64 m.node, .slice ia m.insts.length iq, .int .i64 m.self, .string o] 30)) (.cells #[.slice none 0 0, .slice none 0 0, .slice none 0 0, .slice none 0 0, .int .u32 0, .slice none 0 0, .int .i64 0, .slice none 0 0, .int .i64 0, .string ⟨#[]⟩, .slice none 0 0, .slice none 0 0, .slice none 0 0, .slice none 0 0, .slice none 0 0, .int .u32 0, .slice none 0 0, .int .i64 0, .slice none 0 0, .int .i64 0, .string ⟨#[]⟩, .slice none 0 0, .slice none 0 0, .int .i64 0, .int .i64 0, .int .i64 0, .int .u32 0] 67))
 have s1:=stands_new (w.alloc (.cells #[.slice sa m.stack.length sq, .slice ma m.mem.length mq, .slice wa m.words.length wq, .slice ca m.codes.length cq, .int .u32 m.base, .slice ta m.tree.length tq, .int .i64 m.node, .slice ia m.insts.length iq, .int .i64 m.self, .string o] 30)) #[.slice none 0 0, .slice none 0 0, .slice none 0 0, .slice none 0 0, .int .u32 0, .slice none 0 0, .int .i64 0, .slice none 0 0, .int .i64 0, .string ⟨#[]⟩, .slice none 0 0, .slice none 0 0, .slice none 0 0, .slice none 0 0, .slice none 0 0, .int .u32 0, .slice none 0 0, .int .i64 0, .slice none 0 0, .int .i64 0, .string ⟨#[]⟩, .slice none 0 0, .slice none 0 0, .int .i64 0, .int .i64 0, .int .i64 0, .int .u32 0] 67
 have bw:=below_trans (box_below w (.cells #[.slice sa m.stack.length sq, .slice ma m.mem.length mq, .slice wa m.words.length wq, .slice ca m.codes.length cq, .int .u32 m.base, .slice ta m.tree.length tq, .int .i64 m.node, .slice ia m.insts.length iq, .int .i64 m.self, .string o] 30)) (box_below (w.alloc (.cells #[.slice sa m.stack.length sq, .slice ma m.mem.length mq, .slice wa m.words.length wq, .slice ca m.codes.length cq, .int .u32 m.base, .slice ta m.tree.length tq, .int .i64 m.node, .slice ia m.insts.length iq, .int .i64 m.self, .string o] 30)) (.cells #[.slice none 0 0, .slice none 0 0, .slice none 0 0, .slice none 0 0, .int .u32 0, .slice none 0 0, .int .i64 0, .slice none 0 0, .int .i64 0, .string ⟨#[]⟩, .slice none 0 0, .slice none 0 0, .slice none 0 0, .slice none 0 0, .slice none 0 0, .int .u32 0, .slice none 0 0, .int .i64 0, .slice none 0 0, .int .i64 0, .string ⟨#[]⟩, .slice none 0 0, .slice none 0 0, .int .i64 0, .int .i64 0, .int .i64 0, .int .u32 0] 67))
 rw[size_al] at s1
 obtain ⟨R,hR⟩:∃R,(frmM m&&(decide (0≤xt)&&decide (xt < (m.words.length:Int))))=R:=⟨_,rfl⟩
 rw[hR] at hno
 simp only[hR] at ch
 have CH:=hid ch
 have BW:=hid bw
 clear hs hm hw hc ht hi ho hR ch bw
 have key:∀(W0:World),Stands W0 w.heap.size #[.slice sa m.stack.length sq, .slice ma m.mem.length mq, .slice wa m.words.length wq, .slice ca m.codes.length cq, .int .u32 m.base, .slice ta m.tree.length tq, .int .i64 m.node, .slice ia m.insts.length iq, .int .i64 m.self, .string o] 30→Stands W0 (w.heap.size+1) #[.slice none 0 0, .slice none 0 0, .slice none 0 0, .slice none 0 0, .int .u32 0, .slice none 0 0, .int .i64 0, .slice none 0 0, .int .i64 0, .string ⟨#[]⟩, .slice none 0 0, .slice none 0 0, .slice none 0 0, .slice none 0 0, .slice none 0 0, .int .u32 0, .slice none 0 0, .int .i64 0, .slice none 0 0, .int .i64 0, .string ⟨#[]⟩, .slice none 0 0, .slice none 0 0, .int .i64 0, .int .i64 0, .int .i64 0, .int .u32 0] 67→Below w.heap.size w W0→((w.alloc (.cells #[.slice sa m.stack.length sq, .slice ma m.mem.length mq, .slice wa m.words.length wq, .slice ca m.codes.length cq, .int .u32 m.base, .slice ta m.tree.length tq, .int .i64 m.node, .slice ia m.insts.length iq, .int .i64 m.self, .string o] 30)).alloc (.cells #[.slice none 0 0, .slice none 0 0, .slice none 0 0, .slice none 0 0, .int .u32 0, .slice none 0 0, .int .i64 0, .slice none 0 0, .int .i64 0, .string ⟨#[]⟩, .slice none 0 0, .slice none 0 0, .slice none 0 0, .slice none 0 0, .slice none 0 0, .int .u32 0, .slice none 0 0, .int .i64 0, .slice none 0 0, .int .i64 0, .string ⟨#[]⟩, .slice none 0 0, .slice none 0 0, .int .i64 0, .int .i64 0, .int .i64 0, .int .u32 0] 67))=W0→Calls Tryz.prog 26 #[.agg #[.slice sa m.stack.length sq, .slice ma m.mem.length mq, .slice wa m.words.length wq, .slice ca m.codes.length cq, .int .u32 m.base, .slice ta m.tree.length tq, .int .i64 m.node, .slice ia m.insts.length iq, .int .i64 m.self, .string o], .int .i64 xt, .int .i64 fuel] w fun e w'=>e= .returned (.tuple #[.agg zeroR, .int .i64 1])∧Below w.heap.size w w':=by
  intro W0 s0 s1 bw eW
  go_enter Tryz.func26,Tryz.ntmps26
  have EW:=hid eW
  clear eW
  go_upto_region 1 with fail
  rw[EW.out]
  have u0:=s0.cell 0 _ rfl
  have u1:=s0.cell 1 _ rfl
  have u2:=s0.cell 2 _ rfl
  have u3:=s0.cell 3 _ rfl
  have u4:=s0.cell 4 _ rfl
  have u5:=s0.cell 5 _ rfl
  have u6:=s0.cell 6 _ rfl
  have u7:=s0.cell 7 _ rfl
  have u8:=s0.cell 8 _ rfl
  have u9:=s0.cell 9 _ rfl
  have S1:=hid s1
  have BB:=hid bw
  clear s1 bw s0 EW
  by_cases f0:fuel < 0
  ·cases R
   ·clear hno
    go_upto_region 2 with (go_at_call 39;refine (CH.out _ BB.out).mono ?_;rintro e w2 ⟨rfl,b2⟩;have B2:=hid b2;clear b2)
    clear u0 u1 u2 u3 u4 u5 u6 u7 u8 u9
    have hbu:(Tryz.prog.built 67 [])=some zeroR:=by kernel_rfl
    have ib:(Tryz.prog.info? 67).map (·.size)=some zeroR.size:=by kernel_rfl
    have hst:Stands w2 (w.heap.size+1) zeroR 67:=S1.out.below B2.out
    refine wp_region_lit ?_
    refine wpList_buildS rfl 67 #[] rfl zeroR (by simpa using hbu) ?_
    refine wpList_store_row rfl 67 (.tmp 6) (.tmp 22) rfl (w.heap.size+1) zeroR rfl rfl 67 zeroR hst ib rfl (by decide+kernel) ?_
    rw[setRow_self _ _ _ _ _ hst]
    clear hbu ib
    go_wp2_with fail
    refine bodyPost_ret (res_row2 rfl _ _ (w.heap.size+1) 67 _ (0,0) _ rfl hst Tryz.underlying67 rfl (show _=some 27 by kernel_rfl)) rfl ?_
    exact ⟨rfl,below_trans BB.out B2.out⟩
   ·clear hno
    go_upto_region 2 with (go_at_call 39;refine (CH.out _ BB.out).mono ?_;rintro e w2 ⟨rfl,b2⟩;have B2:=hid b2;clear b2)
    clear u0 u1 u2 u3 u4 u5 u6 u7 u8 u9
    have hbu:(Tryz.prog.built 67 [])=some zeroR:=by kernel_rfl
    have ib:(Tryz.prog.info? 67).map (·.size)=some zeroR.size:=by kernel_rfl
    have hst:Stands w2 (w.heap.size+1) zeroR 67:=S1.out.below B2.out
    refine wp_region_lit ?_
    refine wpList_buildS rfl 67 #[] rfl zeroR (by simpa using hbu) ?_
    refine wpList_store_row rfl 67 (.tmp 6) (.tmp 22) rfl (w.heap.size+1) zeroR rfl rfl 67 zeroR hst ib rfl (by decide+kernel) ?_
    rw[setRow_self _ _ _ _ _ hst]
    clear hbu ib
    go_wp2_with fail
    refine bodyPost_ret (res_row2 rfl _ _ (w.heap.size+1) 67 _ (0,0) _ rfl hst Tryz.underlying67 rfl (show _=some 27 by kernel_rfl)) rfl ?_
    exact ⟨rfl,below_trans BB.out B2.out⟩
  ·by_cases f1:100000 < fuel
   ·cases R
    ·clear hno
     go_upto_region 2 with (go_at_call 39;refine (CH.out _ BB.out).mono ?_;rintro e w2 ⟨rfl,b2⟩;have B2:=hid b2;clear b2)
     clear u0 u1 u2 u3 u4 u5 u6 u7 u8 u9
     have hbu:(Tryz.prog.built 67 [])=some zeroR:=by kernel_rfl
     have ib:(Tryz.prog.info? 67).map (·.size)=some zeroR.size:=by kernel_rfl
     have hst:Stands w2 (w.heap.size+1) zeroR 67:=S1.out.below B2.out
     refine wp_region_lit ?_
     refine wpList_buildS rfl 67 #[] rfl zeroR (by simpa using hbu) ?_
     refine wpList_store_row rfl 67 (.tmp 6) (.tmp 22) rfl (w.heap.size+1) zeroR rfl rfl 67 zeroR hst ib rfl (by decide+kernel) ?_
     rw[setRow_self _ _ _ _ _ hst]
     clear hbu ib
     go_wp2_with fail
     refine bodyPost_ret (res_row2 rfl _ _ (w.heap.size+1) 67 _ (0,0) _ rfl hst Tryz.underlying67 rfl (show _=some 27 by kernel_rfl)) rfl ?_
     exact ⟨rfl,below_trans BB.out B2.out⟩
    ·clear hno
     go_upto_region 2 with (go_at_call 39;refine (CH.out _ BB.out).mono ?_;rintro e w2 ⟨rfl,b2⟩;have B2:=hid b2;clear b2)
     clear u0 u1 u2 u3 u4 u5 u6 u7 u8 u9
     have hbu:(Tryz.prog.built 67 [])=some zeroR:=by kernel_rfl
     have ib:(Tryz.prog.info? 67).map (·.size)=some zeroR.size:=by kernel_rfl
     have hst:Stands w2 (w.heap.size+1) zeroR 67:=S1.out.below B2.out
     refine wp_region_lit ?_
     refine wpList_buildS rfl 67 #[] rfl zeroR (by simpa using hbu) ?_
     refine wpList_store_row rfl 67 (.tmp 6) (.tmp 22) rfl (w.heap.size+1) zeroR rfl rfl 67 zeroR hst ib rfl (by decide+kernel) ?_
     rw[setRow_self _ _ _ _ _ hst]
     clear hbu ib
     go_wp2_with fail
     refine bodyPost_ret (res_row2 rfl _ _ (w.heap.size+1) 67 _ (0,0) _ rfl hst Tryz.underlying67 rfl (show _=some 27 by kernel_rfl)) rfl ?_
     exact ⟨rfl,below_trans BB.out B2.out⟩
   ·have hR:R=false:=by
     rcases hno with z|z|z
     ·exact z
     ·exact absurd z f0
     ·exact absurd z f1
    subst hR
    clear hno
    go_upto_region 2 with (go_at_call 39;refine (CH.out _ BB.out).mono ?_;rintro e w2 ⟨rfl,b2⟩;have B2:=hid b2;clear b2)
    clear u0 u1 u2 u3 u4 u5 u6 u7 u8 u9
    have hbu:(Tryz.prog.built 67 [])=some zeroR:=by kernel_rfl
    have ib:(Tryz.prog.info? 67).map (·.size)=some zeroR.size:=by kernel_rfl
    have hst:Stands w2 (w.heap.size+1) zeroR 67:=S1.out.below B2.out
    refine wp_region_lit ?_
    refine wpList_buildS rfl 67 #[] rfl zeroR (by simpa using hbu) ?_
    refine wpList_store_row rfl 67 (.tmp 6) (.tmp 22) rfl (w.heap.size+1) zeroR rfl rfl 67 zeroR hst ib rfl (by decide+kernel) ?_
    rw[setRow_self _ _ _ _ _ hst]
    clear hbu ib
    go_wp2_with fail
    refine bodyPost_ret (res_row2 rfl _ _ (w.heap.size+1) 67 _ (0,0) _ rfl hst Tryz.underlying67 rfl (show _=some 27 by kernel_rfl)) rfl ?_
    exact ⟨rfl,below_trans BB.out B2.out⟩
 exact key _ s0 s1 BW.out rfl
theorem rnC_one {s b:Sv} {vf:Value} {op nx fu th:Int} (hs:svF s) (hb:svF b) (hv:∃a n c,vf= .slice a n c):(rnC s b vf op nx fu th).all (·.oneCell')=true:=by
 obtain ⟨a0,n0,c0,a1,n1,c1,a2,n2,c2,a3,n3,c3,a5,n5,c5,a7,n7,c7,a10,n10,c10,e0,e1,e2,e3,e5,e7,e10⟩:=hs
 obtain ⟨d0,o0,g0,d1,o1,g1,d2,o2,g2,d3,o3,g3,d5,o5,g5,d7,o7,g7,d10,o10,g10,f0,f1,f2,f3,f5,f7,f10⟩:=hb
 obtain ⟨va,vn,vc,ev⟩:=hv
 unfold rnC
 rw[e0,e1,e2,e3,e5,e7,e10,f0,f1,f2,f3,f5,f7,f10,ev]
 kernel_rfl
theorem kept_row {T:TypeId} {w:World} {g:Nat} {old:Array Value} (h:Stands w g old T) (cs:Array Value):Kept T w (w.setRow g cs):=
 ⟨some g,⟨rfl,rfl,rfl,by simp,fun k hk hne=>setRow_other w g k cs (fun e=>hne (by rw[e]))⟩,fun g' e=>by cases e;exact ⟨old,(0,0),h⟩⟩
def RdR (w:World) (s:Sv):Prop:=∃D B,StL kR D w s∧WdL kR D B w s.v.vw s.m.words∧InL kR D B w s.v.vi s.m.insts
theorem RdR.kept {T:TypeId} {w w':World} {s:Sv} (h:RdR w s) (k:Kept T w w') (hT:kR T=true) (hw:¬59=T) (hi:¬26=T):RdR w' s:=by
 obtain ⟨D,B,h1,h2,h3⟩:=h
 have a:Agr kR D w w':=Agr.kept k hT
 exact ⟨D,B,h1.agr a,h2.kept k a hw,h3.kept k a hi⟩
theorem RdR.below {w w':World} {s:Sv} (h:RdR w s) (g:Below w.heap.size w w'):RdR w' s:=h.kept (Kept.below g:Kept 30 w w') rfl (by decide) (by decide)
theorem RdR.rdm {w:World} {s:Sv} (h:RdR w s):RdM w s.v s.m s.o:=by
 obtain ⟨D,B,h1,h2,h3⟩:=h
 exact rdM_of h1 h2 h3
def RanP (w:World) (X:Rs×Nat×Int):Ending→World→Prop:=fun e w'=>
 Below w.heap.size w w'∧∃s b vf op nxt fuel thr,e= .returned (.tuple #[.agg (rnC s b vf op nxt fuel thr), .int .i64 X.2.2])∧svF s∧svF b∧(∃a n c,vf= .slice a n c)∧RdR w' s∧(X.2.2=0→s.m=X.1.m∧fuel=X.2.1)∧(X.2.2=28→thr=X.1.n)
set_option maxHeartbeats 8000000 in
theorem w_ranY (m:Mc) (v:Mv) (o:ByteArray) (xt:Int) (k:Nat) (w:World) (hT:Stk.Tab w) (h:RdM w v m o) (g:gM m) (hf:frmM m=true) (x0:0≤xt) (x1:xt < m.words.length) (hk:k≤100000) (ac:Acc m.words []) (xa:aX xt):
  Calls Tryz.prog 26 #[.agg (v.cs m o), .int .i64 xt, .int .i64 (k:Int)] w (RanP w (whoF iP m xt k)):=by
 have ch:=fun W (b:Below w.heap.size w W)=>w_has m v o xt W (h.below b) g
 have cc:=fun W (b:Below w.heap.size w W)=>w_copyL m v o W (h.below b) g
 rw[hf,decide_eq_true x0,decide_eq_true x1] at ch
 obtain ⟨KF,hKF⟩:∃n:Int,(k:Int)=n:=⟨_,rfl⟩
 obtain ⟨PQ,hPQ⟩:∃PQ,PQ=RanP w (whoF iP m xt k):=⟨_,rfl⟩
 rw[←hPQ]
 have HPQ:=hid hPQ
 clear hPQ
 have HT:=hid (And.intro hT (And.intro hKF (And.intro hf (And.intro x0 (And.intro x1 (And.intro hk g))))))
 have k0:0≤KF:=by omega
 have k1:KF≤100000:=by omega
 rw[hKF]
 clear hKF hT hf x0 x1 hk g
 obtain ⟨vs,vm,vw,vc,vt,vi⟩:=v
 obtain ⟨hs,hm,hw,hc,ht,hi,ho⟩:=h
 simp only at hs hm hw hc ht hi
 obtain ⟨sa,sq,rfl⟩:=rd_slice hs
 obtain ⟨ma,mq,rfl⟩:=rd_slice hm
 obtain ⟨wa,wq,rfl⟩:=slr_slice hw
 obtain ⟨ca,cq,rfl⟩:=rd_slice hc
 obtain ⟨ta,tq,rfl⟩:=slr_slice ht
 obtain ⟨ia,iq,rfl⟩:=slr_slice hi
 simp only[Mv.cs] at ch ⊢
 have s0:=(stands_new w #[.slice sa m.stack.length sq, .slice ma m.mem.length mq, .slice wa m.words.length wq, .slice ca m.codes.length cq, .int .u32 m.base, .slice ta m.tree.length tq, .int .i64 m.node, .slice ia m.insts.length iq, .int .i64 m.self, .string o] 30).below (box_below (w.alloc (.cells #[.slice sa m.stack.length sq, .slice ma m.mem.length mq, .slice wa m.words.length wq, .slice ca m.codes.length cq, .int .u32 m.base, .slice ta m.tree.length tq, .int .i64 m.node, .slice ia m.insts.length iq, .int .i64 m.self, .string o] 30)) (.cells #[.slice none 0 0, .slice none 0 0, .slice none 0 0, .slice none 0 0, .int .u32 0, .slice none 0 0, .int .i64 0, .slice none 0 0, .int .i64 0, .string ⟨#[]⟩, .slice none 0 0, .slice none 0 0, .slice none 0 0, .slice none 0 0, .slice none 0 0, .int .u32 0, .slice none 0 0, .int .i64 0, .slice none 0 0, .int .i64 0, .string ⟨#[]⟩, .slice none 0 0, .slice none 0 0, .int .i64 0, .int .i64 0, .int .i64 0, .int .u32 0] 67))
 have s1:=stands_new (w.alloc (.cells #[.slice sa m.stack.length sq, .slice ma m.mem.length mq, .slice wa m.words.length wq, .slice ca m.codes.length cq, .int .u32 m.base, .slice ta m.tree.length tq, .int .i64 m.node, .slice ia m.insts.length iq, .int .i64 m.self, .string o] 30)) #[.slice none 0 0, .slice none 0 0, .slice none 0 0, .slice none 0 0, .int .u32 0, .slice none 0 0, .int .i64 0, .slice none 0 0, .int .i64 0, .string ⟨#[]⟩, .slice none 0 0, .slice none 0 0, .slice none 0 0, .slice none 0 0, .slice none 0 0, .int .u32 0, .slice none 0 0, .int .i64 0, .slice none 0 0, .int .i64 0, .string ⟨#[]⟩, .slice none 0 0, .slice none 0 0, .int .i64 0, .int .i64 0, .int .i64 0, .int .u32 0] 67
 have bw:=below_trans (box_below w (.cells #[.slice sa m.stack.length sq, .slice ma m.mem.length mq, .slice wa m.words.length wq, .slice ca m.codes.length cq, .int .u32 m.base, .slice ta m.tree.length tq, .int .i64 m.node, .slice ia m.insts.length iq, .int .i64 m.self, .string o] 30)) (box_below (w.alloc (.cells #[.slice sa m.stack.length sq, .slice ma m.mem.length mq, .slice wa m.words.length wq, .slice ca m.codes.length cq, .int .u32 m.base, .slice ta m.tree.length tq, .int .i64 m.node, .slice ia m.insts.length iq, .int .i64 m.self, .string o] 30)) (.cells #[.slice none 0 0, .slice none 0 0, .slice none 0 0, .slice none 0 0, .int .u32 0, .slice none 0 0, .int .i64 0, .slice none 0 0, .int .i64 0, .string ⟨#[]⟩, .slice none 0 0, .slice none 0 0, .slice none 0 0, .slice none 0 0, .slice none 0 0, .int .u32 0, .slice none 0 0, .int .i64 0, .slice none 0 0, .int .i64 0, .string ⟨#[]⟩, .slice none 0 0, .slice none 0 0, .int .i64 0, .int .i64 0, .int .i64 0, .int .u32 0] 67))
 rw[size_al] at s1
 have CH:=hid ch
 have CC:=hid cc
 have BW:=hid bw
 clear hs hm hw hc ht hi ho ch cc bw
 have key:∀(W0:World),Stands W0 w.heap.size #[.slice sa m.stack.length sq, .slice ma m.mem.length mq, .slice wa m.words.length wq, .slice ca m.codes.length cq, .int .u32 m.base, .slice ta m.tree.length tq, .int .i64 m.node, .slice ia m.insts.length iq, .int .i64 m.self, .string o] 30→Stands W0 (w.heap.size+1) #[.slice none 0 0, .slice none 0 0, .slice none 0 0, .slice none 0 0, .int .u32 0, .slice none 0 0, .int .i64 0, .slice none 0 0, .int .i64 0, .string ⟨#[]⟩, .slice none 0 0, .slice none 0 0, .slice none 0 0, .slice none 0 0, .slice none 0 0, .int .u32 0, .slice none 0 0, .int .i64 0, .slice none 0 0, .int .i64 0, .string ⟨#[]⟩, .slice none 0 0, .slice none 0 0, .int .i64 0, .int .i64 0, .int .i64 0, .int .u32 0] 67→Below w.heap.size w W0→((w.alloc (.cells #[.slice sa m.stack.length sq, .slice ma m.mem.length mq, .slice wa m.words.length wq, .slice ca m.codes.length cq, .int .u32 m.base, .slice ta m.tree.length tq, .int .i64 m.node, .slice ia m.insts.length iq, .int .i64 m.self, .string o] 30)).alloc (.cells #[.slice none 0 0, .slice none 0 0, .slice none 0 0, .slice none 0 0, .int .u32 0, .slice none 0 0, .int .i64 0, .slice none 0 0, .int .i64 0, .string ⟨#[]⟩, .slice none 0 0, .slice none 0 0, .slice none 0 0, .slice none 0 0, .slice none 0 0, .int .u32 0, .slice none 0 0, .int .i64 0, .slice none 0 0, .int .i64 0, .string ⟨#[]⟩, .slice none 0 0, .slice none 0 0, .int .i64 0, .int .i64 0, .int .i64 0, .int .u32 0] 67))=W0→Calls Tryz.prog 26 #[.agg #[.slice sa m.stack.length sq, .slice ma m.mem.length mq, .slice wa m.words.length wq, .slice ca m.codes.length cq, .int .u32 m.base, .slice ta m.tree.length tq, .int .i64 m.node, .slice ia m.insts.length iq, .int .i64 m.self, .string o], .int .i64 xt, .int .i64 KF] w PQ:=by
  intro W0 s0 s1 bw eW
  go_enter Tryz.func26,Tryz.ntmps26
  have EW:=hid eW
  clear eW
  go_upto_region 1 with fail
  rw[EW.out]
  have u0:=s0.cell 0 _ rfl
  have u1:=s0.cell 1 _ rfl
  have u2:=s0.cell 2 _ rfl
  have u3:=s0.cell 3 _ rfl
  have u4:=s0.cell 4 _ rfl
  have u5:=s0.cell 5 _ rfl
  have u6:=s0.cell 6 _ rfl
  have u7:=s0.cell 7 _ rfl
  have u8:=s0.cell 8 _ rfl
  have u9:=s0.cell 9 _ rfl
  have S0:=hid s0
  have S1:=hid s1
  have BB:=hid bw
  clear s1 bw s0 EW
  go_upto_region 3 with (go_at_call 39;refine (CH.out _ BB.out).mono ?_;rintro e w2 ⟨rfl,b2⟩;have B2:=hid b2;clear b2)
  clear u0 u1 u2 u3 u4 u5 u6 u7 u8 u9
  refine wp_region_lit ?_
  refine wpList_load_row rfl 30 (.tmp 3) rfl w.heap.size rfl 30 _ (0,0) _ (S0.out.below B2.out) Tryz.underlying30 rfl (show _=some 10 by kernel_rfl) ?_
  go_step
  go_step
  refine (CC.out _ (below_trans BB.out B2.out)).mono ?_
  rintro e w3 ⟨v1,rfl,⟨D,cp⟩,b3⟩
  obtain ⟨a0,k0',a1,k1',a2,k2,a3,k3,a5,k5,a7,k7,rfl⟩:=cp.forms
  simp only[Mv.cs]
  have CP:=hid (And.intro cp b3)
  clear cp b3
  go_step
  refine wpList_buildS rfl 64 _ rfl #[.slice a0 m.stack.length k0', .slice a1 m.mem.length k1', .slice a2 m.words.length k2, .slice a3 m.codes.length k3, .int .u32 m.base, .slice a5 m.tree.length k5, .int .i64 m.node, .slice a7 m.insts.length k7, .int .i64 m.self, .string o, .slice none 0 0] (by kernel_rfl) ?_
  go_step
  go_step
  go_step
  go_step
  go_step
  go_step
  refine wpList_buildS rfl 67 _ rfl #[.slice a0 m.stack.length k0', .slice a1 m.mem.length k1', .slice a2 m.words.length k2, .slice a3 m.codes.length k3, .int .u32 m.base, .slice a5 m.tree.length k5, .int .i64 m.node, .slice a7 m.insts.length k7, .int .i64 m.self, .string o, .slice none 0 0, .slice none 0 0, .slice none 0 0, .slice none 0 0, .slice none 0 0, .int .u32 0, .slice none 0 0, .int .i64 0, .slice none 0 0, .int .i64 0, .string ⟨#[]⟩, .slice none 0 0, .slice none 0 0, .int .i64 0, .int .i64 xt, .int .i64 KF, .int .u32 0] (by kernel_rfl) ?_
  go_step
  go_step
  go_step
  have ib:(Tryz.prog.info? 67).map (·.size)=some 27:=by kernel_rfl
  refine wpList_store_row rfl 67 (.tmp 8) (.tmp 28) rfl w3.heap.size #[.slice a0 m.stack.length k0', .slice a1 m.mem.length k1', .slice a2 m.words.length k2, .slice a3 m.codes.length k3, .int .u32 m.base, .slice a5 m.tree.length k5, .int .i64 m.node, .slice a7 m.insts.length k7, .int .i64 m.self, .string o, .slice none 0 0, .slice none 0 0, .slice none 0 0, .slice none 0 0, .slice none 0 0, .int .u32 0, .slice none 0 0, .int .i64 0, .slice none 0 0, .int .i64 0, .string ⟨#[]⟩, .slice none 0 0, .slice none 0 0, .int .i64 0, .int .i64 xt, .int .i64 KF, .int .u32 0] rfl rfl 67 _ (stands_new w3 _ _) ib rfl (by kernel_rfl) ?_
  obtain ⟨hT,hKF,hf,x0,x1,hk,g⟩:=HT.out
  subst hKF
  have hp:RunP w2.heap.size D ((w3.alloc (.cells #[.slice none 0 0, .slice none 0 0, .slice none 0 0, .slice none 0 0, .int .u32 0, .slice none 0 0, .int .i64 0, .slice none 0 0, .int .i64 0, .string ⟨#[]⟩, .slice none 0 0, .slice none 0 0, .slice none 0 0, .slice none 0 0, .slice none 0 0, .int .u32 0, .slice none 0 0, .int .i64 0, .slice none 0 0, .int .i64 0, .string ⟨#[]⟩, .slice none 0 0, .slice none 0 0, .int .i64 0, .int .i64 0, .int .i64 0, .int .u32 0] 67)).setRow w3.heap.size #[.slice a0 m.stack.length k0', .slice a1 m.mem.length k1', .slice a2 m.words.length k2, .slice a3 m.codes.length k3, .int .u32 m.base, .slice a5 m.tree.length k5, .int .i64 m.node, .slice a7 m.insts.length k7, .int .i64 m.self, .string o, .slice none 0 0, .slice none 0 0, .slice none 0 0, .slice none 0 0, .slice none 0 0, .int .u32 0, .slice none 0 0, .int .i64 0, .slice none 0 0, .int .i64 0, .string ⟨#[]⟩, .slice none 0 0, .slice none 0 0, .int .i64 0, .int .i64 xt, .int .i64 (k:Int), .int .u32 0]) w3.heap.size ⟨⟨.slice a0 m.stack.length k0', .slice a1 m.mem.length k1', .slice a2 m.words.length k2, .slice a3 m.codes.length k3, .slice a5 m.tree.length k5, .slice a7 m.insts.length k7⟩,m,o, .slice none 0 0,[]⟩ ⟨nilX,nilM,⟨#[]⟩, .slice none 0 0,[]⟩ (.slice none 0 0) [] xt (k:Int) 0:=by
   refine RunP.beg CP.out.1 (below_setRow (box_below w3 _) (Nat.le_refl _) _) CP.out.2.size CP.out.2.size ?_ (setRow_heap _ _ _ _ _ _ (stands_new w3 _ _))
   intro u hu
   exact (hT.below (below_trans BB.out B2.out)).below (Below.trans (below_trans CP.out.2 (below_setRow (box_below w3 _) (Nat.le_refl _) _)) hu)
  have cr:=w_run hp (wdP_beg hf g x0 x1 hk ac xa)
  have b23:Hid (Below w2.heap.size w2 ((w3.alloc (.cells #[.slice none 0 0, .slice none 0 0, .slice none 0 0, .slice none 0 0, .int .u32 0, .slice none 0 0, .int .i64 0, .slice none 0 0, .int .i64 0, .string ⟨#[]⟩, .slice none 0 0, .slice none 0 0, .slice none 0 0, .slice none 0 0, .slice none 0 0, .int .u32 0, .slice none 0 0, .int .i64 0, .slice none 0 0, .int .i64 0, .string ⟨#[]⟩, .slice none 0 0, .slice none 0 0, .int .i64 0, .int .i64 0, .int .i64 0, .int .u32 0] 67)).setRow w3.heap.size #[.slice a0 m.stack.length k0', .slice a1 m.mem.length k1', .slice a2 m.words.length k2, .slice a3 m.codes.length k3, .int .u32 m.base, .slice a5 m.tree.length k5, .int .i64 m.node, .slice a7 m.insts.length k7, .int .i64 m.self, .string o, .slice none 0 0, .slice none 0 0, .slice none 0 0, .slice none 0 0, .slice none 0 0, .int .u32 0, .slice none 0 0, .int .i64 0, .slice none 0 0, .int .i64 0, .string ⟨#[]⟩, .slice none 0 0, .slice none 0 0, .int .i64 0, .int .i64 xt, .int .i64 (k:Int), .int .u32 0])):=hid (below_trans CP.out.2 (below_setRow (box_below w3 _) (Nat.le_refl _) _))
  generalize ((w3.alloc (.cells #[.slice none 0 0, .slice none 0 0, .slice none 0 0, .slice none 0 0, .int .u32 0, .slice none 0 0, .int .i64 0, .slice none 0 0, .int .i64 0, .string ⟨#[]⟩, .slice none 0 0, .slice none 0 0, .slice none 0 0, .slice none 0 0, .slice none 0 0, .int .u32 0, .slice none 0 0, .int .i64 0, .slice none 0 0, .int .i64 0, .string ⟨#[]⟩, .slice none 0 0, .slice none 0 0, .int .i64 0, .int .i64 0, .int .i64 0, .int .u32 0] 67)).setRow w3.heap.size #[.slice a0 m.stack.length k0', .slice a1 m.mem.length k1', .slice a2 m.words.length k2, .slice a3 m.codes.length k3, .int .u32 m.base, .slice a5 m.tree.length k5, .int .i64 m.node, .slice a7 m.insts.length k7, .int .i64 m.self, .string o, .slice none 0 0, .slice none 0 0, .slice none 0 0, .slice none 0 0, .slice none 0 0, .int .u32 0, .slice none 0 0, .int .i64 0, .slice none 0 0, .int .i64 0, .string ⟨#[]⟩, .slice none 0 0, .slice none 0 0, .int .i64 0, .int .i64 xt, .int .i64 (k:Int), .int .u32 0])=w4 at cr b23 ⊢
  have CR:=hid cr
  clear cr hp hT hf x0 x1 g ib HT CC CH k0 k1 hk
  go_upto_region 5 with (go_at_call 41;refine CR.out.mono ?_;rintro e w5 ⟨b5,rfl,s5,bb5,vf5,fs5,nx5,fu5,th5,h5,q1,q2⟩;have H5:=hid (And.intro b5 (And.intro h5 (And.intro q1 q2)));clear b5 h5 q1 q2)
  have b25:=Below.trans b23.out H5.out.1
  have st5:=((S1.out.below B2.out).below b25)
  have ib:(Tryz.prog.info? 67).map (·.size)=some 27:=by kernel_rfl
  have one:=rnC_one (op:=dpF fs5) (nx:=nx5) (fu:=fu5) (th:=th5) H5.out.2.1.toP.fS H5.out.2.1.fB (by obtain ⟨a,c,e⟩:=own_form H5.out.2.1.fr;exact ⟨a,_,c,e⟩)
  refine wp_region_lit ?_
  refine wpList_load_row rfl 67 (.tmp 8) rfl w3.heap.size rfl 67 (rnC s5 bb5 vf5 (dpF fs5) nx5 fu5 th5) (0,0) _ H5.out.2.1.st Tryz.underlying67 rfl ib ?_
  go_step
  go_step
  go_step
  refine wpList_store_row rfl 67 (.tmp 6) (.tmp 30) rfl (w.heap.size+1) (rnC s5 bb5 vf5 (dpF fs5) nx5 fu5 th5) rfl rfl 67 _ st5 ib rfl one ?_
  have s6:=setRow_heap w5 (w.heap.size+1) _ (rnC s5 bb5 vf5 (dpF fs5) nx5 fu5 th5) 67 (0,0) st5
  have k6:Kept 67 w5 (w5.setRow (w.heap.size+1) (rnC s5 bb5 vf5 (dpF fs5) nx5 fu5 th5)):=kept_row st5 _
  have bl6:Below w.heap.size w (w5.setRow (w.heap.size+1) (rnC s5 bb5 vf5 (dpF fs5) nx5 fu5 th5)):=below_setRow (below_trans (below_trans BB.out B2.out) b25) (by omega) _
  have H6:=hid (And.intro s6 (And.intro k6 bl6))
  clear s6 k6 bl6 one ib st5 b25
  generalize w5.setRow (w.heap.size+1) (rnC s5 bb5 vf5 (dpF fs5) nx5 fu5 th5)=w6 at H6 ⊢
  obtain ⟨R5,hR5⟩:∃R,rnC s5 bb5 vf5 (dpF fs5) nx5 fu5 th5=R:=⟨_,rfl⟩
  rw[hR5] at H6
  simp only[hR5]
  go_wp2_with fail
  refine bodyPost_ret (res_row2 rfl _ _ (w.heap.size+1) 67 _ (0,0) _ rfl H6.out.1 Tryz.underlying67 rfl (show _=some R5.size by rw[←hR5];kernel_rfl)) rfl ?_
  rw[HPQ.out]
  obtain ⟨s6,k6,bl6⟩:=H6.out
  obtain ⟨b5,h5,q1,q2⟩:=H5.out
  have ag:Agr kR D w5 w6:=Agr.kept k6 rfl
  exact ⟨bl6,s5,bb5,vf5,dpF fs5,nx5,fu5,th5,by rw[hR5];rfl,h5.toP.fS,h5.fB,(by obtain ⟨a,c,e⟩:=own_form h5.fr;exact ⟨a,_,c,e⟩),⟨_,_,h5.hs.agr ag,h5.wd.kept k6 ag (by decide),h5.ins.kept k6 ag (by decide)⟩,q1,q2⟩
 exact key _ s0 s1 BW.out rfl
def zeroM:Array Value:=#[.slice none 0 0, .slice none 0 0, .slice none 0 0, .slice none 0 0, .int .u32 0, .slice none 0 0, .int .i64 0, .slice none 0 0, .int .i64 0, .string ⟨#[]⟩]
def RunQ (w:World) (X:Rs×Nat×Int):Ending→World→Prop:=fun e w'=>
 (X.2.2=0∧∃v1 o1,e= .returned (.tuple #[.agg (Mv.cs v1 X.1.m o1), .int .i64 X.2.1, .int .i64 0])∧RdM w' v1 X.1.m o1∧Below w.heap.size w w')∨
 (¬X.2.2=0∧e= .returned (.tuple #[.agg zeroM, .int .i64 0, .int .i64 X.2.2])∧Below w.heap.size w w')
set_option maxHeartbeats 8000000 in
theorem w_runY (m:Mc) (v:Mv) (o:ByteArray) (xt:Int) (k:Nat) (w:World) (hT:Stk.Tab w) (h:RdM w v m o) (g:gM m) (hf:frmM m=true) (x0:0≤xt) (x1:xt < m.words.length) (hk:k≤100000) (ac:Acc m.words []) (xa:aX xt):
  Calls Tryz.prog 11 #[.agg (v.cs m o), .int .i64 xt, .int .i64 (k:Int)] w (RunQ w (whoF iP m xt k)):=by
 have cc:=fun W (b:Below w.heap.size w W)=>w_ranY m v o xt k W (hT.below b) (h.below b) g hf x0 x1 hk ac xa
 clear hT hf x0 x1 hk g ac xa
 obtain ⟨vs,vm,vw,vc,vt,vi⟩:=v
 obtain ⟨hs,hm,hw,hc,ht,hi,ho⟩:=h
 simp only at hs hm hw hc ht hi
 obtain ⟨sa,sq,rfl⟩:=rd_slice hs
 obtain ⟨ma,mq,rfl⟩:=rd_slice hm
 obtain ⟨wa,wq,rfl⟩:=slr_slice hw
 obtain ⟨ca,cq,rfl⟩:=rd_slice hc
 obtain ⟨ta,tq,rfl⟩:=slr_slice ht
 obtain ⟨ia,iq,rfl⟩:=slr_slice hi
 simp only[Mv.cs] at cc ⊢
 have s0:=(stands_new w #[.slice sa m.stack.length sq, .slice ma m.mem.length mq, .slice wa m.words.length wq, .slice ca m.codes.length cq, .int .u32 m.base, .slice ta m.tree.length tq, .int .i64 m.node, .slice ia m.insts.length iq, .int .i64 m.self, .string o] 30).below (box_below (w.alloc (.cells #[.slice sa m.stack.length sq, .slice ma m.mem.length mq, .slice wa m.words.length wq, .slice ca m.codes.length cq, .int .u32 m.base, .slice ta m.tree.length tq, .int .i64 m.node, .slice ia m.insts.length iq, .int .i64 m.self, .string o] 30)) (.cells #[.slice none 0 0, .slice none 0 0, .slice none 0 0, .slice none 0 0, .int .u32 0, .slice none 0 0, .int .i64 0, .slice none 0 0, .int .i64 0, .string ⟨#[]⟩] 30))
 have s1:=stands_new (w.alloc (.cells #[.slice sa m.stack.length sq, .slice ma m.mem.length mq, .slice wa m.words.length wq, .slice ca m.codes.length cq, .int .u32 m.base, .slice ta m.tree.length tq, .int .i64 m.node, .slice ia m.insts.length iq, .int .i64 m.self, .string o] 30)) #[.slice none 0 0, .slice none 0 0, .slice none 0 0, .slice none 0 0, .int .u32 0, .slice none 0 0, .int .i64 0, .slice none 0 0, .int .i64 0, .string ⟨#[]⟩] 30
 have bw:=below_trans (box_below w (.cells #[.slice sa m.stack.length sq, .slice ma m.mem.length mq, .slice wa m.words.length wq, .slice ca m.codes.length cq, .int .u32 m.base, .slice ta m.tree.length tq, .int .i64 m.node, .slice ia m.insts.length iq, .int .i64 m.self, .string o] 30)) (box_below (w.alloc (.cells #[.slice sa m.stack.length sq, .slice ma m.mem.length mq, .slice wa m.words.length wq, .slice ca m.codes.length cq, .int .u32 m.base, .slice ta m.tree.length tq, .int .i64 m.node, .slice ia m.insts.length iq, .int .i64 m.self, .string o] 30)) (.cells #[.slice none 0 0, .slice none 0 0, .slice none 0 0, .slice none 0 0, .int .u32 0, .slice none 0 0, .int .i64 0, .slice none 0 0, .int .i64 0, .string ⟨#[]⟩] 30))
 rw[size_al] at s1
 obtain ⟨X,hX⟩:∃X,whoF iP m xt k=X:=⟨_,rfl⟩
 simp only[hX] at cc ⊢
 obtain ⟨PQ,hPQ⟩:∃PQ,PQ=RunQ w X:=⟨_,rfl⟩
 rw[←hPQ]
 have HPQ:=hid hPQ
 clear hPQ
 have CC:=hid cc
 have BW:=hid bw
 clear hs hm hw hc ht hi ho cc bw hX
 have key:∀(W0:World),Stands W0 w.heap.size #[.slice sa m.stack.length sq, .slice ma m.mem.length mq, .slice wa m.words.length wq, .slice ca m.codes.length cq, .int .u32 m.base, .slice ta m.tree.length tq, .int .i64 m.node, .slice ia m.insts.length iq, .int .i64 m.self, .string o] 30→Stands W0 (w.heap.size+1) #[.slice none 0 0, .slice none 0 0, .slice none 0 0, .slice none 0 0, .int .u32 0, .slice none 0 0, .int .i64 0, .slice none 0 0, .int .i64 0, .string ⟨#[]⟩] 30→Below w.heap.size w W0→((w.alloc (.cells #[.slice sa m.stack.length sq, .slice ma m.mem.length mq, .slice wa m.words.length wq, .slice ca m.codes.length cq, .int .u32 m.base, .slice ta m.tree.length tq, .int .i64 m.node, .slice ia m.insts.length iq, .int .i64 m.self, .string o] 30)).alloc (.cells #[.slice none 0 0, .slice none 0 0, .slice none 0 0, .slice none 0 0, .int .u32 0, .slice none 0 0, .int .i64 0, .slice none 0 0, .int .i64 0, .string ⟨#[]⟩] 30))=W0→Calls Tryz.prog 11 #[.agg #[.slice sa m.stack.length sq, .slice ma m.mem.length mq, .slice wa m.words.length wq, .slice ca m.codes.length cq, .int .u32 m.base, .slice ta m.tree.length tq, .int .i64 m.node, .slice ia m.insts.length iq, .int .i64 m.self, .string o], .int .i64 xt, .int .i64 (k:Int)] w PQ:=by
  intro W0 s0 s1 bw eW
  go_enter Tryz.func11,Tryz.ntmps11
  have EW:=hid eW
  clear eW
  go_upto_region 1 with fail
  rw[EW.out]
  have S0:=hid s0
  have S1:=hid s1
  have BB:=hid bw
  clear s1 bw s0 EW
  refine wp_region_lit ?_
  refine wpList_load_row rfl 30 (.tmp 3) rfl w.heap.size rfl 30 _ (0,0) _ S0.out Tryz.underlying30 rfl (show _=some 10 by kernel_rfl) ?_
  iterate 6 go_step
  go_step
  go_step
  refine (CC.out _ BB.out).mono ?_
  rintro e w2 ⟨b2,s5,bb5,vf5,op5,nx5,fu5,th5,rfl,fs5,fb5,fv5,rd5,q1,q2⟩
  have one:=rnC_one (op:=op5) (nx:=nx5) (fu:=fu5) (th:=th5) fs5 fb5 fv5
  have H5:=hid (And.intro b2 (And.intro fs5 (And.intro rd5 (And.intro q1 (And.intro q2 one)))))
  clear b2 fs5 fb5 fv5 rd5 q1 q2 one
  obtain ⟨R5,hR5⟩:∃R,rnC s5 bb5 vf5 op5 nx5 fu5 th5=R:=⟨_,rfl⟩
  simp only[hR5]
  have HR5:=hid hR5
  clear hR5
  go_step
  iterate 12 go_step
  have ib:(Tryz.prog.info? 67).map (·.size)=some R5.size:=by rw[←HR5.out];kernel_rfl
  refine wpList_store_row rfl 67 (.tmp 9) (.tmp 16) rfl w2.heap.size R5 rfl rfl 67 _ (stands_new w2 _ _) ib (by rw[←HR5.out];rfl) (by rw[←HR5.out];exact H5.out.2.2.2.2.2) ?_
  have s3:Stands _ w2.heap.size R5 67:=setRow_heap _ w2.heap.size _ R5 67 (0,0) (stands_new w2 #[.slice none 0 0, .slice none 0 0, .slice none 0 0, .slice none 0 0, .int .u32 0, .slice none 0 0, .int .i64 0, .slice none 0 0, .int .i64 0, .string ⟨#[]⟩, .slice none 0 0, .slice none 0 0, .slice none 0 0, .slice none 0 0, .slice none 0 0, .int .u32 0, .slice none 0 0, .int .i64 0, .slice none 0 0, .int .i64 0, .string ⟨#[]⟩, .slice none 0 0, .slice none 0 0, .int .i64 0, .int .i64 0, .int .i64 0, .int .u32 0] 67)
  have b3:Below w2.heap.size w2 _:=below_setRow (box_below w2 (.cells #[.slice none 0 0, .slice none 0 0, .slice none 0 0, .slice none 0 0, .int .u32 0, .slice none 0 0, .int .i64 0, .slice none 0 0, .int .i64 0, .string ⟨#[]⟩, .slice none 0 0, .slice none 0 0, .slice none 0 0, .slice none 0 0, .slice none 0 0, .int .u32 0, .slice none 0 0, .int .i64 0, .slice none 0 0, .int .i64 0, .string ⟨#[]⟩, .slice none 0 0, .slice none 0 0, .int .i64 0, .int .i64 0, .int .i64 0, .int .u32 0] 67)) (Nat.le_refl _) R5
  generalize (w2.alloc (.cells #[.slice none 0 0, .slice none 0 0, .slice none 0 0, .slice none 0 0, .int .u32 0, .slice none 0 0, .int .i64 0, .slice none 0 0, .int .i64 0, .string ⟨#[]⟩, .slice none 0 0, .slice none 0 0, .slice none 0 0, .slice none 0 0, .slice none 0 0, .int .u32 0, .slice none 0 0, .int .i64 0, .slice none 0 0, .int .i64 0, .string ⟨#[]⟩, .slice none 0 0, .slice none 0 0, .int .i64 0, .int .i64 0, .int .i64 0, .int .u32 0] 67)).setRow w2.heap.size R5=w3 at s3 b3 ⊢
  have t3:=(S1.out.below H5.out.1).below b3
  have r3:=H5.out.2.2.1.below b3
  have bl3:=below_trans (below_trans BB.out H5.out.1) b3
  obtain ⟨a0,n0,c0,a1,n1,c1,a2,n2,c2,a3,n3,c3,a5,n5,c5,a7,n7,c7,a10,n10,c10,e0,e1,e2,e3,e5,e7,e10⟩:=H5.out.2.1
  rw[←HR5.out] at s3
  by_cases c:X.2.2=0
  ·obtain ⟨qm,qf⟩:=H5.out.2.2.2.1 c
   have QM:=hid (And.intro qm (And.intro r3 bl3))
   have QF:=hid qf
   have f0:w3.cell? ⟨w2.heap.size,0,none⟩=some s5.v.vs:=s3.cell 0 _ rfl
   have f1:w3.cell? ⟨w2.heap.size,1,none⟩=some s5.v.vm:=s3.cell 1 _ rfl
   have f2:w3.cell? ⟨w2.heap.size,2,none⟩=some s5.v.vw:=s3.cell 2 _ rfl
   have f3:w3.cell? ⟨w2.heap.size,3,none⟩=some s5.v.vc:=s3.cell 3 _ rfl
   have f4:w3.cell? ⟨w2.heap.size,4,none⟩=some (.int .u32 s5.m.base):=s3.cell 4 _ rfl
   have f5:w3.cell? ⟨w2.heap.size,5,none⟩=some s5.v.vt:=s3.cell 5 _ rfl
   have f6:w3.cell? ⟨w2.heap.size,6,none⟩=some (.int .i64 s5.m.node):=s3.cell 6 _ rfl
   have f7:w3.cell? ⟨w2.heap.size,7,none⟩=some s5.v.vi:=s3.cell 7 _ rfl
   have f8:w3.cell? ⟨w2.heap.size,8,none⟩=some (.int .i64 s5.m.self):=s3.cell 8 _ rfl
   have f9:w3.cell? ⟨w2.heap.size,9,none⟩=some (.string s5.o):=s3.cell 9 _ rfl
   have f25:w3.cell? ⟨w2.heap.size,25,none⟩=some (.int .i64 fu5):=s3.cell 25 _ rfl
   rw[e0] at f0
   rw[e1] at f1
   rw[e2] at f2
   rw[e3] at f3
   rw[e5] at f5
   rw[e7] at f7
   have y0:=t3.cell 0 _ rfl
   have y1:=t3.cell 1 _ rfl
   have y2:=t3.cell 2 _ rfl
   have y3:=t3.cell 3 _ rfl
   have y4:=t3.cell 4 _ rfl
   have y5:=t3.cell 5 _ rfl
   have y6:=t3.cell 6 _ rfl
   have y7:=t3.cell 7 _ rfl
   have y8:=t3.cell 8 _ rfl
   have y9:=t3.cell 9 _ rfl
   have yf:=t3.free
   have T3:=hid t3
   have S3:=hid s3
   have EE:=hid (And.intro e0 (And.intro e1 (And.intro e2 (And.intro e3 (And.intro e5 e7)))))
   clear t3 s3 r3 bl3 qm qf ib b3 e0 e1 e2 e3 e5 e7 e10
   rw[c]
   go_upto_region 4 with fail
   have hlt:w.heap.size+1 < w2.heap.size:=Nat.lt_of_lt_of_le (Array.getElem?_eq_some_iff.1 S1.out).1 H5.out.1.size
   have hn1:¬w2.heap.size=w.heap.size+1:=by omega
   have hn2:¬w.heap.size+1=w2.heap.size:=by omega
   clear hlt
   obtain ⟨k1,k2⟩:=set10X T3.out (.slice a0 n0 c0) (.slice a1 n1 c1) (.slice a2 n2 c2) (.slice a3 n3 c3) (.int .u32 s5.m.base) (.slice a5 n5 c5) (.int .i64 s5.m.node) (.slice a7 n7 c7) (.int .i64 s5.m.self) (.string s5.o)
   have GM:=hid (And.intro (k2 (fun u=>RdR u s5) (fun u u' kk q=>q.kept kk rfl (by decide) (by decide)) QM.out.2.1) k1)
   have J7:Hid (Below w.heap.size w _):=hid (below_set (below_set (below_set (below_set (below_set (below_set (below_set (below_set (below_set (below_set (QM.out.2.2) (w.heap.size+1) 0 (.slice a0 n0 c0) (by omega)) (w.heap.size+1) 1 (.slice a1 n1 c1) (by omega)) (w.heap.size+1) 2 (.slice a2 n2 c2) (by omega)) (w.heap.size+1) 3 (.slice a3 n3 c3) (by omega)) (w.heap.size+1) 4 (.int .u32 s5.m.base) (by omega)) (w.heap.size+1) 5 (.slice a5 n5 c5) (by omega)) (w.heap.size+1) 6 (.int .i64 s5.m.node) (by omega)) (w.heap.size+1) 7 (.slice a7 n7 c7) (by omega)) (w.heap.size+1) 8 (.int .i64 s5.m.self) (by omega)) (w.heap.size+1) 9 (.string s5.o) (by omega))
   clear k1 k2
   go_region
   go_step
   go_step
   go_step
   generalize ((((((((((w3.setCell ⟨w.heap.size+1,0,none⟩ (.slice a0 n0 c0)).setCell ⟨w.heap.size+1,1,none⟩ (.slice a1 n1 c1)).setCell ⟨w.heap.size+1,2,none⟩ (.slice a2 n2 c2)).setCell ⟨w.heap.size+1,3,none⟩ (.slice a3 n3 c3)).setCell ⟨w.heap.size+1,4,none⟩ (.int .u32 s5.m.base)).setCell ⟨w.heap.size+1,5,none⟩ (.slice a5 n5 c5)).setCell ⟨w.heap.size+1,6,none⟩ (.int .i64 s5.m.node)).setCell ⟨w.heap.size+1,7,none⟩ (.slice a7 n7 c7)).setCell ⟨w.heap.size+1,8,none⟩ (.int .i64 s5.m.self)).setCell ⟨w.heap.size+1,9,none⟩ (.string s5.o))=w4 at GM J7 ⊢
   refine bodyPost_ret (res_row3 rfl _ _ (w.heap.size+1) 30 _ (0,0) _ rfl GM.out.2 Tryz.underlying30 rfl (show _=some 10 by kernel_rfl)) rfl ?_
   rw[HPQ.out]
   obtain ⟨e0,e1,e2,e3,e5,e7⟩:=EE.out
   have ee:Mv.cs s5.v s5.m s5.o=#[.slice a0 n0 c0, .slice a1 n1 c1, .slice a2 n2 c2, .slice a3 n3 c3, .int .u32 s5.m.base, .slice a5 n5 c5, .int .i64 s5.m.node, .slice a7 n7 c7, .int .i64 s5.m.self, .string s5.o]:=by simp only[Mv.cs,e0,e1,e2,e3,e5,e7]
   refine Or.inl ⟨c,s5.v,s5.o, ?_, ?_,below_drewN J7.out 1⟩
   ·rw[←QM.out.1,←QF.out,ee]
    rfl
   ·rw[←QM.out.1]
    exact (GM.out.1.below (below_drewN (Below.refl _ _) 1)).rdm
  ·have QM:=hid (And.intro t3 bl3)
   clear t3 s3 r3 bl3 ib b3 e0 e1 e2 e3 e5 e7 e10
   go_upto_region 3 with fail
   have hbu:(Tryz.prog.built 30 [])=some zeroM:=by kernel_rfl
   have ib:(Tryz.prog.info? 30).map (·.size)=some zeroM.size:=by kernel_rfl
   have hst:Stands w3 (w.heap.size+1) zeroM 30:=QM.out.1
   refine wp_region_lit ?_
   refine wpList_buildS rfl 30 #[] rfl zeroM (by simpa using hbu) ?_
   go_step
   go_step
   go_step
   refine wpList_store_row rfl 30 (.tmp 6) (.tmp 20) rfl (w.heap.size+1) zeroM rfl rfl 30 zeroM hst ib rfl (by decide+kernel) ?_
   rw[setRow_self _ _ _ _ _ hst]
   clear hbu ib
   go_wp2_with fail
   refine bodyPost_ret (res_row3 rfl _ _ (w.heap.size+1) 30 _ (0,0) _ rfl hst Tryz.underlying30 rfl (show _=some 10 by kernel_rfl)) rfl ?_
   rw[HPQ.out]
   exact Or.inr ⟨c,rfl,QM.out.2⟩
 exact key _ s0 s1 BW.out rfl
set_option maxHeartbeats 8000000 in
theorem w_runN (m:Mc) (v:Mv) (o:ByteArray) (xt fuel:Int) (w:World) (h:RdM w v m o) (g:gM m) (hno:(frmM m&&(decide (0≤xt)&&decide (xt < (m.words.length:Int))))=false∨fuel < 0∨100000 < fuel):
  Calls Tryz.prog 11 #[.agg (v.cs m o), .int .i64 xt, .int .i64 fuel] w fun e w'=>e= .returned (.tuple #[.agg zeroM, .int .i64 0, .int .i64 1])∧Below w.heap.size w w':=by
 have cc:=fun W (b:Below w.heap.size w W)=>w_ranN m v o xt fuel W (h.below b) g hno
 clear hno g
 obtain ⟨vs,vm,vw,vc,vt,vi⟩:=v
 obtain ⟨hs,hm,hw,hc,ht,hi,ho⟩:=h
 simp only at hs hm hw hc ht hi
 obtain ⟨sa,sq,rfl⟩:=rd_slice hs
 obtain ⟨ma,mq,rfl⟩:=rd_slice hm
 obtain ⟨wa,wq,rfl⟩:=slr_slice hw
 obtain ⟨ca,cq,rfl⟩:=rd_slice hc
 obtain ⟨ta,tq,rfl⟩:=slr_slice ht
 obtain ⟨ia,iq,rfl⟩:=slr_slice hi
 simp only[Mv.cs] at cc ⊢
 have s0:=(stands_new w #[.slice sa m.stack.length sq, .slice ma m.mem.length mq, .slice wa m.words.length wq, .slice ca m.codes.length cq, .int .u32 m.base, .slice ta m.tree.length tq, .int .i64 m.node, .slice ia m.insts.length iq, .int .i64 m.self, .string o] 30).below (box_below (w.alloc (.cells #[.slice sa m.stack.length sq, .slice ma m.mem.length mq, .slice wa m.words.length wq, .slice ca m.codes.length cq, .int .u32 m.base, .slice ta m.tree.length tq, .int .i64 m.node, .slice ia m.insts.length iq, .int .i64 m.self, .string o] 30)) (.cells #[.slice none 0 0, .slice none 0 0, .slice none 0 0, .slice none 0 0, .int .u32 0, .slice none 0 0, .int .i64 0, .slice none 0 0, .int .i64 0, .string ⟨#[]⟩] 30))
 have s1:=stands_new (w.alloc (.cells #[.slice sa m.stack.length sq, .slice ma m.mem.length mq, .slice wa m.words.length wq, .slice ca m.codes.length cq, .int .u32 m.base, .slice ta m.tree.length tq, .int .i64 m.node, .slice ia m.insts.length iq, .int .i64 m.self, .string o] 30)) #[.slice none 0 0, .slice none 0 0, .slice none 0 0, .slice none 0 0, .int .u32 0, .slice none 0 0, .int .i64 0, .slice none 0 0, .int .i64 0, .string ⟨#[]⟩] 30
 have bw:=below_trans (box_below w (.cells #[.slice sa m.stack.length sq, .slice ma m.mem.length mq, .slice wa m.words.length wq, .slice ca m.codes.length cq, .int .u32 m.base, .slice ta m.tree.length tq, .int .i64 m.node, .slice ia m.insts.length iq, .int .i64 m.self, .string o] 30)) (box_below (w.alloc (.cells #[.slice sa m.stack.length sq, .slice ma m.mem.length mq, .slice wa m.words.length wq, .slice ca m.codes.length cq, .int .u32 m.base, .slice ta m.tree.length tq, .int .i64 m.node, .slice ia m.insts.length iq, .int .i64 m.self, .string o] 30)) (.cells #[.slice none 0 0, .slice none 0 0, .slice none 0 0, .slice none 0 0, .int .u32 0, .slice none 0 0, .int .i64 0, .slice none 0 0, .int .i64 0, .string ⟨#[]⟩] 30))
 rw[size_al] at s1
 have CC:=hid cc
 have BW:=hid bw
 clear hs hm hw hc ht hi ho cc bw
 have key:∀(W0:World),Stands W0 w.heap.size #[.slice sa m.stack.length sq, .slice ma m.mem.length mq, .slice wa m.words.length wq, .slice ca m.codes.length cq, .int .u32 m.base, .slice ta m.tree.length tq, .int .i64 m.node, .slice ia m.insts.length iq, .int .i64 m.self, .string o] 30→Stands W0 (w.heap.size+1) #[.slice none 0 0, .slice none 0 0, .slice none 0 0, .slice none 0 0, .int .u32 0, .slice none 0 0, .int .i64 0, .slice none 0 0, .int .i64 0, .string ⟨#[]⟩] 30→Below w.heap.size w W0→((w.alloc (.cells #[.slice sa m.stack.length sq, .slice ma m.mem.length mq, .slice wa m.words.length wq, .slice ca m.codes.length cq, .int .u32 m.base, .slice ta m.tree.length tq, .int .i64 m.node, .slice ia m.insts.length iq, .int .i64 m.self, .string o] 30)).alloc (.cells #[.slice none 0 0, .slice none 0 0, .slice none 0 0, .slice none 0 0, .int .u32 0, .slice none 0 0, .int .i64 0, .slice none 0 0, .int .i64 0, .string ⟨#[]⟩] 30))=W0→Calls Tryz.prog 11 #[.agg #[.slice sa m.stack.length sq, .slice ma m.mem.length mq, .slice wa m.words.length wq, .slice ca m.codes.length cq, .int .u32 m.base, .slice ta m.tree.length tq, .int .i64 m.node, .slice ia m.insts.length iq, .int .i64 m.self, .string o], .int .i64 xt, .int .i64 fuel] w fun e w'=>e= .returned (.tuple #[.agg zeroM, .int .i64 0, .int .i64 1])∧Below w.heap.size w w':=by
  intro W0 s0 s1 bw eW
  go_enter Tryz.func11,Tryz.ntmps11
  have EW:=hid eW
  clear eW
  go_upto_region 1 with fail
  rw[EW.out]
  have S0:=hid s0
  have S1:=hid s1
  have BB:=hid bw
  clear s1 bw s0 EW
  refine wp_region_lit ?_
  refine wpList_load_row rfl 30 (.tmp 3) rfl w.heap.size rfl 30 _ (0,0) _ S0.out Tryz.underlying30 rfl (show _=some 10 by kernel_rfl) ?_
  iterate 6 go_step
  go_step
  go_step
  refine (CC.out _ BB.out).mono ?_
  rintro e w2 ⟨rfl,b2⟩
  have H5:=hid b2
  clear b2
  obtain ⟨R5,hR5⟩:∃R,zeroR=R:=⟨_,rfl⟩
  simp only[hR5]
  have HR5:=hid hR5
  clear hR5
  go_step
  iterate 12 go_step
  have ib:(Tryz.prog.info? 67).map (·.size)=some R5.size:=by rw[←HR5.out];kernel_rfl
  refine wpList_store_row rfl 67 (.tmp 9) (.tmp 16) rfl w2.heap.size R5 rfl rfl 67 _ (stands_new w2 _ _) ib (by rw[←HR5.out];rfl) (by rw[←HR5.out];decide+kernel) ?_
  have b3:Below w2.heap.size w2 _:=below_setRow (box_below w2 (.cells #[.slice none 0 0, .slice none 0 0, .slice none 0 0, .slice none 0 0, .int .u32 0, .slice none 0 0, .int .i64 0, .slice none 0 0, .int .i64 0, .string ⟨#[]⟩, .slice none 0 0, .slice none 0 0, .slice none 0 0, .slice none 0 0, .slice none 0 0, .int .u32 0, .slice none 0 0, .int .i64 0, .slice none 0 0, .int .i64 0, .string ⟨#[]⟩, .slice none 0 0, .slice none 0 0, .int .i64 0, .int .i64 0, .int .i64 0, .int .u32 0] 67)) (Nat.le_refl _) R5
  generalize (w2.alloc (.cells #[.slice none 0 0, .slice none 0 0, .slice none 0 0, .slice none 0 0, .int .u32 0, .slice none 0 0, .int .i64 0, .slice none 0 0, .int .i64 0, .string ⟨#[]⟩, .slice none 0 0, .slice none 0 0, .slice none 0 0, .slice none 0 0, .slice none 0 0, .int .u32 0, .slice none 0 0, .int .i64 0, .slice none 0 0, .int .i64 0, .string ⟨#[]⟩, .slice none 0 0, .slice none 0 0, .int .i64 0, .int .i64 0, .int .i64 0, .int .u32 0] 67)).setRow w2.heap.size R5=w3 at b3 ⊢
  have t3:=(S1.out.below H5.out).below b3
  have bl3:=below_trans (below_trans BB.out H5.out) b3
  have QM:=hid (And.intro t3 bl3)
  clear t3 bl3 ib b3
  go_upto_region 3 with fail
  have hbu:(Tryz.prog.built 30 [])=some zeroM:=by kernel_rfl
  have ib:(Tryz.prog.info? 30).map (·.size)=some zeroM.size:=by kernel_rfl
  have hst:Stands w3 (w.heap.size+1) zeroM 30:=QM.out.1
  refine wp_region_lit ?_
  refine wpList_buildS rfl 30 #[] rfl zeroM (by simpa using hbu) ?_
  go_step
  go_step
  go_step
  refine wpList_store_row rfl 30 (.tmp 6) (.tmp 20) rfl (w.heap.size+1) zeroM rfl rfl 30 zeroM hst ib rfl (by decide+kernel) ?_
  rw[setRow_self _ _ _ _ _ hst]
  clear hbu ib
  go_wp2_with fail
  refine bodyPost_ret (res_row3 rfl _ _ (w.heap.size+1) 30 _ (0,0) _ rfl hst Tryz.underlying30 rfl (show _=some 10 by kernel_rfl)) rfl ?_
  exact ⟨rfl,QM.out.2⟩
 exact key _ s0 s1 BW.out rfl
def resX (m:Mc) (xt fuel:Int):Mc×Int×Int:=
 if frmM m=true∧(0≤xt∧xt < m.words.length)∧0≤fuel∧fuel≤100000 then
  if (whoF iP m xt fuel.toNat).2.2=0 then ((whoF iP m xt fuel.toNat).1.m,((whoF iP m xt fuel.toNat).2.1:Int),0) else (nilM,0,(whoF iP m xt fuel.toNat).2.2)
 else (nilM,0,1)
theorem rdM_nilX (w:World):RdM w nilX nilM ⟨#[]⟩:=
 ⟨(Rd_own (World.ownsRow_nil _ 0 0 _)).1,(Rd_own (World.ownsRow_nil _ 0 0 _)).1,OwnR.read (by decide) (OwnR.nil 59 5 (wrdO 0) 0 w) wrdO_R,(Rd_own (World.ownsRow_nil _ 0 0 _)).1,ownT8_read (OwnR.nil _ _ _ 0 _),OwnR.read (by decide) (OwnR.nil 62 4 (insO 0) 0 w) insO_R,by decide+kernel⟩
theorem w_run11 (m:Mc) (v:Mv) (o:ByteArray) (xt fuel:Int) (w:World) (hT:Stk.Tab w) (h:RdM w v m o) (g:gM m) (ac:Acc m.words []) (xa:aX xt):
  Calls Tryz.prog 11 #[.agg (v.cs m o), .int .i64 xt, .int .i64 fuel] w fun e w'=>∃v1 o1,e= .returned (.tuple #[.agg (Mv.cs v1 (resX m xt fuel).1 o1), .int .i64 (resX m xt fuel).2.1, .int .i64 (resX m xt fuel).2.2])∧RdM w' v1 (resX m xt fuel).1 o1∧Below w.heap.size w w':=by
 unfold resX
 by_cases c:frmM m=true∧(0≤xt∧xt < m.words.length)∧0≤fuel∧fuel≤100000
 ·rw[if_pos c]
  obtain ⟨c1,⟨c2,c3⟩,c4,c5⟩:=c
  obtain ⟨k,hk⟩:=Int.eq_ofNat_of_zero_le c4
  have ek:fuel.toNat=k:=by omega
  rw[ek]
  have cc:=w_runY m v o xt k w hT h g c1 c2 c3 (by omega) ac xa
  rw[←hk] at cc
  refine cc.mono ?_
  rintro e w' (⟨z,v1,o1,rfl,r,b⟩|⟨z,rfl,b⟩)
  ·rw[if_pos z]
   exact ⟨v1,o1,rfl,r,b⟩
  ·rw[if_neg z]
   exact ⟨nilX,⟨#[]⟩,rfl,rdM_nilX w',b⟩
 ·rw[if_neg c]
  refine (w_runN m v o xt fuel w h g ?_).mono ?_
  ·by_cases f0:fuel < 0
   ·exact Or.inr (Or.inl f0)
   ·by_cases f1:100000 < fuel
    ·exact Or.inr (Or.inr f1)
    ·refine Or.inl ?_
     rw[Bool.and_eq_false_iff,Bool.and_eq_false_iff]
     by_cases a:frmM m=true
     ·refine Or.inr ?_
      by_cases b:0≤xt
      ·exact Or.inr (decide_eq_false (fun z=>c ⟨a,⟨b,z⟩,by omega,by omega⟩))
      ·exact Or.inl (decide_eq_false b)
     ·exact Or.inl (by simpa using a)
  ·rintro e w' ⟨rfl,b⟩
   exact ⟨nilX,⟨#[]⟩,rfl,rdM_nilX w',b⟩
theorem resX_ok {m:Mc} {xt f:Int} (h1:frmM m=true) (h2:0≤xt∧xt < m.words.length) (h3:0≤f) (h4:f≤100000) (k:Nat) (hk:f.toNat=k):
  resX m xt f=if (whoF iP m xt k).2.2=0 then ((whoF iP m xt k).1.m,((whoF iP m xt k).2.1:Int),0) else (nilM,0,(whoF iP m xt k).2.2):=by
 unfold resX
 rw[if_pos ⟨h1,h2,h3,h4⟩,hk]
def alM:Mc:=(dfnF newM ([], -1,2,0,[(1,2),(1,3),(2,5)])).1
theorem alive_def:dfnF newM ([], -1,2,0,[(1,2),(1,3),(2,5)])=(alM,111,0):=by
 have e:(dfnF newM ([], -1,2,0,[(1,2),(1,3),(2,5)])).2=(111,0):=by decide+kernel
 rw[←e]
 rfl
theorem alive_code:codF [] 32=some 5:=by decide+kernel
theorem alive_run:(resX alM 111 10).2=(5,0)∧(resX alM 111 10).1.stack=[6]:=by decide+kernel
theorem nil_gM:gM nilM:=by
 constructor <;> first|(intro x hx;simp[nilM] at hx)|(simp[nilM];done)|(simp only[nilM];decide)
theorem root_goodN:goodN ([],[], -1,[],[]):=by
 refine ⟨⟨fun c hc=>by simp at hc,fun p hp=>by simp at hp⟩,⟨by simp,fun p hp=>by simp at hp⟩,⟨by simp,by simp,by simp,fun p hp=>by simp at hp⟩,fun c hc=>by simp at hc,fun c hc=>by simp at hc,by decide⟩
theorem prm_good:prmL.all (fun p=>decide (0≤p.2∧p.2 < 4294967296)&&(decide (p.1.length≤31)&&p.1.all (fun c=>decide (0≤c∧c < 256))))=true:=by decide+kernel
theorem new_gM:gM newM:=by
 have hw:∀x∈newM.words,gW x:=by
  intro x hx
  obtain ⟨p,hp,rfl⟩:=List.mem_map.1 (show x∈prmL.map prmW from hx)
  have h:=List.all_eq_true.1 prm_good p hp
  simp only[Bool.and_eq_true,decide_eq_true_eq,List.all_eq_true] at h
  exact ⟨fun c hc=>h.2.2 c hc,by unfold maxLen;have:=h.2.1;show p.1.length≤_;omega,by show (Lit.int .i64 (-1)).wf=true;decide,by show (Lit.int .i64 1).wf=true;decide,h.1,fun y hy=>by simp[prmW] at hy,by simp[prmW]⟩
 refine ⟨fun c hc=>by simp[newM] at hc,by simp[newM],fun c hc=>by simp[newM] at hc,by simp[newM],hw, ?_,fun c hc=>by simp[newM] at hc,by simp[newM],by simp[newM],fun x hx=> ?_,by simp[newM],by show (Lit.int .i64 (-1)).wf=true;decide,fun x hx=>by simp[newM] at hx,by simp[newM],by show (Lit.int .i64 (-1)).wf=true;decide,fun c hc=>by simp[newM] at hc,by simp[newM]⟩
 ·show (prmL.map prmW).length*64≤_
  rw[List.length_map,prm_len]
  omega
 ·have:x=([],[], -1,[],[]):=by simpa [newM] using hx
  subst this
  exact root_goodN
theorem dfn_gM {m:Mc} {x:Wd} (h:gM m) (hx:gW x):gM (dfnF m x).1:=by
 unfold dfnF
 split
 ·exact nil_gM
 ·split
  ·exact nil_gM
  ·rename_i c1 c2
   refine ⟨h.stack,h.stackZ,h.mem,h.memZ,fun y hy=> ?_, ?_,h.codes,h.codesZ,h.base,h.tree,h.treeZ,h.node,h.insts,h.instsZ,h.self,h.out,h.outZ⟩
   ·rcases List.mem_append.1 hy with hy|hy
    ·exact h.words y hy
    ·rw[List.mem_singleton] at hy
     subst hy
     exact hx
   ·show (m.words++[x]).length*64≤_
    rw[List.length_append,List.length_singleton]
    omega
theorem gM.by' {m:Mc} (h:gM m):byM m:=⟨h.mem,fun x hx=>(h.tree x hx).1,fun x hx=>(h.words x hx).byt,fun x hx=>(h.insts x hx).byt,h.out⟩
theorem gM.gd {m:Mc} (h:gM m):gdM m:=⟨h.by',fun x hx=>(h.tree x hx).2.1,fun x hx=>(h.words x hx).len,fun x hx y hy=>((h.words x hx).ops y hy).2,fun x hx=>(h.words x hx).num,fun x hx=>(h.insts x hx).len⟩
theorem gM.sz {m:Mc} (h:gM m):szM m where
 stack:=by have:=h.stackZ;omega
 mem:=by have:=h.memZ;omega
 words:=by have:=h.wordsZ;omega
 ops:=fun x hx=>by have:=(h.words x hx).siz;omega
 codes:=by have:=h.codesZ;omega
 tree:=by have:=h.treeZ;omega
 nods:=fun x hx=>(h.tree x hx).2.2.1
 insts:=by have:=h.instsZ;omega
 cels:=fun x hx=>by have:=(h.insts x hx).siz;omega
theorem aX_big (x:Int) (h:111≤x):aX x:=Or.inr (Or.inr h)
def opA (l:List Opd):Prop:=∀o∈l,¬o.1=13∧(o.1=2→aX o.2)
theorem opA_of {l:List Opd} (h:l.all (fun o=>decide (¬o.1=13∧(o.1=2→(o.2=0∨o.2=5))))=true):opA l:=by
 intro o ho
 have:=List.all_eq_true.1 h o ho
 simp only[decide_eq_true_eq] at this
 refine ⟨this.1,fun h2=> ?_⟩
 rcases this.2 h2 with e|e
 ·exact Or.inl e
 ·exact Or.inr (Or.inl e)
theorem acc_new (ws:List (List Opd)) (h:∀l∈ws,opA l):Acc (newM.words++ws.map (fun l=>([], -1,2,0,l))) []:=by
 have hl:newM.words.length=111:=by decide+kernel
 have e0:(newM.words.getD 0 ([],0,0,0,[])).2.2.1=1∧(newM.words.getD 0 ([],0,0,0,[])).2.2.2.1=25:=by decide+kernel
 have e5:(newM.words.getD 5 ([],0,0,0,[])).2.2.1=1∧(newM.words.getD 5 ([],0,0,0,[])).2.2.2.1=32:=by decide+kernel
 have hg:∀k,k < 111→(newM.words++ws.map (fun l=>(([], -1,2,0,l):Wd))).getD k ([],0,0,0,[])=newM.words.getD k ([],0,0,0,[]):=fun k hk=>by
  rw[List.getD_eq_getElem?_getD,List.getD_eq_getElem?_getD,List.getElem?_append_left (by omega)]
 refine ⟨⟨by rw[hg 0 (by omega)];exact e0,by rw[hg 5 (by omega)];exact e5,fun k hk hk2=> ?_⟩,fun f hf=>by simp at hf⟩
 rw[List.length_append,List.length_map,hl] at hk2
 have e:(newM.words++ws.map (fun l=>(([], -1,2,0,l):Wd))).getD k ([],0,0,0,[])=([], -1,2,0,ws[k - 111]'(by omega)):=by
  rw[List.getD_eq_getElem?_getD,List.getElem?_append_right (by omega),hl]
  simp[show k - 111 < ws.length by omega]
 rw[e]
 exact ⟨rfl,h _ (List.getElem_mem _)⟩
def opC (x:Opd):List Value:=[.int .i64 x.1, .int .u32 x.2]
theorem opf_at:∀(l:List Opd) (i j:Nat) (hi:i < l.length),j < 2→(l.flatMap opC)[i*2+j]? =(opC l[i])[j]?
 |x::l,0,j,_,hj=>by
  rw[List.flatMap_cons,List.getElem?_append_left (by simp[opC];omega)]
  simp
 |x::l,i+1,j,hi,hj=>by
  rw[List.flatMap_cons,List.getElem?_append_right (by simp[opC];omega),show (i+1)*2+j - (opC x).length=i*2+j by simp[opC];omega,opf_at l i j (by simpa using hi) hj]
  simp
theorem op_lit (w:World) (l:List Opd) (T:TypeId) (h0:0 < l.length) (h1:l.length≤maxLen):RdO (w.alloc (.cells (l.flatMap opC).toArray T)) (.slice (some ⟨w.heap.size,0,none⟩) l.length l.length) l:=by
 refine ⟨l.map opC,Or.inr ⟨w.heap.size,0,l.length,by simp,by simpa using h0,by simp,h1,fun i hi=> ?_⟩,by simp,fun i hi=> ?_⟩
 ·have hi':i < l.length:=by simpa using hi
  have e:(l.map opC).getD i []=opC l[i]:=by simp[List.getD_eq_getElem?_getD,hi']
  rw[e]
  refine ⟨rfl,fun j hj=> ?_⟩
  rw[World.cell?_alloc_new]
  have:=opf_at l i j hi' (by simpa [opC] using hj)
  simp only[Nat.zero_add]
  simp[this]
 ·simp[List.getD_eq_getElem?_getD,hi,opR,opC]
theorem col_gW (l:List Opd) (h:∀y∈l,gO y) (hz:l.length≤100000):gW ([], -1,2,0,l):=
 ⟨fun x hx=>by simp at hx,by simp[maxLen],(by decide:(Lit.int .i64 (-1)).wf=true),(by decide:(Lit.int .i64 2).wf=true),(by simp),h,by simp only;omega⟩
theorem alM_gM:gM alM:=dfn_gM (m:=newM) new_gM (col_gW _ (by intro y hy;simp at hy;rcases hy with rfl|rfl|rfl <;> exact ⟨by decide,by decide,by decide⟩) (by simp))
theorem alM_ac:Acc alM.words []:=by
 have e:alM.words=newM.words++([[(1,2),(1,3),(2,5)]]:List (List Opd)).map (fun l=>([], -1,2,0,l)):=by decide+kernel
 rw[e]
 exact acc_new _ (fun l hl=>by rw[List.mem_singleton] at hl;subst hl;exact opA_of (by decide))
set_option maxHeartbeats 4000000 in
theorem w_alive11 (w:World) (hT:Stk.Tab w):Calls Tryz.prog 9 #[] w fun e w'=>e= .returned (.bool true)∧Below w.heap.size w w':=by
 have cN:=w_r9new w
 have cL:=fun n w=>w_lit11 n w
 have cC:=fun w=>w_call11 32 w 5 (by decide) alive_code (by decide)
 have cK:=fun v o W (h:RdM W v newM o) vc (hc:RdO W vc [(1,2),(1,3),(2,5)])=>w_colon11 newM v o [(1,2),(1,3),(2,5)] vc W h new_gM.gd new_gM.sz hc (by decide) (by decide) alM 111 alive_def
 have cR:=fun v o W (t:Stk.Tab W) (h:RdM W v alM o)=>w_run11 alM v o 111 10 W t h alM_gM alM_ac (aX_big 111 (by omega))
 obtain ⟨ar1,ar2⟩:=alive_run
 obtain ⟨X,hX⟩:∃X,resX alM 111 10=X:=⟨_,rfl⟩
 rw[hX] at ar1 ar2
 simp only[hX] at cR
 obtain ⟨X1,X2⟩:=X
 simp only at ar1 ar2
 subst ar1
 simp only at cR
 have HX:=hid ar2
 have HT:=hid hT
 have CK:=hid cK
 have CR:=hid cR
 clear ar2 hT hX cK cR
 go_enter Tryz.func9,Tryz.ntmps9
 go_upto_region 1 with fail
 refine wp_region_lit ?_
 go_step
 go_step
 refine cN.mono ?_
 rintro e w1 ⟨v1,rfl,ow1,b1⟩
 obtain ⟨U,hU⟩:∃U,Mv.cs v1 newM ⟨#[]⟩=U:=⟨_,rfl⟩
 simp only[hU]
 have H1:=hid (And.intro hU (And.intro ow1 b1))
 clear hU ow1 b1
 go_step
 go_step
 go_step
 refine (cL 2 _).mono ?_
 rintro e w2 ⟨rfl,b2⟩
 dsimp only
 go_step
 go_step
 go_step
 refine (cL 3 _).mono ?_
 rintro e w3 ⟨rfl,b3⟩
 dsimp only
 go_step
 go_step
 go_step
 refine (cC _).mono ?_
 rintro e w4 ⟨rfl,b4⟩
 dsimp only
 go_step
 iterate 3 go_step
 have rl:RdO (w4.alloc (.cells #[.int .i64 1, .int .u32 2, .int .i64 1, .int .u32 3, .int .i64 2, .int .u32 5] 47)) (.slice (some ⟨w4.heap.size,0,none⟩) 3 3) [(1,2),(1,3),(2,5)]:=op_lit w4 [(1,2),(1,3),(2,5)] 47 (by decide) (by decide)
 have bl:Below w4.heap.size w4 (w4.alloc (.cells #[.int .i64 1, .int .u32 2, .int .i64 1, .int .u32 3, .int .i64 2, .int .u32 5] 47)):=box_below w4 _
 generalize w4.alloc (.cells #[.int .i64 1, .int .u32 2, .int .i64 1, .int .u32 3, .int .i64 2, .int .u32 5] 47)=w5 at rl bl ⊢
 have b15:=below_trans b2 (below_trans b3 (below_trans b4 bl))
 have c5:=CK.out v1 ⟨#[]⟩ w5 (H1.out.2.1.read.below b15) _ rl
 rw[H1.out.1] at c5
 have B5:=hid (below_trans H1.out.2.2 b15)
 clear rl bl b15 b2 b3 b4
 go_step
 go_step
 refine c5.mono ?_
 clear c5
 rintro e w6 ⟨v6,o6,rfl,ow6,b6⟩
 have one:=rdm_one ow6.read
 obtain ⟨R,hR⟩:∃R,Mv.cs v6 alM o6=R:=⟨_,rfl⟩
 have hRs:R.size=10:=by rw[←hR];rfl
 rw[hR] at one
 simp only[hR]
 have HR:=hid (And.intro hR (And.intro ow6.read (And.intro b6 (And.intro hRs one))))
 clear hR ow6 b6 hRs one
 go_step
 iterate 12 go_step
 refine wpList_store_row rfl 30 (.tmp 1) (.tmp 13) rfl w6.heap.size R rfl rfl 30 _ (stands_new w6 _ _) (by rw[HR.out.2.2.2.1];exact infoMz) (by rw[HR.out.2.2.2.1];rfl) HR.out.2.2.2.2 ?_
 have s7:Stands _ w6.heap.size R 30:=setRow_heap _ w6.heap.size _ R 30 (0,0) (stands_new w6 #[.slice none 0 0, .slice none 0 0, .slice none 0 0, .slice none 0 0, .int .u32 0, .slice none 0 0, .int .i64 0, .slice none 0 0, .int .i64 0, .string ⟨#[]⟩] 30)
 have b7:Below w6.heap.size w6 _:=below_setRow (box_below w6 (.cells #[.slice none 0 0, .slice none 0 0, .slice none 0 0, .slice none 0 0, .int .u32 0, .slice none 0 0, .int .i64 0, .slice none 0 0, .int .i64 0, .string ⟨#[]⟩] 30)) (Nat.le_refl _) R
 generalize (w6.alloc (.cells #[.slice none 0 0, .slice none 0 0, .slice none 0 0, .slice none 0 0, .int .u32 0, .slice none 0 0, .int .i64 0, .slice none 0 0, .int .i64 0, .string ⟨#[]⟩] 30)).setRow w6.heap.size R=w7 at s7 b7 ⊢
 have B7:=below_trans (below_trans B5.out HR.out.2.2.1) b7
 have c7:=CR.out v6 o6 w7 (HT.out.below B7) (HR.out.2.1.below b7)
 rw[HR.out.1] at c7
 have C7:=hid c7
 have S7:=hid s7
 have BB7:=hid B7
 clear s7 b7 c7 B7
 go_upto_region 2 with fail
 refine wp_region_lit ?_
 refine wpList_load_row rfl 30 (.tmp 1) rfl w6.heap.size rfl 30 _ (0,0) _ S7.out Tryz.underlying30 rfl (by rw[HR.out.2.2.2.1];exact infoMz) ?_
 iterate 3 go_step
 go_step
 go_step
 refine C7.out.mono ?_
 rintro e w8 ⟨v8,o8,rfl,r8,b8⟩
 have one8:=rdm_one r8
 have l8:=rd_len r8.stack uU (P:=Tryz.prog)
 obtain ⟨ad,i8,j8⟩:=rd_idx r8.stack uU zU 0 (by omega) (by rw[HX.out];simp)
 rw[HX.out] at l8 j8
 obtain ⟨Q,hQ⟩:∃Q,Mv.cs v8 X1 o8=Q:=⟨_,rfl⟩
 have hQs:Q.size=10:=by rw[←hQ];rfl
 have hQ0:Q[0]? =some v8.vs:=by rw[←hQ];rfl
 rw[hQ] at one8
 simp only[hQ]
 obtain ⟨sa,sq,esv⟩:=rd_slice r8.stack
 have HQ:=hid (And.intro hQs (And.intro one8 (And.intro b8 (And.intro hQ0 (And.intro l8 (And.intro i8 (And.intro j8 esv)))))))
 clear hQ r8 b8 hQs one8 hQ0 l8 i8 j8 esv
 go_step
 iterate 15 go_step
 refine wpList_store_row rfl 30 (.tmp 3) (.tmp 19) rfl w8.heap.size Q rfl rfl 30 _ (stands_new w8 _ _) (by rw[HQ.out.1];exact infoMz) (by rw[HQ.out.1];rfl) HQ.out.2.1 ?_
 have s9:Stands _ w8.heap.size Q 30:=setRow_heap _ w8.heap.size _ Q 30 (0,0) (stands_new w8 #[.slice none 0 0, .slice none 0 0, .slice none 0 0, .slice none 0 0, .int .u32 0, .slice none 0 0, .int .i64 0, .slice none 0 0, .int .i64 0, .string ⟨#[]⟩] 30)
 have b9:Below w8.heap.size w8 _:=below_setRow (box_below w8 (.cells #[.slice none 0 0, .slice none 0 0, .slice none 0 0, .slice none 0 0, .int .u32 0, .slice none 0 0, .int .i64 0, .slice none 0 0, .int .i64 0, .string ⟨#[]⟩] 30)) (Nat.le_refl _) Q
 generalize (w8.alloc (.cells #[.slice none 0 0, .slice none 0 0, .slice none 0 0, .slice none 0 0, .int .u32 0, .slice none 0 0, .int .i64 0, .slice none 0 0, .int .i64 0, .string ⟨#[]⟩] 30)).setRow w8.heap.size Q=w9 at s9 b9 ⊢
 obtain ⟨q1,q2,q3,q4,q5,q6,q7,q8⟩:=HQ.out
 have f0:=s9.cell 0 _ q4
 rw[q8] at q5 q6 f0
 have j9:=below_cell b9 q7
 simp only[List.length_singleton,Int.toNat_zero,List.getD_cons_zero] at q5 j9
 have BB9:=hid (below_trans (below_trans BB7.out q3) b9)
 clear s9 b9 q1 q2 q3 q4 q7 q8
 go_wp2_with fail
 go_ret
 exact ⟨rfl,BB9.out⟩
theorem new_wds:newM.words.length=111:=by decide+kernel
theorem new_frm:frmM newM=true:=by decide+kernel
theorem colon_any {m:Mc} (hf:frmM m=true) {n:Nat} (hn:m.words.length=n) (h6:n < 640) (l:List Opd) (h:sndF l (n+1)=true):
  dfnF m ([], -1,2,0,l)=({m with words:=m.words++[([], -1,2,0,l)]},(n:Int),0)∧frmM {m with words:=m.words++[([], -1,2,0,l)]}=true:=by
 have hw:wofF ([], -1,2,0,l) (m.words.length+1) m.tree=true:=by
  rw[hn]
  unfold wofF
  simp[h]
  omega
 have e:dfnF m ([], -1,2,0,l)=({m with words:=m.words++[([], -1,2,0,l)]},(n:Int),0):=by
  unfold dfnF
  rw[if_neg (by rw[hf,hw];simp),if_neg (by omega),hn]
 refine ⟨e, ?_⟩
 have f:=dfn_formed (m:=m) (w:=([], -1,2,0,l)) (by rw[e])
 rw[e] at f
 exact f
theorem choose_law (x0 x1 y t:Int) (q:List Int) (hq:q.length < 64):∃m1 m2,dfnF newM ([], -1,2,0,chA x0 x1)=(m1,111,0)∧dfnF m1 ([], -1,2,0,chB x0 y)=(m2,112,0)∧
  ((resX {m2 with stack:=q++[t]} 111 100).2.2=0∧(resX {m2 with stack:=q++[t]} 111 100).1.stack=q++[if t=0 then x1 else x0])∧
  (q.length=63→(resX {m2 with stack:=q++[t]} 112 100).2.2=6)∧
  (q.length < 63→(resX {m2 with stack:=q++[t]} 112 100).2.2=0∧(resX {m2 with stack:=q++[t]} 112 100).1.stack=if t=y then q++[x0] else q):=by
 obtain ⟨e1,f1⟩:=colon_any new_frm new_wds (by omega) (chA x0 x1) (by simp[sndF,okO,chA])
 obtain ⟨e2,f2⟩:=colon_any (m:={newM with words:=newM.words++[([], -1,2,0,chA x0 x1)]}) (n:=112) f1 (by simp[new_wds]) (by omega) (chB x0 y) (by simp[sndF,okO,chB])
 refine ⟨_,_,e1,e2, ?_⟩
 dsimp only at f2
 have f3:=frm_stack f2 (q++[t]) (by simp;omega)
 dsimp only at f3 ⊢
 generalize hM:({newM with words:=newM.words++[([], -1,2,0,chA x0 x1)]++[([], -1,2,0,chB x0 y)],stack:=q++[t]}:Mc)=M at*
 have hw:M.words=newM.words++[([], -1,2,0,chA x0 x1)]++[([], -1,2,0,chB x0 y)]:=by rw[←hM]
 have hs:M.stack=q++[t]:=by rw[←hM]
 have hl:M.words.length=113:=by rw[hw];simp[new_wds]
 have w1:M.words.getD 111 ([],0,0,0,[])=([], -1,2,0,chA x0 x1):=by
  rw[hw,List.append_assoc,List.getD_eq_getElem?_getD,List.getElem?_append_right (by rw[new_wds];omega),new_wds]
  rfl
 have w2:M.words.getD 112 ([],0,0,0,[])=([], -1,2,0,chB x0 y):=by
  rw[hw,List.append_assoc,List.getD_eq_getElem?_getD,List.getElem?_append_right (by rw[new_wds];omega),new_wds]
  rfl
 have c1:=chA_who iP M x0 x1 111 t q hs hq (by show (M.words.getD 111 ([],0,0,0,[])).2.2.1=2;rw[w1]) (by show (M.words.getD 111 ([],0,0,0,[])).2.2.2.2=_;rw[w1])
 have c2:=chB_who iP M x0 y 112 t q hs hq (by show (M.words.getD 112 ([],0,0,0,[])).2.2.1=2;rw[w2]) (by show (M.words.getD 112 ([],0,0,0,[])).2.2.2.2=_;rw[w2])
 rw[resX_ok f3 (by omega) (by omega) (by omega) 100 rfl,resX_ok f3 (by omega) (by omega) (by omega) 100 rfl,if_pos c1.1]
 refine ⟨⟨rfl,c1.2⟩,fun h=> ?_,fun h=> ?_⟩
 ·have z:=c2.1 h
  rw[if_neg (by omega)]
  exact z
 ·rw[if_pos (c2.2 h).1]
  exact ⟨rfl,(c2.2 h).2⟩
end Go.Proofs.YtbamcchghecpeaaGreatDoor
