import Derived.Laws.Rows
import Derived.Laws.Tables
import Derived.Laws.CopyOwn
import Derived.Lib.BufferWrite
import Derived.Deep.OwnRows
import Derived.Lib.Bytealg
import Derived.Test.YtbamcchghecpeaaGreatDoorRows
import Derived.SizedLaws
import Derived.ChangeSame
import Derived.Test.YtbamcchghecpeaaGreatDoorB2
set_option linter.unusedVariables false
set_option linter.unusedSimpArgs false
set_option maxRecDepth 100000
namespace Go.Proofs.YtbamcchghecpeaaGreatDoor
open Go.ChangeShapes Go.WideShapes Go.ChangeAt Go.RowKit
def OwO (base:Nat) (w:World) (v:Value) (l:List Opd):Prop:=OwnR 47 2 opR base w v l
def wrdO (base:Nat) (w:World) (cs:List Value) (x:Wd):Prop:=∃vc,cs=[.string (strOfNums x.1), .int .i64 x.2.1, .int .i64 x.2.2.1, .int .u32 x.2.2.2.1,vc]∧OwO base w vc x.2.2.2.2
def insO (base:Nat) (w:World) (cs:List Value) (x:Iz):Prop:=∃vc,cs=[.int .i64 x.1, .int .i64 x.2.1, .string (strOfNums x.2.2.1),vc]∧w.ownsRow base 26 1 vc x.2.2.2.length (x.2.2.2.map (Value.int .u32))
theorem opR_apt {T:TypeId}:Apt T opR:=fun _ _ _ _ _ h=>h
theorem OwO.read {base:Nat} {w:World} {v:Value} {l:List Opd} (h:OwO base w v l):RdO w v l:=OwnR.read (by decide) h (fun _ _ x=>x)
theorem OwO.kept {base:Nat} {T:TypeId} {w w':World} {v:Value} {l:List Opd} (h:OwO base w v l) (k:Kept T w w') (hne:¬47=T):OwO base w' v l:=OwnR.kept h k hne opR_apt
theorem OwO.below {base:Nat} {w w':World} {v:Value} {l:List Opd} (h:OwO base w v l) (g:Below w.heap.size w w'):OwO base w' v l:=OwnR.below h g (fun _ _ x=>x)
theorem OwO.le {b b':Nat} {w:World} {v:Value} {l:List Opd} (hb:b≤b') (h:OwO b' w v l):OwO b w v l:=OwnR.le hb h (fun _ _ x=>x)
theorem wrdO_R {base:Nat} {w:World} (cs:List Value) (x:Wd) (h:wrdO base w cs x):wrdR w cs x:=by
 obtain ⟨v,h1,h2⟩:=h
 exact ⟨v,h1,h2.read⟩
theorem wrdO_apt {base:Nat} {T:TypeId} (h:¬47=T):Apt T (wrdO base):=by
 rintro w w' cs x k ⟨v,h1,h2⟩
 exact ⟨v,h1,h2.kept k h⟩
theorem wrdO_below {base:Nat} {w w':World} (g:Below w.heap.size w w') (cs:List Value) (x:Wd) (h:wrdO base w cs x):wrdO base w' cs x:=by
 obtain ⟨v,h1,h2⟩:=h
 exact ⟨v,h1,h2.below g⟩
theorem wrdO_le {b b':Nat} {w:World} (hb:b≤b') (cs:List Value) (x:Wd) (h:wrdO b' w cs x):wrdO b w cs x:=by
 obtain ⟨v,h1,h2⟩:=h
 exact ⟨v,h1,h2.le hb⟩
theorem insO_R {base:Nat} {w:World} (cs:List Value) (x:Iz) (h:insO base w cs x):insR w cs x:=by
 obtain ⟨v,h1,h2⟩:=h
 exact ⟨v,h1,(Rd_own h2).1⟩
theorem insO_apt {base:Nat} {T:TypeId} (h:¬26=T):Apt T (insO base):=by
 rintro w w' cs x k ⟨v,h1,h2⟩
 exact ⟨v,h1,own_kept k h h2⟩
theorem insO_below {base:Nat} {w w':World} (g:Below w.heap.size w w') (cs:List Value) (x:Iz) (h:insO base w cs x):insO base w' cs x:=by
 obtain ⟨v,h1,h2⟩:=h
 exact ⟨v,h1,own_below h2 g⟩
theorem insO_le {b b':Nat} {w:World} (hb:b≤b') (cs:List Value) (x:Iz) (h:insO b' w cs x):insO b w cs x:=by
 obtain ⟨v,h1,h2⟩:=h
 exact ⟨v,h1,own_le hb h2⟩
def OwW (base:Nat) (w:World) (v:Value) (l:List Wd):Prop:=OwnR 59 5 (wrdO base) base w v l
def OwI (base:Nat) (w:World) (v:Value) (l:List Iz):Prop:=OwnR 62 4 (insO base) base w v l
structure OwM (base:Nat) (w:World) (v:Mv) (m:Mc) (o:ByteArray):Prop where
 stack:w.ownsRow base 26 1 v.vs m.stack.length (m.stack.map (Value.int .u32))
 mem:w.ownsRow base 5 1 v.vm m.mem.length (m.mem.map (Value.int .u8))
 words:OwW base w v.vw m.words
 codes:w.ownsRow base 3 1 v.vc m.codes.length (m.codes.map (Value.int .i64))
 tree:OwnT8 base w v.vt m.tree
 insts:OwI base w v.vi m.insts
 out:strOfNums m.out=o
theorem OwM.read {base:Nat} {w:World} {v:Mv} {m:Mc} {o:ByteArray} (h:OwM base w v m o):RdM w v m o:=
 ⟨(Rd_own h.stack).1,(Rd_own h.mem).1,OwnR.read (by decide) h.words wrdO_R,(Rd_own h.codes).1,ownT8_read h.tree,OwnR.read (by decide) h.insts insO_R,h.out⟩
theorem OwM.below {base:Nat} {w w':World} {v:Mv} {m:Mc} {o:ByteArray} (h:OwM base w v m o) (g:Below w.heap.size w w'):OwM base w' v m o:=
 ⟨own_below h.stack g,own_below h.mem g,OwnR.below h.words g (wrdO_below g),own_below h.codes g,h.tree.below g,OwnR.below h.insts g (insO_below g),h.out⟩
theorem OwM.le {b b':Nat} {w:World} {v:Mv} {m:Mc} {o:ByteArray} (hb:b≤b') (h:OwM b' w v m o):OwM b w v m o:=
 ⟨own_le hb h.stack,own_le hb h.mem,OwnR.le hb h.words (wrdO_le hb),own_le hb h.codes,OwnT8.le hb h.tree,OwnR.le hb h.insts (insO_le hb),h.out⟩
theorem infoOp:(Tryz.prog.info? 47).map (fun i=>(i.zero,i.size,i.bytes))=some (some (.agg #[.int .i64 0, .int .u32 0]),2,16):=by kernel_rfl
theorem infoWd:(Tryz.prog.info? 59).map (fun i=>(i.zero,i.size,i.bytes))=some (some (.agg #[.string ⟨#[]⟩, .int .i64 0, .int .i64 0, .int .u32 0, .slice none 0 0]),5,64):=by kernel_rfl
theorem infoIz:(Tryz.prog.info? 62).map (fun i=>(i.zero,i.size,i.bytes))=some (some (.agg #[.int .i64 0, .int .i64 0, .string ⟨#[]⟩, .slice none 0 0]),4,56):=by kernel_rfl
set_option maxHeartbeats 1000000 in
theorem w_r9ops (v:Value) (l:List Opd) (w:World) (h:RdO w v l) (hz:l.length*16≤140737488355328):
  Calls Tryz.prog 25 #[v] w fun e w'=>∃v1,e= .returned v1∧OwO w.heap.size w' v1 l∧Below w.heap.size w w':=by
 have hm:=slr_max h
 obtain ⟨rows,g1,g2,g3⟩:=h
 obtain ⟨i0,hi0,hz0,hz1,hz2⟩:=info_parts infoOp
 have h1:∀r∈rows,r.length=2:=by
  intro r hr
  obtain ⟨i,hi,rfl⟩:=List.getElem_of_mem hr
  have:=g3 i (by omega)
  rw[List.getD_eq_getElem?_getD,List.getElem?_eq_getElem hi] at this
  have e:rows[i]=[.int .i64 (l[i]'(by omega)).1, .int .u32 (l[i]'(by omega)).2]:=this
  rw[e]
  rfl
 have h2:∀r∈rows,∀u∈r,u.oneCell'=true:=by
  intro r hr
  obtain ⟨i,hi,rfl⟩:=List.getElem_of_mem hr
  have:=g3 i (by omega)
  rw[List.getD_eq_getElem?_getD,List.getElem?_eq_getElem hi] at this
  have e:rows[i]=[.int .i64 (l[i]'(by omega)).1, .int .u32 (l[i]'(by omega)).2]:=this
  rw[e]
  intro u hu
  simp at hu
  rcases hu with rfl|rfl <;> rfl
 have H2:=hid h2
 have H1:=hid h1
 have H3:=hid g3
 clear h2 h1 g3
 go_enter Tryz.func25,Tryz.ntmps25
 go_wp2_with (at_builtin;refine wpList_append_rows rfl _ _ 50 rfl w.heap.size 47 i0 _ 2 16 Tryz.underlying50 hi0 hz0 hz1 hz2 rfl (by decide) (.slice none 0 0) 0 [] rfl (World.ownsRow_nil _ _ _ _) v rows rfl g1 H2.out (by omega) (by omega) (Nat.le_refl _) ?_;intro v4 w4 ho4 hg4)
 go_ret
 refine ⟨v4,rfl,⟨rows,by omega,H1.out,by simpa [g2] using ho4,fun i hi=>H3.out i hi⟩,below_grown (Below.refl _ _) hg4 (fun k hk=>by cases hk)⟩
theorem set10 {w:World} {b:Nat} {z0 z1 z2 z3 z4 z5 z6 z7 z8 z9:Value} {T:TypeId} (h:Stands w b #[z0,z1,z2,z3,z4,z5,z6,z7,z8,z9] T) (a0 a1 a2 a3 a4 a5 a6 a7 a8 a9:Value):
  Stands ((((((((((w.setCell ⟨b,0,none⟩ a0).setCell ⟨b,1,none⟩ a1).setCell ⟨b,2,none⟩ a2).setCell ⟨b,3,none⟩ a3).setCell ⟨b,4,none⟩ a4).setCell ⟨b,5,none⟩ a5).setCell ⟨b,6,none⟩ a6).setCell ⟨b,7,none⟩ a7).setCell ⟨b,8,none⟩ a8).setCell ⟨b,9,none⟩ a9) b #[a0,a1,a2,a3,a4,a5,a6,a7,a8,a9] T∧∀Q:World→Prop,(∀u u',Kept T u u'→Q u→Q u')→Q w→Q ((((((((((w.setCell ⟨b,0,none⟩ a0).setCell ⟨b,1,none⟩ a1).setCell ⟨b,2,none⟩ a2).setCell ⟨b,3,none⟩ a3).setCell ⟨b,4,none⟩ a4).setCell ⟨b,5,none⟩ a5).setCell ⟨b,6,none⟩ a6).setCell ⟨b,7,none⟩ a7).setCell ⟨b,8,none⟩ a8).setCell ⟨b,9,none⟩ a9):=by
 have h0:=h.set 0 a0
 have h1:=h0.set 1 a1
 have h2:=h1.set 2 a2
 have h3:=h2.set 3 a3
 have h4:=h3.set 4 a4
 have h5:=h4.set 5 a5
 have h6:=h5.set 6 a6
 have h7:=h6.set 7 a7
 have h8:=h7.set 8 a8
 have h9:=h8.set 9 a9
 exact ⟨by simpa only[List.setIfInBounds_toArray,List.set_cons_zero,List.set_cons_succ] using h9,fun Q hQ q=>hQ _ _ (set_kept h8 9 a9) (hQ _ _ (set_kept h7 8 a8) (hQ _ _ (set_kept h6 7 a7) (hQ _ _ (set_kept h5 6 a6) (hQ _ _ (set_kept h4 5 a5) (hQ _ _ (set_kept h3 4 a4) (hQ _ _ (set_kept h2 3 a3) (hQ _ _ (set_kept h1 2 a2) (hQ _ _ (set_kept h0 1 a1) (hQ _ _ (set_kept h 0 a0) (q))))))))))⟩
theorem OwnT8.kept {base:Nat} {T:TypeId} {w w':World} {v:Value} {t:List Nd} (h:OwnT8 base w v t) (k:Kept T w w') (h8:¬5=T) (h32:¬26=T) (hp:¬93=T) (hn:¬91=T):OwnT8 base w' v t:=OwnR.kept h k hn (nodO_apt h8 h32 hp)
theorem infoJ:(Tryz.prog.info? 3).map (fun i=>(i.zero,i.size,i.bytes))=some (some (.int .i64 0),1,8):=by kernel_rfl
structure szM (m:Mc):Prop where
 stack:m.stack.length*4≤140737488355328
 mem:m.mem.length≤140737488355328
 words:m.words.length*64≤140737488355328
 ops:∀x∈m.words,x.2.2.2.2.length*16≤140737488355328
 codes:m.codes.length*8≤140737488355328
 tree:m.tree.length*96≤140737488355328
 nods:∀x∈m.tree,sizN x
 insts:m.insts.length*56≤140737488355328
 cels:∀x∈m.insts,x.2.2.2.length*4≤140737488355328
set_option maxHeartbeats 4000000 in
set_option maxRecDepth 100000 in
theorem w_r9copy (m:Mc) (v:Mv) (o:ByteArray) (w:World) (h:RdM w v m o) (z:szM m):
  Calls Tryz.prog 10 #[.agg (v.cs m o)] w fun e w'=>∃v1,e= .returned (.agg (v1.cs m o))∧OwM w.heap.size w' v1 m o∧Below w.heap.size w w':=by
 have cs:=fun W (g:Below w.heap.size w W)=>w_r3copy _ _ W (h.stack.below g) (by have:=z.stack;unfold maxLen;omega) z.stack
 have cm:=fun W (g:Below w.heap.size w W)=>w_rcopy _ _ W (h.mem.below g) z.mem
 have ct:=fun W (g:Below w.heap.size w W)=>w_r8copy _ _ W (h.tree.below g) z.tree z.nods
 obtain ⟨sa,sq,hvs⟩:=rd_slice h.stack
 go_enter Tryz.func10,Tryz.ntmps10
 obtain ⟨s1,s2,bw⟩:=two_boxes w (v.cs m o) #[.slice none 0 0, .slice none 0 0, .slice none 0 0, .slice none 0 0, .int .u32 0, .slice none 0 0, .int .i64 0, .slice none 0 0, .int .i64 0, .string ⟨#[]⟩] 30
 go_upto_region 1 with fail
 generalize ((w.alloc (.cells (v.cs m o) 30)).alloc (.cells #[.slice none 0 0, .slice none 0 0, .slice none 0 0, .slice none 0 0, .int .u32 0, .slice none 0 0, .int .i64 0, .slice none 0 0, .int .i64 0, .string ⟨#[]⟩] 30))=wr at s1 s2 bw ⊢
 obtain ⟨f0,f1,f2,f3,f4,f5,f6,f7,f8,f9⟩:=mch_cells s1
 go_cut [3] (fun S wx=>∃(B:Nat) (vs vm vt:Value),S= .pointer (some ⟨B,0,none⟩)∧wr.heap.size≤B∧Stands wx B #[vs,vm, .slice none 0 0, .slice none 0 0, .int .u32 m.base,vt, .int .i64 m.node, .slice none 0 0, .int .i64 m.self, .string o] 30∧wx.ownsRow wr.heap.size 26 1 vs m.stack.length (m.stack.map (Value.int .u32))∧wx.ownsRow wr.heap.size 5 1 vm m.mem.length (m.mem.map (Value.int .u8))∧OwnT8 wr.heap.size wx vt m.tree∧Below wr.heap.size wr wx)
 case first=>
  have HX:Hid (∀W,Below wr.heap.size wr W→(W.cell? ⟨w.heap.size,0,none⟩=some v.vs∧W.cell? ⟨w.heap.size,1,none⟩=some v.vm∧W.cell? ⟨w.heap.size,4,none⟩=some (.int .u32 m.base)∧W.cell? ⟨w.heap.size,5,none⟩=some v.vt∧W.cell? ⟨w.heap.size,6,none⟩=some (.int .i64 m.node)∧W.cell? ⟨w.heap.size,8,none⟩=some (.int .i64 m.self)∧W.cell? ⟨w.heap.size,9,none⟩=some (.string o))):=fun W x=>⟨below_cell x f0,below_cell x f1,below_cell x f4,below_cell x f5,below_cell x f6,below_cell x f8,below_cell x f9⟩
  have HB:=hid bw
  have CS:=hid cs
  have CM:=hid cm
  have CT:=hid ct
  have hbd:Hid (Below w.heap.size w wr.drew):=below_drewN bw 1
  have hbdA:Hid (Below w.heap.size w (wr.drew.alloc (.cells #[.slice none 0 0, .slice none 0 0, .slice none 0 0, .slice none 0 0, .int .u32 0, .slice none 0 0, .int .i64 0, .slice none 0 0, .int .i64 0, .string ⟨#[]⟩] 30))):=hbd.out.alloc hbd.out.size _
  have hbdD:Hid (Below w.heap.size w (wr.alloc (.cells #[.slice none 0 0, .slice none 0 0, .slice none 0 0, .slice none 0 0, .int .u32 0, .slice none 0 0, .int .i64 0, .slice none 0 0, .int .i64 0, .string ⟨#[]⟩] 30)).drew):=below_drewN (bw.alloc bw.size _) 1
  have hrd:Hid (Below wr.heap.size wr wr.drew):=below_drewN (Below.refl _ _) 1
  have hrdA:Hid (Below wr.heap.size wr (wr.drew.alloc (.cells #[.slice none 0 0, .slice none 0 0, .slice none 0 0, .slice none 0 0, .int .u32 0, .slice none 0 0, .int .i64 0, .slice none 0 0, .int .i64 0, .string ⟨#[]⟩] 30))):=hrd.out.alloc hrd.out.size _
  have hrdD:Hid (Below wr.heap.size wr (wr.alloc (.cells #[.slice none 0 0, .slice none 0 0, .slice none 0 0, .slice none 0 0, .int .u32 0, .slice none 0 0, .int .i64 0, .slice none 0 0, .int .i64 0, .string ⟨#[]⟩] 30)).drew):=below_drewN ((Below.refl _ wr).alloc (Nat.le_refl _) _) 1
  have stD:Hid (Stands (wr.alloc (.cells #[.slice none 0 0, .slice none 0 0, .slice none 0 0, .slice none 0 0, .int .u32 0, .slice none 0 0, .int .i64 0, .slice none 0 0, .int .i64 0, .string ⟨#[]⟩] 30)).drew wr.heap.size #[.slice none 0 0, .slice none 0 0, .slice none 0 0, .slice none 0 0, .int .u32 0, .slice none 0 0, .int .i64 0, .slice none 0 0, .int .i64 0, .string ⟨#[]⟩] 30):=stands_new wr #[.slice none 0 0, .slice none 0 0, .slice none 0 0, .slice none 0 0, .int .u32 0, .slice none 0 0, .int .i64 0, .slice none 0 0, .int .i64 0, .string ⟨#[]⟩] 30
  have stA:Hid (Stands (wr.drew.alloc (.cells #[.slice none 0 0, .slice none 0 0, .slice none 0 0, .slice none 0 0, .int .u32 0, .slice none 0 0, .int .i64 0, .slice none 0 0, .int .i64 0, .string ⟨#[]⟩] 30)) wr.heap.size #[.slice none 0 0, .slice none 0 0, .slice none 0 0, .slice none 0 0, .int .u32 0, .slice none 0 0, .int .i64 0, .slice none 0 0, .int .i64 0, .string ⟨#[]⟩] 30):=stands_new wr.drew #[.slice none 0 0, .slice none 0 0, .slice none 0 0, .slice none 0 0, .int .u32 0, .slice none 0 0, .int .i64 0, .slice none 0 0, .int .i64 0, .string ⟨#[]⟩] 30
  clear cs cm ct f0 f1 f2 f3 f4 f5 f6 f7 f8 f9 h z s1 s2 bw hvs
  go_region_held (fun W=>W.cell? ⟨w.heap.size,0,none⟩=some v.vs∧W.cell? ⟨w.heap.size,1,none⟩=some v.vm∧W.cell? ⟨w.heap.size,4,none⟩=some (.int .u32 m.base)∧W.cell? ⟨w.heap.size,5,none⟩=some v.vt∧W.cell? ⟨w.heap.size,6,none⟩=some (.int .i64 m.node)∧W.cell? ⟨w.heap.size,8,none⟩=some (.int .i64 m.self)∧W.cell? ⟨w.heap.size,9,none⟩=some (.string o)) (exact HX.out _ (by first|with_reducible exact hrd.out|with_reducible exact hrdA.out|with_reducible exact hrdD.out|with_reducible exact RS.out|with_reducible exact RS.out.alloc RS.out.size _|with_reducible exact RM.out|with_reducible exact RM.out.alloc RM.out.size _|with_reducible exact RT.out|with_reducible exact RT.out.alloc RT.out.size _|with_reducible exact below_set (below_set (below_set (below_set (below_set (below_set (below_set (below_set (below_set (below_set (RT.out) _ _ _ (by first|with_reducible exact Nat.le_refl _|with_reducible exact RS.out.size|with_reducible exact RM.out.size|with_reducible exact RT.out.size)) _ _ _ (by first|with_reducible exact Nat.le_refl _|with_reducible exact RS.out.size|with_reducible exact RM.out.size|with_reducible exact RT.out.size)) _ _ _ (by first|with_reducible exact Nat.le_refl _|with_reducible exact RS.out.size|with_reducible exact RM.out.size|with_reducible exact RT.out.size)) _ _ _ (by first|with_reducible exact Nat.le_refl _|with_reducible exact RS.out.size|with_reducible exact RM.out.size|with_reducible exact RT.out.size)) _ _ _ (by first|with_reducible exact Nat.le_refl _|with_reducible exact RS.out.size|with_reducible exact RM.out.size|with_reducible exact RT.out.size)) _ _ _ (by first|with_reducible exact Nat.le_refl _|with_reducible exact RS.out.size|with_reducible exact RM.out.size|with_reducible exact RT.out.size)) _ _ _ (by first|with_reducible exact Nat.le_refl _|with_reducible exact RS.out.size|with_reducible exact RM.out.size|with_reducible exact RT.out.size)) _ _ _ (by first|with_reducible exact Nat.le_refl _|with_reducible exact RS.out.size|with_reducible exact RM.out.size|with_reducible exact RT.out.size)) _ _ _ (by first|with_reducible exact Nat.le_refl _|with_reducible exact RS.out.size|with_reducible exact RM.out.size|with_reducible exact RT.out.size)) _ _ _ (by first|with_reducible exact Nat.le_refl _|with_reducible exact RS.out.size|with_reducible exact RM.out.size|with_reducible exact RT.out.size)))
   (first
    |(go_at_call 21;refine (CS.out _ (by first|with_reducible exact hbd.out|with_reducible exact hbdA.out|with_reducible exact hbdD.out)).mono ?_;rintro e qS ⟨vS,rfl,oS,bS⟩;have RS:Hid (Below wr.heap.size wr qS):=below_trans (by first|with_reducible exact hrd.out|with_reducible exact hrdA.out|with_reducible exact hrdD.out) bS;have BS:Hid (Below w.heap.size w qS):=below_trans HB.out RS.out;(try (have stS:Stands qS _ #[.slice none 0 0, .slice none 0 0, .slice none 0 0, .slice none 0 0, .int .u32 0, .slice none 0 0, .int .i64 0, .slice none 0 0, .int .i64 0, .string ⟨#[]⟩] 30:=(by first|with_reducible exact (stD.out).below bS|with_reducible exact (stA.out).below bS);have z0:=stS.cell 0 _ rfl;have z1:=stS.cell 1 _ rfl;have z2:=stS.cell 2 _ rfl;have z3:=stS.cell 3 _ rfl;have z4:=stS.cell 4 _ rfl;have z5:=stS.cell 5 _ rfl;have z6:=stS.cell 6 _ rfl;have z7:=stS.cell 7 _ rfl;have z8:=stS.cell 8 _ rfl;have z9:=stS.cell 9 _ rfl;have zf:=stS.free));have OS:=hid (own_le (b:=wr.heap.size) (by first|with_reducible exact (hrd.out).size|with_reducible exact (hrdA.out).size|with_reducible exact (hrdD.out).size) oS);obtain ⟨aS,cS,rfl⟩:=own_form oS;have HS:=hid bS;clear oS bS)
    |(go_at_call 23;refine (CM.out _ (by first|with_reducible exact BS.out|with_reducible exact BS.out.alloc BS.out.size _)).mono ?_;rintro e qM ⟨vM,rfl,oM,bM⟩;have RM:Hid (Below wr.heap.size wr qM):=below_trans (by first|with_reducible exact RS.out|with_reducible exact RS.out.alloc RS.out.size _) bM;have BM:Hid (Below w.heap.size w qM):=below_trans HB.out RM.out;(try (have stM:Stands qM _ #[.slice none 0 0, .slice none 0 0, .slice none 0 0, .slice none 0 0, .int .u32 0, .slice none 0 0, .int .i64 0, .slice none 0 0, .int .i64 0, .string ⟨#[]⟩] 30:=(by first|with_reducible exact (stS).below bM|with_reducible exact (stands_new _ _ _).below bM);have z0:=stM.cell 0 _ rfl;have z1:=stM.cell 1 _ rfl;have z2:=stM.cell 2 _ rfl;have z3:=stM.cell 3 _ rfl;have z4:=stM.cell 4 _ rfl;have z5:=stM.cell 5 _ rfl;have z6:=stM.cell 6 _ rfl;have z7:=stM.cell 7 _ rfl;have z8:=stM.cell 8 _ rfl;have z9:=stM.cell 9 _ rfl;have zf:=stM.free));have OM:=hid (own_le (b:=wr.heap.size) (by first|with_reducible exact (RS.out).size|with_reducible exact (RS.out.alloc RS.out.size _).size) oM);obtain ⟨aM,cM,rfl⟩:=own_form oM;have HM:=hid bM;clear oM bM)
    |(go_at_call 24;refine (CT.out _ (by first|with_reducible exact BM.out|with_reducible exact BM.out.alloc BM.out.size _)).mono ?_;rintro e qT ⟨vT,rfl,oT,bT⟩;have RT:Hid (Below wr.heap.size wr qT):=below_trans (by first|with_reducible exact RM.out|with_reducible exact RM.out.alloc RM.out.size _) bT;have BT:Hid (Below w.heap.size w qT):=below_trans HB.out RT.out;(try (have stT:Stands qT _ #[.slice none 0 0, .slice none 0 0, .slice none 0 0, .slice none 0 0, .int .u32 0, .slice none 0 0, .int .i64 0, .slice none 0 0, .int .i64 0, .string ⟨#[]⟩] 30:=(by first|with_reducible exact (stM).below bT|with_reducible exact (stands_new _ _ _).below bT);have z0:=stT.cell 0 _ rfl;have z1:=stT.cell 1 _ rfl;have z2:=stT.cell 2 _ rfl;have z3:=stT.cell 3 _ rfl;have z4:=stT.cell 4 _ rfl;have z5:=stT.cell 5 _ rfl;have z6:=stT.cell 6 _ rfl;have z7:=stT.cell 7 _ rfl;have z8:=stT.cell 8 _ rfl;have z9:=stT.cell 9 _ rfl;have zf:=stT.free));have OT:=hid (OwnT8.le (b:=wr.heap.size) (by first|with_reducible exact (RM.out).size|with_reducible exact (RM.out.alloc RM.out.size _).size) oT.own);obtain ⟨rowT,hrowT⟩:=OwnR.row oT.own;obtain ⟨aT,cT,rfl⟩:=own_form hrowT;have HT:=hid bT;clear oT bT hrowT))
  all_goals go_wp2_with fail
  ·go_meet
   case rel=>exact ⟨qT.heap.size,_,_,_,rfl,RT.out.size,stands_new qT _ _,World.ownsRow.alloc (own_below (own_below OS.out HM.out) HT.out) _,World.ownsRow.alloc (own_below OM.out HT.out) _,OwnT8.below OT.out (box_below _ _),RT.out.alloc RT.out.size _⟩
  ·obtain ⟨k1,k2⟩:=set10 stT (.slice aS m.stack.length cS) (.slice aM m.mem.length cM) (.slice none 0 0) (.slice none 0 0) (.int .u32 m.base) (.slice aT m.tree.length cT) (.int .i64 m.node) (.slice none 0 0) (.int .i64 m.self) (.string o)
   have K1:=hid k1
   have K2:=hid (k2 (fun u=>u.ownsRow wr.heap.size 26 1 (.slice aS m.stack.length cS) m.stack.length (m.stack.map (Value.int .u32))) (fun u u' k x=>own_kept k (by decide) x) (own_below (World.ownsRow.alloc (own_below OS.out HM.out) _) HT.out))
   have K3:=hid (k2 (fun u=>u.ownsRow wr.heap.size 5 1 (.slice aM m.mem.length cM) m.mem.length (m.mem.map (Value.int .u8))) (fun u u' k x=>own_kept k (by decide) x) (own_below (World.ownsRow.alloc OM.out _) HT.out))
   have K4:=hid (k2 (fun u=>OwnT8 wr.heap.size u (.slice aT m.tree.length cT) m.tree) (fun u u' k x=>OwnT8.kept x k (by decide) (by decide) (by decide) (by decide)) OT.out)
   have K5:Hid (Below wr.heap.size wr _):=below_set (below_set (below_set (below_set (below_set (below_set (below_set (below_set (below_set (below_set (RT.out) qM.heap.size 0 (.slice aS m.stack.length cS) RM.out.size) qM.heap.size 1 (.slice aM m.mem.length cM) RM.out.size) qM.heap.size 2 (.slice none 0 0) RM.out.size) qM.heap.size 3 (.slice none 0 0) RM.out.size) qM.heap.size 4 (.int .u32 m.base) RM.out.size) qM.heap.size 5 (.slice aT m.tree.length cT) RM.out.size) qM.heap.size 6 (.int .i64 m.node) RM.out.size) qM.heap.size 7 (.slice none 0 0) RM.out.size) qM.heap.size 8 (.int .i64 m.self) RM.out.size) qM.heap.size 9 (.string o) RM.out.size
   clear k1 k2
   go_meet
   case rel=>exact ⟨qM.heap.size,_,_,_,rfl,RM.out.size,K1.out,K2.out,K3.out,K4.out,K5.out⟩
  ·obtain ⟨k1,k2⟩:=set10 stT (.slice aS m.stack.length cS) (.slice aM m.mem.length cM) (.slice none 0 0) (.slice none 0 0) (.int .u32 m.base) (.slice aT m.tree.length cT) (.int .i64 m.node) (.slice none 0 0) (.int .i64 m.self) (.string o)
   have K1:=hid k1
   have K2:=hid (k2 (fun u=>u.ownsRow wr.heap.size 26 1 (.slice aS m.stack.length cS) m.stack.length (m.stack.map (Value.int .u32))) (fun u u' k x=>own_kept k (by decide) x) (own_below (own_below (World.ownsRow.alloc OS.out _) HM.out) HT.out))
   have K3:=hid (k2 (fun u=>u.ownsRow wr.heap.size 5 1 (.slice aM m.mem.length cM) m.mem.length (m.mem.map (Value.int .u8))) (fun u u' k x=>own_kept k (by decide) x) (own_below OM.out HT.out))
   have K4:=hid (k2 (fun u=>OwnT8 wr.heap.size u (.slice aT m.tree.length cT) m.tree) (fun u u' k x=>OwnT8.kept x k (by decide) (by decide) (by decide) (by decide)) OT.out)
   have K5:Hid (Below wr.heap.size wr _):=below_set (below_set (below_set (below_set (below_set (below_set (below_set (below_set (below_set (below_set (RT.out) qS.heap.size 0 (.slice aS m.stack.length cS) RS.out.size) qS.heap.size 1 (.slice aM m.mem.length cM) RS.out.size) qS.heap.size 2 (.slice none 0 0) RS.out.size) qS.heap.size 3 (.slice none 0 0) RS.out.size) qS.heap.size 4 (.int .u32 m.base) RS.out.size) qS.heap.size 5 (.slice aT m.tree.length cT) RS.out.size) qS.heap.size 6 (.int .i64 m.node) RS.out.size) qS.heap.size 7 (.slice none 0 0) RS.out.size) qS.heap.size 8 (.int .i64 m.self) RS.out.size) qS.heap.size 9 (.string o) RS.out.size
   clear k1 k2
   go_meet
   case rel=>exact ⟨qS.heap.size,_,_,_,rfl,RS.out.size,K1.out,K2.out,K3.out,K4.out,K5.out⟩
  ·obtain ⟨k1,k2⟩:=set10 stT (.slice aS m.stack.length cS) (.slice aM m.mem.length cM) (.slice none 0 0) (.slice none 0 0) (.int .u32 m.base) (.slice aT m.tree.length cT) (.int .i64 m.node) (.slice none 0 0) (.int .i64 m.self) (.string o)
   have K1:=hid k1
   have K2:=hid (k2 (fun u=>u.ownsRow wr.heap.size 26 1 (.slice aS m.stack.length cS) m.stack.length (m.stack.map (Value.int .u32))) (fun u u' k x=>own_kept k (by decide) x) (own_below (own_below OS.out HM.out) HT.out))
   have K3:=hid (k2 (fun u=>u.ownsRow wr.heap.size 5 1 (.slice aM m.mem.length cM) m.mem.length (m.mem.map (Value.int .u8))) (fun u u' k x=>own_kept k (by decide) x) (own_below OM.out HT.out))
   have K4:=hid (k2 (fun u=>OwnT8 wr.heap.size u (.slice aT m.tree.length cT) m.tree) (fun u u' k x=>OwnT8.kept x k (by decide) (by decide) (by decide) (by decide)) OT.out)
   have K5:Hid (Below wr.heap.size wr _):=below_set (below_set (below_set (below_set (below_set (below_set (below_set (below_set (below_set (below_set (RT.out) wr.heap.size 0 (.slice aS m.stack.length cS) (Nat.le_refl _)) wr.heap.size 1 (.slice aM m.mem.length cM) (Nat.le_refl _)) wr.heap.size 2 (.slice none 0 0) (Nat.le_refl _)) wr.heap.size 3 (.slice none 0 0) (Nat.le_refl _)) wr.heap.size 4 (.int .u32 m.base) (Nat.le_refl _)) wr.heap.size 5 (.slice aT m.tree.length cT) (Nat.le_refl _)) wr.heap.size 6 (.int .i64 m.node) (Nat.le_refl _)) wr.heap.size 7 (.slice none 0 0) (Nat.le_refl _)) wr.heap.size 8 (.int .i64 m.self) (Nat.le_refl _)) wr.heap.size 9 (.string o) (Nat.le_refl _)
   clear k1 k2
   go_meet
   case rel=>exact ⟨wr.heap.size,_,_,_,rfl,(Nat.le_refl _),K1.out,K2.out,K3.out,K4.out,K5.out⟩
 case rest=>
  obtain ⟨W0,rfl⟩:∃W0,W0=wr:=⟨_,rfl⟩
  obtain ⟨B,vs,vm,vt,rfl,hBw,st,oS,oM,oT,bw2⟩:=hcut
  have lw:=slr_len h.words uW (P:=Tryz.prog)
  have li:=slr_len h.insts uI (P:=Tryz.prog)
  have mw:=slr_max h.words
  have mi:=slr_max h.insts
  unfold maxLen at mw mi
  have KB:=fun q (g:Below W0.heap.size W0 q)=>mch_cells (s1.below g)
  obtain ⟨i0,hi0,hz0,hz1,hz2⟩:=info_parts infoWd
  clear cs cm ct f0 f1 f2 f3 f4 f5 f6 f7 f8 f9 hvs
  go_wp2_with fail
  go_loopw [4] (fun I wx=>∃(k:Nat) (vw:Value),(k:Int)≤m.words.length∧I= .int .i64 k∧Stands wx B #[vs,vm,vw, .slice none 0 0, .int .u32 m.base,vt, .int .i64 m.node, .slice none 0 0, .int .i64 m.self, .string o] 30∧wx.ownsRow W0.heap.size 26 1 vs m.stack.length (m.stack.map (Value.int .u32))∧wx.ownsRow W0.heap.size 5 1 vm m.mem.length (m.mem.map (Value.int .u8))∧OwnT8 W0.heap.size wx vt m.tree∧OwW W0.heap.size wx vw (m.words.take k)∧Below W0.heap.size W0 wx) (fun I _=>(m.words.length - intOf I).toNat)
  case atStart=>exact ⟨0, .slice none 0 0,by omega,rfl,st,oS,oM,oT,OwnR.nil _ _ _ _ _,bw2⟩
  case round=>
   obtain ⟨k,vw,hk,rfl,st3,oS3,oM3,oT3,oW3,hb⟩:=hrel
   obtain ⟨x0,x1,x2,x3,x4,x5,x6,x7,x8,x9⟩:=KB _ hb
   by_cases hlt:(k:Int) < m.words.length
   ·have hkl:k < m.words.length:=by omega
    have bww:=below_trans bw hb
    obtain ⟨b5,o5,nm,vc,r5,w0,w1,w2,w3,w4,en,hc⟩:=wrd_at (RdW.below h.words bww) k hkl
    obtain ⟨ca9,cq9,rfl⟩:=slr_slice hc
    have hzo:=z.ops _ (List.getElem_mem hkl)
    obtain ⟨A1,hA1⟩:∃X,m.words[k].2.1=X:=⟨_,rfl⟩
    obtain ⟨A2,hA2⟩:∃X,m.words[k].2.2.1=X:=⟨_,rfl⟩
    obtain ⟨A3,hA3⟩:∃X,m.words[k].2.2.2.1=X:=⟨_,rfl⟩
    rw[hA1] at w1
    rw[hA2] at w2
    rw[hA3] at w3
    have sx:=stands_new wr #[.string nm, .int .i64 A1, .int .i64 A2, .int .u32 A3, .slice ca9 m.words[k].2.2.2.2.length cq9] 59
    have bx:=box_below wr (.cells #[.string nm, .int .i64 A1, .int .i64 A2, .int .u32 A3, .slice ca9 m.words[k].2.2.2.2.length cq9] 59)
    have y4:=sx.cell 4 _ rfl
    have co:=fun W (g:Below wr.heap.size wr W)=>w_r9ops _ _ W (RdO.below hc g) hzo
    obtain ⟨rows,rw1,rw2,rw3,rw4⟩:=oW3
    have hrl:rows.length=k:=by rw[rw1,List.length_take];omega
    have hbs:Below W0.heap.size W0 wr:=hb
    have hzw:=z.words
    have hone:∀ua uc,∀r∈[[Value.string nm, .int .i64 A1, .int .i64 A2, .int .u32 A3, .slice ua m.words[k].2.2.2.2.length uc]],∀u∈r,u.oneCell'=true:=by
     intro ua uc r hr u hu
     simp at hr
     subst hr
     simp at hu
     rcases hu with rfl|rfl|rfl|rfl|rfl <;> rfl
    have htl:(m.words.take k).length=k:=by rw[List.length_take];omega
    go_wp2_with (first
     |(go_at_call 25;refine (co _ bx).mono ?_;rintro e q1 ⟨v1,rfl,o1,b1⟩;obtain ⟨rr,hrr⟩:=OwnR.row o1;obtain ⟨ua,uc,rfl⟩:=own_form hrr;have sq:=sx.below b1;have p4:=sq.cell 4 _ rfl;have pf:=sq.free 4;have s2q:=sq.set 4 (.slice ua m.words[k].2.2.2.2.length uc);simp only[List.setIfInBounds_toArray,List.set_cons_zero,List.set_cons_succ] at s2q;have BX:=below_set (below_trans bx b1) wr.heap.size 4 (.slice ua m.words[k].2.2.2.2.length uc) (Nat.le_refl _);have stB:=st3.below BX;have c2:=stB.cell 2 _ rfl;have d0:=s2q.cell 0 _ rfl;have d1:=s2q.cell 1 _ rfl;have d2:=s2q.cell 2 _ rfl;have d3:=s2q.cell 3 _ rfl;have d4:=s2q.cell 4 _ rfl;have BY:=box_below (q1.setCell ⟨wr.heap.size,4,none⟩ (.slice ua m.words[k].2.2.2.2.length uc)) (.cells #[.string nm, .int .i64 A1, .int .i64 A2, .int .u32 A3, .slice ua m.words[k].2.2.2.2.length uc] 59);have OW:=World.ownsRow.alloc (own_kept (T:=5) (Kept.below BX) (by decide) rw3) (.cells #[.string nm, .int .i64 A1, .int .i64 A2, .int .u32 A3, .slice ua m.words[k].2.2.2.2.length uc] 59);have hsl:=slc_one (q1.setCell ⟨wr.heap.size,4,none⟩ (.slice ua m.words[k].2.2.2.2.length uc)) [Value.string nm, .int .i64 A1, .int .i64 A2, .int .u32 A3, .slice ua m.words[k].2.2.2.2.length uc] 59 5 rfl;rw[show (q1.setCell ⟨wr.heap.size,4,none⟩ (.slice ua m.words[k].2.2.2.2.length uc)).heap.size=q1.heap.size from by simp] at hsl)
     |(at_builtin;refine wpList_append_rows rfl _ _ 24 rfl W0.heap.size 59 i0 _ 5 64 Tryz.underlying24 hi0 hz0 hz1 hz2 rfl (by decide) vw (m.words.take k).length _ rfl OW _ [[Value.string nm, .int .i64 A1, .int .i64 A2, .int .u32 A3, .slice ua m.words[k].2.2.2.2.length uc]] rfl hsl (hone ua uc) (by unfold maxLen;simp only[List.length_cons,List.length_nil];omega) (by simp only[List.length_cons,List.length_nil];omega) (below_trans (below_trans hb BX) BY).size ?_;intro v9 w9 ho9 hg9;have ho8:w9.ownsRow W0.heap.size 59 5 v9 (k+1) (rows.flatten++[Value.string nm, .int .i64 A1, .int .i64 A2, .int .u32 A3, .slice ua m.words[k].2.2.2.2.length uc]):=(by simpa [htl] using ho9);obtain ⟨na,nc,rfl⟩:=own_form ho8;have K9:=Kept.own OW hg9;have stB9:=stands_kept K9 (by decide) (stB.below BY);have c29:=stB9.cell 2 _ rfl;have f29:=stB9.free 2))
    have stC:=stB9.set 2 (.slice na (k+1) nc)
    simp only[List.setIfInBounds_toArray,List.set_cons_zero,List.set_cons_succ] at stC
    have KM:=set_kept stB9 2 (.slice na (k+1) nc)
    have hx9:wrdO W0.heap.size ((q1.setCell ⟨wr.heap.size,4,none⟩ (.slice ua m.words[k].2.2.2.2.length uc)).alloc (.cells #[.string nm, .int .i64 A1, .int .i64 A2, .int .u32 A3, .slice ua m.words[k].2.2.2.2.length uc] 59)) [Value.string nm, .int .i64 A1, .int .i64 A2, .int .u32 A3, .slice ua m.words[k].2.2.2.2.length uc] m.words[k]:=⟨_,by rw[en,hA1,hA2,hA3],OwO.below (OwO.kept (OwO.le (below_trans hb bx).size o1) (set_kept sq 4 _) (by decide)) BY⟩
    have hsn:=OwnR.snoc (wrdO_apt (by decide)) rw1 rw2 OW (fun i hi=>wrdO_below BY _ _ (wrdO_below BX _ _ (rw4 i hi))) rfl hx9 (by rw[htl];exact ho8) hg9
    rw[←List.take_succ_eq_append_getElem hkl] at hsn
    go_roundw
    case rel=>exact ⟨k+1, .slice na (k+1) nc,by omega,by go_num,stC,own_kept KM (by decide) (own_kept K9 (by decide) (World.ownsRow.alloc (own_below oS3 BX) _)),own_kept KM (by decide) (own_kept K9 (by decide) (World.ownsRow.alloc (own_below oM3 BX) _)),OwnT8.kept (OwnT8.kept (OwnT8.below (OwnT8.below oT3 BX) BY) K9 (by decide) (by decide) (by decide) (by decide)) KM (by decide) (by decide) (by decide) (by decide),OwnR.kept hsn KM (by decide) (wrdO_apt (by decide)),below_set (below_grown (below_trans (below_trans hb BX) BY) hg9 (fun g hg=>(OW.lt g hg).1)) B 2 (.slice na (k+1) nc) hBw⟩
    case measure=>simp[intOf];omega
   ·have hW:OwW W0.heap.size wr vw m.words:=by
     rw[List.take_of_length_le (by omega)] at oW3
     exact oW3
    have hzc:=z.codes
    have zc3:=st3.cell 3 _ rfl
    obtain ⟨i1,hi1,hy0,hy1,hy2⟩:=info_parts infoJ
    obtain ⟨i2,hi2,hx0,hx1,hx2⟩:=info_parts infoIz
    have hrc:=h.codes.below (below_trans bw hb)
    clear oW3
    go_wp2_with (at_builtin;refine wpList_append_rd (k:= .i64) rfl _ _ 25 rfl W0.heap.size 3 i1 8 Tryz.underlying25 hi1 hy0 hy1 hy2 (.slice none 0 0) [] rfl (World.ownsRow_nil _ _ _ _) v.vc m.codes rfl hrc (by unfold maxLen;simp only[List.length_nil];omega) (by simp only[List.length_nil];omega) hb.size ?_;intro v8 w8 ho8 hg8;have ho7:w8.ownsRow W0.heap.size 3 1 v8 m.codes.length (m.codes.map (Value.int .i64)):=(by simpa using ho8);obtain ⟨na,nc,rfl⟩:=own_form ho7;have B8:Below wr.heap.size wr w8:=below_grown (Below.refl _ _) hg8 (fun g hg=>by cases hg);have st8:=st3.below B8;have c38:=st8.cell 3 _ rfl;have f38:=st8.free 3)
    have st7:=st8.set 3 (.slice na m.codes.length nc)
    simp only[List.setIfInBounds_toArray,List.set_cons_zero,List.set_cons_succ] at st7
    have KM:=set_kept st8 3 (.slice na m.codes.length nc)
    have oS7:=own_kept KM (by decide) (own_below oS3 B8)
    have oM7:=own_kept KM (by decide) (own_below oM3 B8)
    have oT7:=OwnT8.kept (OwnT8.below oT3 B8) KM (by decide) (by decide) (by decide) (by decide)
    have oW7:OwW W0.heap.size _ vw m.words:=OwnR.kept (OwnR.below hW B8 (wrdO_below B8)) KM (by decide) (wrdO_apt (by decide))
    have oC7:=own_kept KM (by decide) ho7
    have b7:=below_set (below_trans hb B8) B 3 (.slice na m.codes.length nc) hBw
    clear st8 KM hW oS3 oM3 oT3 st3 x0 x1 x2 x3 x4 x5 x6 x7 x8 x9 zc3 c38 f38 ho8 ho7 hrc
    obtain ⟨VC,hVC⟩:∃X,Value.slice na m.codes.length nc=X:=⟨_,rfl⟩
    rw[hVC] at st7 oS7 oM7 oT7 oW7 oC7 b7 ⊢
    generalize w8.setCell ⟨B,3,none⟩ VC=W7 at st7 oS7 oM7 oT7 oW7 oC7 b7 ⊢
    go_wp2_with fail
    go_loopw [6] (fun I wx=>∃(k:Nat) (vi:Value),(k:Int)≤m.insts.length∧I= .int .i64 k∧Stands wx B #[vs,vm,vw,VC, .int .u32 m.base,vt, .int .i64 m.node,vi, .int .i64 m.self, .string o] 30∧wx.ownsRow W0.heap.size 26 1 vs m.stack.length (m.stack.map (Value.int .u32))∧wx.ownsRow W0.heap.size 5 1 vm m.mem.length (m.mem.map (Value.int .u8))∧OwnT8 W0.heap.size wx vt m.tree∧OwW W0.heap.size wx vw m.words∧wx.ownsRow W0.heap.size 3 1 VC m.codes.length (m.codes.map (Value.int .i64))∧OwI W0.heap.size wx vi (m.insts.take k)∧Below W0.heap.size W0 wx) (fun I _=>(m.insts.length - intOf I).toNat)
    case atStart=>exact ⟨0, .slice none 0 0,by omega,rfl,st7,oS7,oM7,oT7,oW7,oC7,OwnR.nil _ _ _ _ _,b7⟩
    case round=>
     obtain ⟨k,vi,hk,rfl,st3,oS3,oM3,oT3,oW3,oC3,oI3,hb⟩:=hrel
     obtain ⟨x0,x1,x2,x3,x4,x5,x6,x7,x8,x9⟩:=KB _ hb
     by_cases hlt:(k:Int) < m.insts.length
     ·have hkl:k < m.insts.length:=by omega
      have bww:=below_trans bw hb
      obtain ⟨b5,o5,nm,vc,r5,w0,w1,w2,w3,en,hc⟩:=ins_at (RdI.below h.insts bww) k hkl
      obtain ⟨ca9,cq9,rfl⟩:=rd_slice hc
      have hzo:=z.cels _ (List.getElem_mem hkl)
      obtain ⟨A1,hA1⟩:∃X,m.insts[k].1=X:=⟨_,rfl⟩
      obtain ⟨A2,hA2⟩:∃X,m.insts[k].2.1=X:=⟨_,rfl⟩
      rw[hA1] at w0
      rw[hA2] at w1
      have sx:=stands_new wr #[.int .i64 A1, .int .i64 A2, .string nm, .slice ca9 m.insts[k].2.2.2.length cq9] 62
      have bx:=box_below wr (.cells #[.int .i64 A1, .int .i64 A2, .string nm, .slice ca9 m.insts[k].2.2.2.length cq9] 62)
      have y4:=sx.cell 3 _ rfl
      have co:=fun W (g:Below wr.heap.size wr W)=>w_r3copy _ _ W (hc.below g) (by unfold maxLen;omega) hzo
      obtain ⟨rows,rw1,rw2,rw3,rw4⟩:=oI3
      have hzw:=z.insts
      have hone:∀ua uc,∀r∈[[Value.int .i64 A1, .int .i64 A2, .string nm, .slice ua m.insts[k].2.2.2.length uc]],∀u∈r,u.oneCell'=true:=by
       intro ua uc r hr u hu
       simp at hr
       subst hr
       simp at hu
       rcases hu with rfl|rfl|rfl|rfl <;> rfl
      have htl:(m.insts.take k).length=k:=by rw[List.length_take];omega
      go_wp2_with (first
       |(go_at_call 21;refine (co _ bx).mono ?_;rintro e q1 ⟨v1,rfl,o1,b1⟩;obtain ⟨ua,uc,rfl⟩:=own_form o1;have sq:=sx.below b1;have p4:=sq.cell 3 _ rfl;have pf:=sq.free 3;have s2q:=sq.set 3 (.slice ua m.insts[k].2.2.2.length uc);simp only[List.setIfInBounds_toArray,List.set_cons_zero,List.set_cons_succ] at s2q;have BX:=below_set (below_trans bx b1) wr.heap.size 3 (.slice ua m.insts[k].2.2.2.length uc) (Nat.le_refl _);have stB:=st3.below BX;have c2:=stB.cell 7 _ rfl;have d0:=s2q.cell 0 _ rfl;have d1:=s2q.cell 1 _ rfl;have d2:=s2q.cell 2 _ rfl;have d3:=s2q.cell 3 _ rfl;have BY:=box_below (q1.setCell ⟨wr.heap.size,3,none⟩ (.slice ua m.insts[k].2.2.2.length uc)) (.cells #[.int .i64 A1, .int .i64 A2, .string nm, .slice ua m.insts[k].2.2.2.length uc] 62);have OW:=World.ownsRow.alloc (own_kept (T:=5) (Kept.below BX) (by decide) rw3) (.cells #[.int .i64 A1, .int .i64 A2, .string nm, .slice ua m.insts[k].2.2.2.length uc] 62);have hsl:=slc_one (q1.setCell ⟨wr.heap.size,3,none⟩ (.slice ua m.insts[k].2.2.2.length uc)) [Value.int .i64 A1, .int .i64 A2, .string nm, .slice ua m.insts[k].2.2.2.length uc] 62 4 rfl;rw[show (q1.setCell ⟨wr.heap.size,3,none⟩ (.slice ua m.insts[k].2.2.2.length uc)).heap.size=q1.heap.size from by simp] at hsl)
       |(at_builtin;refine wpList_append_rows rfl _ _ 28 rfl W0.heap.size 62 i2 _ 4 56 Tryz.underlying28 hi2 hx0 hx1 hx2 rfl (by decide) vi (m.insts.take k).length _ rfl OW _ [[Value.int .i64 A1, .int .i64 A2, .string nm, .slice ua m.insts[k].2.2.2.length uc]] rfl hsl (hone ua uc) (by unfold maxLen;simp only[List.length_cons,List.length_nil];omega) (by simp only[List.length_cons,List.length_nil];omega) (below_trans (below_trans hb BX) BY).size ?_;intro v9 w9 ho9 hg9;have ho8:w9.ownsRow W0.heap.size 62 4 v9 (k+1) (rows.flatten++[Value.int .i64 A1, .int .i64 A2, .string nm, .slice ua m.insts[k].2.2.2.length uc]):=(by simpa [htl] using ho9);obtain ⟨na,nc,rfl⟩:=own_form ho8;have K9:=Kept.own OW hg9;have stB9:=stands_kept K9 (by decide) (stB.below BY);have c29:=stB9.cell 7 _ rfl;have f29:=stB9.free 7))
      have stC:=stB9.set 7 (.slice na (k+1) nc)
      simp only[List.setIfInBounds_toArray,List.set_cons_zero,List.set_cons_succ] at stC
      have KM:=set_kept stB9 7 (.slice na (k+1) nc)
      have hx9:insO W0.heap.size ((q1.setCell ⟨wr.heap.size,3,none⟩ (.slice ua m.insts[k].2.2.2.length uc)).alloc (.cells #[.int .i64 A1, .int .i64 A2, .string nm, .slice ua m.insts[k].2.2.2.length uc] 62)) [Value.int .i64 A1, .int .i64 A2, .string nm, .slice ua m.insts[k].2.2.2.length uc] m.insts[k]:=⟨_,by rw[en,hA1,hA2],own_below (own_kept (set_kept sq 3 _) (by decide) (own_le (below_trans hb bx).size o1)) BY⟩
      have hsn:=OwnR.snoc (insO_apt (by decide)) rw1 rw2 OW (fun i hi=>insO_below BY _ _ (insO_below BX _ _ (rw4 i hi))) rfl hx9 (by rw[htl];exact ho8) hg9
      rw[←List.take_succ_eq_append_getElem hkl] at hsn
      go_roundw
      case rel=>exact ⟨k+1, .slice na (k+1) nc,by omega,by go_num,stC,own_kept KM (by decide) (own_kept K9 (by decide) (World.ownsRow.alloc (own_below oS3 BX) _)),own_kept KM (by decide) (own_kept K9 (by decide) (World.ownsRow.alloc (own_below oM3 BX) _)),OwnT8.kept (OwnT8.kept (OwnT8.below (OwnT8.below oT3 BX) BY) K9 (by decide) (by decide) (by decide) (by decide)) KM (by decide) (by decide) (by decide) (by decide),OwnR.kept (OwnR.kept (OwnR.below (OwnR.below oW3 BX (wrdO_below BX)) BY (wrdO_below BY)) K9 (by decide) (wrdO_apt (by decide))) KM (by decide) (wrdO_apt (by decide)),own_kept KM (by decide) (own_kept K9 (by decide) (World.ownsRow.alloc (own_below oC3 BX) _)),OwnR.kept hsn KM (by decide) (insO_apt (by decide)),below_set (below_grown (below_trans (below_trans hb BX) BY) hg9 (fun g hg=>(OW.lt g hg).1)) B 7 (.slice na (k+1) nc) hBw⟩
      case measure=>simp[intOf];omega
     ·have hI:OwI W0.heap.size wr vi m.insts:=by
       rw[List.take_of_length_le (by omega)] at oI3
       exact oI3
      clear oI3
      have t2:=s2.below hb
      obtain ⟨a1,c1,rfl⟩:=own_form oS3
      obtain ⟨a2,c2,rfl⟩:=own_form oM3
      obtain ⟨rW,hrW⟩:=OwnR.row oW3
      obtain ⟨a3,c3,rfl⟩:=own_form hrW
      obtain ⟨a4,c4,hV4⟩:=own_form oC3
      obtain ⟨rT,hrT⟩:=OwnR.row oT3
      obtain ⟨a5,c5,rfl⟩:=own_form hrT
      obtain ⟨rI,hrI⟩:=OwnR.row hI
      obtain ⟨a6,c6,rfl⟩:=own_form hrI
      rw[hV4] at st3 oC3
      have u0:=st3.cell 0 _ rfl
      have u1:=st3.cell 1 _ rfl
      have u2:=st3.cell 2 _ rfl
      have u3:=st3.cell 3 _ rfl
      have u4:=st3.cell 4 _ rfl
      have u5:=st3.cell 5 _ rfl
      have u6:=st3.cell 6 _ rfl
      have u7:=st3.cell 7 _ rfl
      have u8:=st3.cell 8 _ rfl
      have u9:=st3.cell 9 _ rfl
      have y0:=t2.cell 0 _ rfl
      have y1:=t2.cell 1 _ rfl
      have y2:=t2.cell 2 _ rfl
      have y3:=t2.cell 3 _ rfl
      have y4:=t2.cell 4 _ rfl
      have y5:=t2.cell 5 _ rfl
      have y6:=t2.cell 6 _ rfl
      have y7:=t2.cell 7 _ rfl
      have y8:=t2.cell 8 _ rfl
      have y9:=t2.cell 9 _ rfl
      have yf:=t2.free
      obtain ⟨k1,k2⟩:=set10 t2 (.slice a1 m.stack.length c1) (.slice a2 m.mem.length c2) (.slice a3 m.words.length c3) (.slice a4 m.codes.length c4) (.int .u32 m.base) (.slice a5 m.tree.length c5) (.int .i64 m.node) (.slice a6 m.insts.length c6) (.int .i64 m.self) (.string o)
      have K1:=hid k1
      have J1:=hid (k2 (fun u=>u.ownsRow W0.heap.size 26 1 (.slice a1 m.stack.length c1) m.stack.length (m.stack.map (Value.int .u32))) (fun u u' kk x=>own_kept kk (by decide) x) oS3)
      have J2:=hid (k2 (fun u=>u.ownsRow W0.heap.size 5 1 (.slice a2 m.mem.length c2) m.mem.length (m.mem.map (Value.int .u8))) (fun u u' kk x=>own_kept kk (by decide) x) oM3)
      have J3:=hid (k2 (fun u=>OwW W0.heap.size u (.slice a3 m.words.length c3) m.words) (fun u u' kk x=>OwnR.kept x kk (by decide) (wrdO_apt (by decide))) oW3)
      have J4:=hid (k2 (fun u=>u.ownsRow W0.heap.size 3 1 (.slice a4 m.codes.length c4) m.codes.length (m.codes.map (Value.int .i64))) (fun u u' kk x=>own_kept kk (by decide) x) oC3)
      have J5:=hid (k2 (fun u=>OwnT8 W0.heap.size u (.slice a5 m.tree.length c5) m.tree) (fun u u' kk x=>OwnT8.kept x kk (by decide) (by decide) (by decide) (by decide)) oT3)
      have J6:=hid (k2 (fun u=>OwI W0.heap.size u (.slice a6 m.insts.length c6) m.insts) (fun u u' kk x=>OwnR.kept x kk (by decide) (insO_apt (by decide))) hI)
      have J7:Hid (Below w.heap.size w _):=below_set (below_set (below_set (below_set (below_set (below_set (below_set (below_set (below_set (below_set (below_trans bw hb) (w.heap.size+1) 0 (.slice a1 m.stack.length c1) (by omega)) (w.heap.size+1) 1 (.slice a2 m.mem.length c2) (by omega)) (w.heap.size+1) 2 (.slice a3 m.words.length c3) (by omega)) (w.heap.size+1) 3 (.slice a4 m.codes.length c4) (by omega)) (w.heap.size+1) 4 (.int .u32 m.base) (by omega)) (w.heap.size+1) 5 (.slice a5 m.tree.length c5) (by omega)) (w.heap.size+1) 6 (.int .i64 m.node) (by omega)) (w.heap.size+1) 7 (.slice a6 m.insts.length c6) (by omega)) (w.heap.size+1) 8 (.int .i64 m.self) (by omega)) (w.heap.size+1) 9 (.string o) (by omega)
      have HO:=hid h.out
      have HZ:=hid bw.size
      clear k1 k2 oS3 oM3 oW3 oC3 oT3 hI hrW hrT hrI hb bw bw2 h z KB s1 s2 b7 st7 oS7 oM7 oT7 oW7 oC7 st oS oM oT
      go_wp2_with fail
      (try simp only[Exit.inBlock,Exit.then])
      refine bodyPost_ret (results_cell_row rfl _ _ (w.heap.size+1) 30 _ (0,0) _ rfl K1.out Tryz.underlying30 rfl (show _=some 10 by kernel_rfl)) rfl ?_
      exact ⟨⟨.slice a1 m.stack.length c1, .slice a2 m.mem.length c2, .slice a3 m.words.length c3, .slice a4 m.codes.length c4, .slice a5 m.tree.length c5, .slice a6 m.insts.length c6⟩,rfl,OwM.le HZ.out ⟨J1.out,J2.out,J3.out,J4.out,J5.out,J6.out,HO.out⟩,J7.out⟩
theorem results_row3 {P:Program} {fn:Func} {p a b:Tmp} {ty:TypeId} (h:fn.results=#[.cell p ty, .tmp a, .tmp b]) (tmps:Array Value) (w:World) (g:Nat) (t:TypeId) (cs:Array Value) (fr:Nat×Nat) (d:TypeDesc)
  (hp:tmps.getD p undef= .pointer (some ⟨g,0,none⟩)) (hg:w.heap[g]? =some (.cells cs t fr))
  (hu:P.underlying ty=some d) (hd:(match d with| .struct _| .array _ _=>true|_=>false)=true) (hi:(P.info? ty).map (·.size)=some cs.size):
  (results fn tmps).run P w= .ok (.tuple #[.agg cs,tmps.getD a undef,tmps.getD b undef]) w:=by
 have hp':tmps[p]?.getD undef= .pointer (some ⟨g,0,none⟩):=by simpa using hp
 simp[results,h,hp',asAddr,run_loadVar_row w g t ty cs fr d hg hu hd hi]
def nilV:Mv:=⟨.slice none 0 0, .slice none 0 0, .slice none 0 0, .slice none 0 0, .slice none 0 0, .slice none 0 0⟩
theorem own_nilM (base:Nat) (w:World):OwM base w nilV nilM ⟨#[]⟩:=
 ⟨World.ownsRow_nil _ _ _ _,World.ownsRow_nil _ _ _ _,OwnR.nil _ _ _ _ _,World.ownsRow_nil _ _ _ _,OwnR.nil _ _ _ _ _,OwnR.nil _ _ _ _ _,by decide+kernel⟩
theorem dfn_no1 {m:Mc} {x:Wd} (h:frmM m=false∨wofF x (m.words.length+1) m.tree=false):dfnF m x=(nilM,0,1):=by unfold dfnF;rw[if_pos h]
theorem dfn_no2 {m:Mc} {x:Wd} (h:¬(frmM m=false∨wofF x (m.words.length+1) m.tree=false)) (h2:640≤m.words.length):dfnF m x=(nilM,0,22):=by unfold dfnF;rw[if_neg h,if_pos h2]
theorem propO_ab {base:Nat} {w w':World} (k:Ab base w w') (cs:List Value) (x:Pp) (h:propO base w cs x):propO base w' cs x:=by
 obtain ⟨v,h1,h2⟩:=h
 exact ⟨v,h1,own_ab k h2⟩
theorem nodO_ab {base:Nat} {w w':World} (k:Ab base w w') (cs:List Value) (x:Nd) (h:nodO base w cs x):nodO base w' cs x:=by
 obtain ⟨vu,vp,vc,h1,h2,h3,h4⟩:=h
 exact ⟨vu,vp,vc,h1,own_ab k h2,h3.ab k (propO_ab k),own_ab k h4⟩
theorem wrdO_ab {base:Nat} {w w':World} (k:Ab base w w') (cs:List Value) (x:Wd) (h:wrdO base w cs x):wrdO base w' cs x:=by
 obtain ⟨v,h1,h2⟩:=h
 exact ⟨v,h1,OwnR.ab h2 k (fun _ _ q=>q)⟩
theorem insO_ab {base:Nat} {w w':World} (k:Ab base w w') (cs:List Value) (x:Iz) (h:insO base w cs x):insO base w' cs x:=by
 obtain ⟨v,h1,h2⟩:=h
 exact ⟨v,h1,own_ab k h2⟩
theorem OwM.ab {base:Nat} {w w':World} {v:Mv} {m:Mc} {o:ByteArray} (h:OwM base w v m o) (k:Ab base w w'):OwM base w' v m o:=
 ⟨own_ab k h.stack,own_ab k h.mem,OwnR.ab h.words k (wrdO_ab k),own_ab k h.codes,OwnR.ab h.tree k (nodO_ab k),OwnR.ab h.insts k (insO_ab k),h.out⟩
theorem OwO.ab {base:Nat} {w w':World} {v:Value} {l:List Opd} (h:OwO base w v l) (k:Ab base w w'):OwO base w' v l:=OwnR.ab h k (fun _ _ q=>q)
theorem OwM.grewW {base:Nat} {w w':World} {v:Mv} {m:Mc} {o:ByteArray} (h:OwM base w v m o) (k:Kept 59 w w') {vw:Value} {l:List Wd} (hw:OwW base w' vw l):OwM base w' {v with vw:=vw} {m with words:=l} o:=
 ⟨own_kept k (by decide) h.stack,own_kept k (by decide) h.mem,hw,own_kept k (by decide) h.codes,OwnR.kept h.tree k (by decide) (nodO_apt (by decide) (by decide) (by decide)),OwnR.kept h.insts k (by decide) (insO_apt (by decide)),h.out⟩
theorem OwM.kept {base:Nat} {T:TypeId} {w w':World} {v:Mv} {m:Mc} {o:ByteArray} (h:OwM base w v m o) (k:Kept T w w') (h8:¬5=T) (h32:¬26=T) (hp:¬93=T) (hn:¬91=T) (hi:¬3=T) (hw:¬59=T) (ho:¬47=T) (hx:¬62=T):OwM base w' v m o:=
 ⟨own_kept k h32 h.stack,own_kept k h8 h.mem,OwnR.kept h.words k hw (wrdO_apt ho),own_kept k hi h.codes,OwnR.kept h.tree k hn (nodO_apt h8 h32 hp),OwnR.kept h.insts k hx (insO_apt h32),h.out⟩
set_option maxHeartbeats 4000000 in
set_option maxRecDepth 100000 in
theorem w_r9define (m:Mc) (v:Mv) (o:ByteArray) (x:Wd) (nm:ByteArray) (vc:Value) (w:World) (h:RdM w v m o) (g:gdM m) (z:szM m) (en:strOfNums x.1=nm) (hc:RdO w vc x.2.2.2.2) (bx:bytesL x.1) (lx:x.1.length≤maxLen) (hu:∀y∈x.2.2.2.2,0≤y.2∧y.2 < 4294967296) (hN:0≤x.2.2.2.1∧x.2.2.2.1 < 4294967296) (hz:x.2.2.2.2.length*16≤140737488355328):
  Calls Tryz.prog 36 #[.agg (v.cs m o), .agg #[.string nm, .int .i64 x.2.1, .int .i64 x.2.2.1, .int .u32 x.2.2.2.1,vc]] w fun e w'=>∃v1 o1,e= .returned (.tuple #[.agg (Mv.cs v1 (dfnF m x).1 o1), .int .i64 (dfnF m x).2.1, .int .i64 (dfnF m x).2.2])∧OwM w.heap.size w' v1 (dfnF m x).1 o1∧Below w.heap.size w w':=by
 obtain ⟨ca,cq,rfl⟩:=slr_slice hc
 have cf:=fun W (b:Below w.heap.size w W)=>w_r9formed m v o W (h.below b) g
 have cw:=fun W (b:Below w.heap.size w W)=>w_r9wof x nm (.slice ca x.2.2.2.2.length cq) v.vt (m.words.length+1) m.tree W en (RdO.below hc b) (h.tree.below b) bx lx hu hN
 have cc:=fun W (b:Below w.heap.size w W)=>w_r9copy m v o W (h.below b) z
 have co:=fun W (b:Below w.heap.size w W)=>w_r9ops _ _ W (RdO.below hc b) hz
 have lw:=slr_len h.words uW (P:=Tryz.prog)
 have mw:=slr_max h.words
 unfold maxLen at mw
 have mw2:(m.words.length:Int)≤3000000000000:=by have:=z.words;omega
 have s0:=((stands_new w (v.cs m o) 30).below (box_below _ (.cells #[.string nm, .int .i64 x.2.1, .int .i64 x.2.2.1, .int .u32 x.2.2.2.1, .slice ca x.2.2.2.2.length cq] 59))).below (box_below _ (.cells #[.slice none 0 0, .slice none 0 0, .slice none 0 0, .slice none 0 0, .int .u32 0, .slice none 0 0, .int .i64 0, .slice none 0 0, .int .i64 0, .string ⟨#[]⟩] 30))
 have s1:=(stands_new (w.alloc (.cells (v.cs m o) 30)) #[.string nm, .int .i64 x.2.1, .int .i64 x.2.2.1, .int .u32 x.2.2.2.1, .slice ca x.2.2.2.2.length cq] 59).below (box_below _ (.cells #[.slice none 0 0, .slice none 0 0, .slice none 0 0, .slice none 0 0, .int .u32 0, .slice none 0 0, .int .i64 0, .slice none 0 0, .int .i64 0, .string ⟨#[]⟩] 30))
 have s2:=stands_new ((w.alloc (.cells (v.cs m o) 30)).alloc (.cells #[.string nm, .int .i64 x.2.1, .int .i64 x.2.2.1, .int .u32 x.2.2.2.1, .slice ca x.2.2.2.2.length cq] 59)) #[.slice none 0 0, .slice none 0 0, .slice none 0 0, .slice none 0 0, .int .u32 0, .slice none 0 0, .int .i64 0, .slice none 0 0, .int .i64 0, .string ⟨#[]⟩] 30
 rw[size_al] at s1
 rw[size_al,size_al] at s2
 have bw:=below_trans (below_trans (box_below w (.cells (v.cs m o) 30)) (box_below _ (.cells #[.string nm, .int .i64 x.2.1, .int .i64 x.2.2.1, .int .u32 x.2.2.2.1, .slice ca x.2.2.2.2.length cq] 59))) (box_below _ (.cells #[.slice none 0 0, .slice none 0 0, .slice none 0 0, .slice none 0 0, .int .u32 0, .slice none 0 0, .int .i64 0, .slice none 0 0, .int .i64 0, .string ⟨#[]⟩] 30))
 by_cases c1:frmM m=false
 ·rw[dfn_no1 (Or.inl c1)]
  simp only[c1] at cf
  go_enter Tryz.func36,Tryz.ntmps36
  go_upto_region 1 with fail
  generalize (((w.alloc (.cells (v.cs m o) 30)).alloc (.cells #[.string nm, .int .i64 x.2.1, .int .i64 x.2.2.1, .int .u32 x.2.2.2.1, .slice ca x.2.2.2.2.length cq] 59)).alloc (.cells #[.slice none 0 0, .slice none 0 0, .slice none 0 0, .slice none 0 0, .int .u32 0, .slice none 0 0, .int .i64 0, .slice none 0 0, .int .i64 0, .string ⟨#[]⟩] 30))=W0 at s0 s1 s2 bw ⊢
  have KM:=fun q (b:Below W0.heap.size W0 q)=>mch_cells (s0.below b)
  have KW:=fun q (b:Below W0.heap.size W0 q)=>s1.below b
  have KZ:=fun q (b:Below W0.heap.size W0 q)=>s2.below b
  obtain ⟨f0,f1,f2,f3,f4,f5,f6,f7,f8,f9⟩:=KM _ (Below.refl _ _)
  go_wp2_with (go_at_call 14;refine (cf _ bw).mono ?_;rintro e q1 ⟨rfl,b1⟩;obtain ⟨m0_1,m1_1,m2_1,m3_1,m4_1,m5_1,m6_1,m7_1,m8_1,m9_1⟩:=KM _ b1;have sw1:=KW _ b1;have w0_1:=sw1.cell 0 _ rfl;have w1_1:=sw1.cell 1 _ rfl;have w2_1:=sw1.cell 2 _ rfl;have w3_1:=sw1.cell 3 _ rfl;have w4_1:=sw1.cell 4 _ rfl;have sz1:=KZ _ b1;have z0_1:=sz1.cell 0 _ rfl;have z1_1:=sz1.cell 1 _ rfl;have z2_1:=sz1.cell 2 _ rfl;have z3_1:=sz1.cell 3 _ rfl;have z4_1:=sz1.cell 4 _ rfl;have z5_1:=sz1.cell 5 _ rfl;have z6_1:=sz1.cell 6 _ rfl;have z7_1:=sz1.cell 7 _ rfl;have z8_1:=sz1.cell 8 _ rfl;have z9_1:=sz1.cell 9 _ rfl;have zf1:=sz1.free)
  obtain ⟨k1,k2⟩:=set10 sz1 (.slice none 0 0) (.slice none 0 0) (.slice none 0 0) (.slice none 0 0) (.int .u32 0) (.slice none 0 0) (.int .i64 0) (.slice none 0 0) (.int .i64 0) (.string ⟨#[]⟩)
  have J7:=below_set (below_set (below_set (below_set (below_set (below_set (below_set (below_set (below_set (below_set (below_trans bw b1) (w.heap.size+1+1) 0 (.slice none 0 0) (by omega)) (w.heap.size+1+1) 1 (.slice none 0 0) (by omega)) (w.heap.size+1+1) 2 (.slice none 0 0) (by omega)) (w.heap.size+1+1) 3 (.slice none 0 0) (by omega)) (w.heap.size+1+1) 4 (.int .u32 0) (by omega)) (w.heap.size+1+1) 5 (.slice none 0 0) (by omega)) (w.heap.size+1+1) 6 (.int .i64 0) (by omega)) (w.heap.size+1+1) 7 (.slice none 0 0) (by omega)) (w.heap.size+1+1) 8 (.int .i64 0) (by omega)) (w.heap.size+1+1) 9 (.string ⟨#[]⟩) (by omega)
  (try simp only[Exit.inBlock,Exit.then])
  refine bodyPost_ret (results_row3 rfl _ _ (w.heap.size+1+1) 30 _ (0,0) _ rfl k1 Tryz.underlying30 rfl (show _=some 10 by kernel_rfl)) rfl ?_
  exact ⟨nilV,⟨#[]⟩,rfl,own_nilM _ _,J7⟩
 ·have c1t:frmM m=true:=by simpa using c1
  simp only[c1t] at cf
  by_cases c2:wofF x (m.words.length+1) m.tree=false
  ·rw[dfn_no1 (Or.inr c2)]
   simp only[c2] at cw
   go_enter Tryz.func36,Tryz.ntmps36
   go_upto_region 1 with fail
   generalize (((w.alloc (.cells (v.cs m o) 30)).alloc (.cells #[.string nm, .int .i64 x.2.1, .int .i64 x.2.2.1, .int .u32 x.2.2.2.1, .slice ca x.2.2.2.2.length cq] 59)).alloc (.cells #[.slice none 0 0, .slice none 0 0, .slice none 0 0, .slice none 0 0, .int .u32 0, .slice none 0 0, .int .i64 0, .slice none 0 0, .int .i64 0, .string ⟨#[]⟩] 30))=W0 at s0 s1 s2 bw ⊢
   have KM:=fun q (b:Below W0.heap.size W0 q)=>mch_cells (s0.below b)
   have KW:=fun q (b:Below W0.heap.size W0 q)=>s1.below b
   have KZ:=fun q (b:Below W0.heap.size W0 q)=>s2.below b
   obtain ⟨f0,f1,f2,f3,f4,f5,f6,f7,f8,f9⟩:=KM _ (Below.refl _ _)
   go_wp2_with (go_at_call 14;refine (cf _ bw).mono ?_;rintro e q1 ⟨rfl,b1⟩;obtain ⟨m0_1,m1_1,m2_1,m3_1,m4_1,m5_1,m6_1,m7_1,m8_1,m9_1⟩:=KM _ b1;have sw1:=KW _ b1;have w0_1:=sw1.cell 0 _ rfl;have w1_1:=sw1.cell 1 _ rfl;have w2_1:=sw1.cell 2 _ rfl;have w3_1:=sw1.cell 3 _ rfl;have w4_1:=sw1.cell 4 _ rfl;have sz1:=KZ _ b1;have z0_1:=sz1.cell 0 _ rfl;have z1_1:=sz1.cell 1 _ rfl;have z2_1:=sz1.cell 2 _ rfl;have z3_1:=sz1.cell 3 _ rfl;have z4_1:=sz1.cell 4 _ rfl;have z5_1:=sz1.cell 5 _ rfl;have z6_1:=sz1.cell 6 _ rfl;have z7_1:=sz1.cell 7 _ rfl;have z8_1:=sz1.cell 8 _ rfl;have z9_1:=sz1.cell 9 _ rfl;have zf1:=sz1.free)
   go_wp2_with (go_at_call 35;refine (cw _ (below_trans bw b1)).mono ?_;rintro e q2 ⟨rfl,b2⟩;have b12:=below_trans b1 b2;obtain ⟨m0_2,m1_2,m2_2,m3_2,m4_2,m5_2,m6_2,m7_2,m8_2,m9_2⟩:=KM _ b12;have sw2:=KW _ b12;have w0_2:=sw2.cell 0 _ rfl;have w1_2:=sw2.cell 1 _ rfl;have w2_2:=sw2.cell 2 _ rfl;have w3_2:=sw2.cell 3 _ rfl;have w4_2:=sw2.cell 4 _ rfl;have sz2:=KZ _ b12;have z0_2:=sz2.cell 0 _ rfl;have z1_2:=sz2.cell 1 _ rfl;have z2_2:=sz2.cell 2 _ rfl;have z3_2:=sz2.cell 3 _ rfl;have z4_2:=sz2.cell 4 _ rfl;have z5_2:=sz2.cell 5 _ rfl;have z6_2:=sz2.cell 6 _ rfl;have z7_2:=sz2.cell 7 _ rfl;have z8_2:=sz2.cell 8 _ rfl;have z9_2:=sz2.cell 9 _ rfl;have zf2:=sz2.free)
   obtain ⟨k1,k2⟩:=set10 sz2 (.slice none 0 0) (.slice none 0 0) (.slice none 0 0) (.slice none 0 0) (.int .u32 0) (.slice none 0 0) (.int .i64 0) (.slice none 0 0) (.int .i64 0) (.string ⟨#[]⟩)
   have J7:=below_set (below_set (below_set (below_set (below_set (below_set (below_set (below_set (below_set (below_set (below_trans bw b12) (w.heap.size+1+1) 0 (.slice none 0 0) (by omega)) (w.heap.size+1+1) 1 (.slice none 0 0) (by omega)) (w.heap.size+1+1) 2 (.slice none 0 0) (by omega)) (w.heap.size+1+1) 3 (.slice none 0 0) (by omega)) (w.heap.size+1+1) 4 (.int .u32 0) (by omega)) (w.heap.size+1+1) 5 (.slice none 0 0) (by omega)) (w.heap.size+1+1) 6 (.int .i64 0) (by omega)) (w.heap.size+1+1) 7 (.slice none 0 0) (by omega)) (w.heap.size+1+1) 8 (.int .i64 0) (by omega)) (w.heap.size+1+1) 9 (.string ⟨#[]⟩) (by omega)
   (try simp only[Exit.inBlock,Exit.then])
   refine bodyPost_ret (results_row3 rfl _ _ (w.heap.size+1+1) 30 _ (0,0) _ rfl k1 Tryz.underlying30 rfl (show _=some 10 by kernel_rfl)) rfl ?_
   exact ⟨nilV,⟨#[]⟩,rfl,own_nilM _ _,J7⟩
  ·have c2t:wofF x (m.words.length+1) m.tree=true:=by simpa using c2
   simp only[c2t] at cw
   have cno:¬(frmM m=false∨wofF x (m.words.length+1) m.tree=false):=by rw[c1t,c2t];simp
   by_cases c3:(640:Int)≤m.words.length
   ·rw[dfn_no2 cno (by omega)]
    go_enter Tryz.func36,Tryz.ntmps36
    go_upto_region 1 with fail
    generalize (((w.alloc (.cells (v.cs m o) 30)).alloc (.cells #[.string nm, .int .i64 x.2.1, .int .i64 x.2.2.1, .int .u32 x.2.2.2.1, .slice ca x.2.2.2.2.length cq] 59)).alloc (.cells #[.slice none 0 0, .slice none 0 0, .slice none 0 0, .slice none 0 0, .int .u32 0, .slice none 0 0, .int .i64 0, .slice none 0 0, .int .i64 0, .string ⟨#[]⟩] 30))=W0 at s0 s1 s2 bw ⊢
    have KM:=fun q (b:Below W0.heap.size W0 q)=>mch_cells (s0.below b)
    have KW:=fun q (b:Below W0.heap.size W0 q)=>s1.below b
    have KZ:=fun q (b:Below W0.heap.size W0 q)=>s2.below b
    obtain ⟨f0,f1,f2,f3,f4,f5,f6,f7,f8,f9⟩:=KM _ (Below.refl _ _)
    go_wp2_with (go_at_call 14;refine (cf _ bw).mono ?_;rintro e q1 ⟨rfl,b1⟩;obtain ⟨m0_1,m1_1,m2_1,m3_1,m4_1,m5_1,m6_1,m7_1,m8_1,m9_1⟩:=KM _ b1;have sw1:=KW _ b1;have w0_1:=sw1.cell 0 _ rfl;have w1_1:=sw1.cell 1 _ rfl;have w2_1:=sw1.cell 2 _ rfl;have w3_1:=sw1.cell 3 _ rfl;have w4_1:=sw1.cell 4 _ rfl;have sz1:=KZ _ b1;have z0_1:=sz1.cell 0 _ rfl;have z1_1:=sz1.cell 1 _ rfl;have z2_1:=sz1.cell 2 _ rfl;have z3_1:=sz1.cell 3 _ rfl;have z4_1:=sz1.cell 4 _ rfl;have z5_1:=sz1.cell 5 _ rfl;have z6_1:=sz1.cell 6 _ rfl;have z7_1:=sz1.cell 7 _ rfl;have z8_1:=sz1.cell 8 _ rfl;have z9_1:=sz1.cell 9 _ rfl;have zf1:=sz1.free)
    go_wp2_with (go_at_call 35;refine (cw _ (below_trans bw b1)).mono ?_;rintro e q2 ⟨rfl,b2⟩;have b12:=below_trans b1 b2;obtain ⟨m0_2,m1_2,m2_2,m3_2,m4_2,m5_2,m6_2,m7_2,m8_2,m9_2⟩:=KM _ b12;have sw2:=KW _ b12;have w0_2:=sw2.cell 0 _ rfl;have w1_2:=sw2.cell 1 _ rfl;have w2_2:=sw2.cell 2 _ rfl;have w3_2:=sw2.cell 3 _ rfl;have w4_2:=sw2.cell 4 _ rfl;have sz2:=KZ _ b12;have z0_2:=sz2.cell 0 _ rfl;have z1_2:=sz2.cell 1 _ rfl;have z2_2:=sz2.cell 2 _ rfl;have z3_2:=sz2.cell 3 _ rfl;have z4_2:=sz2.cell 4 _ rfl;have z5_2:=sz2.cell 5 _ rfl;have z6_2:=sz2.cell 6 _ rfl;have z7_2:=sz2.cell 7 _ rfl;have z8_2:=sz2.cell 8 _ rfl;have z9_2:=sz2.cell 9 _ rfl;have zf2:=sz2.free)
    obtain ⟨k1,k2⟩:=set10 sz2 (.slice none 0 0) (.slice none 0 0) (.slice none 0 0) (.slice none 0 0) (.int .u32 0) (.slice none 0 0) (.int .i64 0) (.slice none 0 0) (.int .i64 0) (.string ⟨#[]⟩)
    have J7:=below_set (below_set (below_set (below_set (below_set (below_set (below_set (below_set (below_set (below_set (below_trans bw b12) (w.heap.size+1+1) 0 (.slice none 0 0) (by omega)) (w.heap.size+1+1) 1 (.slice none 0 0) (by omega)) (w.heap.size+1+1) 2 (.slice none 0 0) (by omega)) (w.heap.size+1+1) 3 (.slice none 0 0) (by omega)) (w.heap.size+1+1) 4 (.int .u32 0) (by omega)) (w.heap.size+1+1) 5 (.slice none 0 0) (by omega)) (w.heap.size+1+1) 6 (.int .i64 0) (by omega)) (w.heap.size+1+1) 7 (.slice none 0 0) (by omega)) (w.heap.size+1+1) 8 (.int .i64 0) (by omega)) (w.heap.size+1+1) 9 (.string ⟨#[]⟩) (by omega)
    (try simp only[Exit.inBlock,Exit.then])
    refine bodyPost_ret (results_row3 rfl _ _ (w.heap.size+1+1) 30 _ (0,0) _ rfl k1 Tryz.underlying30 rfl (show _=some 10 by kernel_rfl)) rfl ?_
    exact ⟨nilV,⟨#[]⟩,rfl,own_nilM _ _,J7⟩
   ·have hD:dfnF m x=({m with words:=m.words++[x]},(m.words.length:Int),0):=by unfold dfnF;rw[if_neg cno,if_neg (by omega)]
    rw[hD]
    go_enter Tryz.func36,Tryz.ntmps36
    go_upto_region 1 with fail
    generalize (((w.alloc (.cells (v.cs m o) 30)).alloc (.cells #[.string nm, .int .i64 x.2.1, .int .i64 x.2.2.1, .int .u32 x.2.2.2.1, .slice ca x.2.2.2.2.length cq] 59)).alloc (.cells #[.slice none 0 0, .slice none 0 0, .slice none 0 0, .slice none 0 0, .int .u32 0, .slice none 0 0, .int .i64 0, .slice none 0 0, .int .i64 0, .string ⟨#[]⟩] 30))=W0 at s0 s1 s2 bw ⊢
    have KM:=fun q (b:Below W0.heap.size W0 q)=>mch_cells (s0.below b)
    have KW:=fun q (b:Below W0.heap.size W0 q)=>s1.below b
    have KZ:=fun q (b:Below W0.heap.size W0 q)=>s2.below b
    obtain ⟨f0,f1,f2,f3,f4,f5,f6,f7,f8,f9⟩:=KM _ (Below.refl _ _)
    go_wp2_with (go_at_call 14;refine (cf _ bw).mono ?_;rintro e q1 ⟨rfl,b1⟩;obtain ⟨m0_1,m1_1,m2_1,m3_1,m4_1,m5_1,m6_1,m7_1,m8_1,m9_1⟩:=KM _ b1;have sw1:=KW _ b1;have w0_1:=sw1.cell 0 _ rfl;have w1_1:=sw1.cell 1 _ rfl;have w2_1:=sw1.cell 2 _ rfl;have w3_1:=sw1.cell 3 _ rfl;have w4_1:=sw1.cell 4 _ rfl;have sz1:=KZ _ b1;have z0_1:=sz1.cell 0 _ rfl;have z1_1:=sz1.cell 1 _ rfl;have z2_1:=sz1.cell 2 _ rfl;have z3_1:=sz1.cell 3 _ rfl;have z4_1:=sz1.cell 4 _ rfl;have z5_1:=sz1.cell 5 _ rfl;have z6_1:=sz1.cell 6 _ rfl;have z7_1:=sz1.cell 7 _ rfl;have z8_1:=sz1.cell 8 _ rfl;have z9_1:=sz1.cell 9 _ rfl;have zf1:=sz1.free)
    go_upto_region 6 with (first|(go_at_call 35;refine (cw _ (below_trans bw b1)).mono ?_;rintro e q2 ⟨rfl,b2⟩;have b12:=below_trans b1 b2;obtain ⟨m0_2,m1_2,m2_2,m3_2,m4_2,m5_2,m6_2,m7_2,m8_2,m9_2⟩:=KM _ b12;have sw2:=KW _ b12;have w0_2:=sw2.cell 0 _ rfl;have w1_2:=sw2.cell 1 _ rfl;have w2_2:=sw2.cell 2 _ rfl;have w3_2:=sw2.cell 3 _ rfl;have w4_2:=sw2.cell 4 _ rfl;have sz2:=KZ _ b12;have z0_2:=sz2.cell 0 _ rfl;have z1_2:=sz2.cell 1 _ rfl;have z2_2:=sz2.cell 2 _ rfl;have z3_2:=sz2.cell 3 _ rfl;have z4_2:=sz2.cell 4 _ rfl;have z5_2:=sz2.cell 5 _ rfl;have z6_2:=sz2.cell 6 _ rfl;have z7_2:=sz2.cell 7 _ rfl;have z8_2:=sz2.cell 8 _ rfl;have z9_2:=sz2.cell 9 _ rfl;have zf2:=sz2.free)|(go_at_call 10;refine (cc _ (below_trans bw b12)).mono ?_;rintro e q3 ⟨v1,rfl,oM,b3⟩;obtain ⟨a0,k0,h0⟩:=own_form oM.stack;obtain ⟨a1,k1,h1⟩:=own_form oM.mem;obtain ⟨cs2,r2⟩:=oM.words.row;obtain ⟨a2,k2,h2⟩:=own_form r2;obtain ⟨a3,k3,h3⟩:=own_form oM.codes;obtain ⟨cs5,r5⟩:=oM.tree.row;obtain ⟨a5,k5,h5⟩:=own_form r5;obtain ⟨cs7,r7⟩:=oM.insts.row;obtain ⟨a7,k7,h7⟩:=own_form r7;obtain ⟨x0,x1,x2,x3,x5,x7⟩:=v1;(try dsimp only at h0 h1 h2 h3 h5 h7);subst h0 h1 h2 h3 h5 h7;simp only[Mv.cs]))
    have b13:=below_trans b12 b3
    have so:=stands_new q3 #[.slice a0 m.stack.length k0, .slice a1 m.mem.length k1,(.slice a2 m.words.length k2), .slice a3 m.codes.length k3, .int .u32 m.base, .slice a5 m.tree.length k5, .int .i64 m.node, .slice a7 m.insts.length k7, .int .i64 m.self, .string o] 30
    have bo:=box_below q3 (.cells #[.slice a0 m.stack.length k0, .slice a1 m.mem.length k1,(.slice a2 m.words.length k2), .slice a3 m.codes.length k3, .int .u32 m.base, .slice a5 m.tree.length k5, .int .i64 m.node, .slice a7 m.insts.length k7, .int .i64 m.self, .string o] 30)
    have b14:=below_trans b13 bo
    have oM4:=(OwM.le (Nat.le_trans bw.size b12.size) oM).below bo
    have hq2:W0.heap.size≤q2.heap.size:=b12.size
    have oMq:=oM.below bo
    obtain ⟨BO,hBO⟩:∃BO,q3.heap.size=BO:=⟨_,rfl⟩
    have hBq:q2.heap.size≤BO:=by rw[←hBO];exact b3.size
    rw[hBO] at so
    simp only[hBO]
    generalize q3.alloc (.cells #[.slice a0 m.stack.length k0, .slice a1 m.mem.length k1,(.slice a2 m.words.length k2), .slice a3 m.codes.length k3, .int .u32 m.base, .slice a5 m.tree.length k5, .int .i64 m.node, .slice a7 m.insts.length k7, .int .i64 m.self, .string o] 30)=q4 at so bo b14 oM4 oMq ⊢
    have sm4:=s0.below b14
    have sw4:=KW _ b14
    have sz4:=KZ _ b14
    have w4_4:=sw4.cell 4 _ rfl
    have hW0:w.heap.size+1+1 < W0.heap.size:=(Array.getElem?_eq_some_iff.1 s2).1
    go_upto_region 7 with (go_at_call 25;refine (co _ (below_trans bw b14)).mono ?_;rintro e q5 ⟨vO,rfl,oO,b5⟩;obtain ⟨csO,rO⟩:=oO.row;obtain ⟨ao,ko,rfl⟩:=own_form rO;have sw5:=sw4.below b5;have y4:=sw5.cell 4 _ rfl;have yf:=sw5.free 4)
    have ab6:Ab q2.heap.size q5 (q5.setCell ⟨w.heap.size+1,4,none⟩ (.slice ao x.2.2.2.2.length ko)):=ab_set _ _ _ _ (by omega)
    have sw6:=sw5.set 4 (.slice ao x.2.2.2.2.length ko)
    have so6:=(so.below b5).other (b':=w.heap.size+1) 4 (.slice ao x.2.2.2.2.length ko) (by omega)
    have sm6:=(sm4.below b5).other (b':=w.heap.size+1) 4 (.slice ao x.2.2.2.2.length ko) (by omega)
    have sz6:=(sz4.below b5).other (b':=w.heap.size+1) 4 (.slice ao x.2.2.2.2.length ko) (by omega)
    have oM6:=(oMq.below b5).ab ab6
    have hq4:q2.heap.size≤q4.heap.size:=Nat.le_trans b3.size bo.size
    have oO6:=OwO.ab (OwO.le hq4 oO) ab6
    have B6:=below_set (below_trans (below_trans bw b14) b5) (w.heap.size+1) 4 (.slice ao x.2.2.2.2.length ko) (by omega)
    have hq5:q2.heap.size≤(q5.setCell ⟨w.heap.size+1,4,none⟩ (.slice ao x.2.2.2.2.length ko)).heap.size:=by have:=b5.size;simp only[World.setCell,Array.size_modify];omega
    generalize q5.setCell ⟨w.heap.size+1,4,none⟩ (.slice ao x.2.2.2.2.length ko)=q6 at ab6 sw6 so6 sm6 sz6 oM6 oO6 B6 hq5 ⊢
    have u2:=so6.cell 2 _ rfl
    have t0:=sw6.cell 0 _ rfl
    have t1:=sw6.cell 1 _ rfl
    have t2:=sw6.cell 2 _ rfl
    have t3:=sw6.cell 3 _ rfl
    have t4:=sw6.cell 4 _ rfl
    have bX:=box_below q6 (.cells #[.string nm, .int .i64 x.2.1, .int .i64 x.2.2.1, .int .u32 x.2.2.2.1, .slice ao x.2.2.2.2.length ko] 59)
    obtain ⟨rows,p1,p2,p3,p4⟩:=OwnR.below oM6.words bX (wrdO_below bX)
    have hx:wrdO q2.heap.size (q6.alloc (.cells #[.string nm, .int .i64 x.2.1, .int .i64 x.2.2.1, .int .u32 x.2.2.2.1, .slice ao x.2.2.2.2.length ko] 59)) [Value.string nm, .int .i64 x.2.1, .int .i64 x.2.2.1, .int .u32 x.2.2.2.1, .slice ao x.2.2.2.2.length ko] x:=⟨_,by rw[en],oO6.below bX⟩
    have P1:=hid p1
    have P2:=hid p2
    have P4:=hid p4
    have HX:=hid hx
    have OM6:=hid oM6
    obtain ⟨i9,hi9,hz9,hz8,hz7⟩:=info_parts infoWd
    have one:∀r∈[[Value.string nm, .int .i64 x.2.1, .int .i64 x.2.2.1, .int .u32 x.2.2.2.1, .slice ao x.2.2.2.2.length ko]],∀u∈r,u.oneCell'=true:=fun r hr u hu=>by rw[List.mem_singleton] at hr;subst hr;simp at hu;rcases hu with rfl|rfl|rfl|rfl|rfl <;> rfl
    clear p1 p2 p4 hx oM6 y4 yf oO6 oM4 oMq oM oO
    go_upto_region 8 with (at_builtin;refine wpList_append_rows rfl _ _ 24 rfl q2.heap.size 59 i9 _ 5 64 Tryz.underlying24 hi9 hz9 hz8 hz7 rfl (by decide) _ m.words.length _ rfl p3 _ [[Value.string nm, .int .i64 x.2.1, .int .i64 x.2.2.1, .int .u32 x.2.2.2.1, .slice ao x.2.2.2.2.length ko]] rfl (slc_one q6 [Value.string nm, .int .i64 x.2.1, .int .i64 x.2.2.1, .int .u32 x.2.2.2.1, .slice ao x.2.2.2.2.length ko] 59 5 rfl) one (by unfold maxLen;simp only[List.length_singleton];omega) (by simp only[List.length_singleton];omega) (Nat.le_trans hq5 bX.size) ?_;intro v9 w9 ho9 hg9;obtain ⟨a9,c9,rfl⟩:=own_form ho9;have so9:=Stands.grown (so6.below bX) hg9 (stands_apart (so6.below bX) p3 (by decide));have y2:=so9.cell 2 _ rfl;have yg:=so9.free 2)
    have kW:=Kept.own p3 hg9
    have sm9:=(Stands.grown (sm6.below bX) hg9 (stands_apart (sm6.below bX) p3 (by decide))).other (b':=BO) 2 (.slice a9 (m.words.length+[[Value.string nm, .int .i64 x.2.1, .int .i64 x.2.2.1, .int .u32 x.2.2.2.1, .slice ao x.2.2.2.2.length ko]].length) c9) (by omega)
    have sz9:=(Stands.grown (sz6.below bX) hg9 (stands_apart (sz6.below bX) p3 (by decide))).other (b':=BO) 2 (.slice a9 (m.words.length+[[Value.string nm, .int .i64 x.2.1, .int .i64 x.2.2.1, .int .u32 x.2.2.2.1, .slice ao x.2.2.2.2.length ko]].length) c9) (by omega)
    have oM9:=OwM.grewW (OM6.out.below bX) kW (OwnR.snoc (e:=59) (wrdO_apt (by decide)) P1.out P2.out p3 P4.out rfl HX.out (by simpa using ho9) hg9)
    have oMF:=OwM.le (Nat.le_trans bw.size b12.size) (oM9.kept (set_kept so9 2 (.slice a9 (m.words.length+[[Value.string nm, .int .i64 x.2.1, .int .i64 x.2.2.1, .int .u32 x.2.2.2.1, .slice ao x.2.2.2.2.length ko]].length) c9)) (by decide) (by decide) (by decide) (by decide) (by decide) (by decide) (by decide) (by decide))
    have soF:=so9.set 2 (.slice a9 (m.words.length+[[Value.string nm, .int .i64 x.2.1, .int .i64 x.2.2.1, .int .u32 x.2.2.2.1, .slice ao x.2.2.2.2.length ko]].length) c9)
    have BF:=below_set (below_grown (below_trans B6 bX) hg9 (fun q hq=>Nat.le_trans (Nat.le_trans bw.size b12.size) (p3.lt q hq).1)) BO 2 (.slice a9 (m.words.length+[[Value.string nm, .int .i64 x.2.1, .int .i64 x.2.2.1, .int .u32 x.2.2.2.1, .slice ao x.2.2.2.2.length ko]].length) c9) (by omega)
    generalize w9.setCell ⟨BO,2,none⟩ (.slice a9 (m.words.length+[[Value.string nm, .int .i64 x.2.1, .int .i64 x.2.2.1, .int .u32 x.2.2.2.1, .slice ao x.2.2.2.2.length ko]].length) c9)=q9 at sm9 sz9 oMF soF BF ⊢
    have soF:Stands q9 BO #[.slice a0 m.stack.length k0, .slice a1 m.mem.length k1,(.slice a9 (m.words.length+1) c9), .slice a3 m.codes.length k3, .int .u32 m.base, .slice a5 m.tree.length k5, .int .i64 m.node, .slice a7 m.insts.length k7, .int .i64 m.self, .string o] 30:=soF
    have u0:=soF.cell 0 _ rfl
    have u1:=soF.cell 1 _ rfl
    have u2:=soF.cell 2 _ rfl
    have u3:=soF.cell 3 _ rfl
    have u4:=soF.cell 4 _ rfl
    have u5:=soF.cell 5 _ rfl
    have u6:=soF.cell 6 _ rfl
    have u7:=soF.cell 7 _ rfl
    have u8:=soF.cell 8 _ rfl
    have u9:=soF.cell 9 _ rfl
    obtain ⟨f0',f1',f2',f3',f4',f5',f6',f7',f8',f9'⟩:=mch_cells sm9
    have z0:=sz9.cell 0 _ rfl
    have z1:=sz9.cell 1 _ rfl
    have z2:=sz9.cell 2 _ rfl
    have z3:=sz9.cell 3 _ rfl
    have z4:=sz9.cell 4 _ rfl
    have z5:=sz9.cell 5 _ rfl
    have z6:=sz9.cell 6 _ rfl
    have z7:=sz9.cell 7 _ rfl
    have z8:=sz9.cell 8 _ rfl
    have z9:=sz9.cell 9 _ rfl
    have zf:=sz9.free
    obtain ⟨g1,g2⟩:=set10 sz9 (.slice a0 m.stack.length k0) (.slice a1 m.mem.length k1) (.slice a9 (m.words.length+1) c9) (.slice a3 m.codes.length k3) (.int .u32 m.base) (.slice a5 m.tree.length k5) (.int .i64 m.node) (.slice a7 m.insts.length k7) (.int .i64 m.self) (.string o)
    have G1:=hid g1
    have GM:=hid (g2 (fun u=>OwM w.heap.size u ⟨.slice a0 m.stack.length k0, .slice a1 m.mem.length k1,(.slice a9 (m.words.length+1) c9), .slice a3 m.codes.length k3, .slice a5 m.tree.length k5, .slice a7 m.insts.length k7⟩ {m with words:=m.words++[x]} o) (fun u u' kk q=>q.kept kk (by decide) (by decide) (by decide) (by decide) (by decide) (by decide) (by decide) (by decide)) oMF)
    have J7:Hid (Below w.heap.size w _):=below_set (below_set (below_set (below_set (below_set (below_set (below_set (below_set (below_set (below_set (BF) (w.heap.size+1+1) 0 (.slice a0 m.stack.length k0) (by omega)) (w.heap.size+1+1) 1 (.slice a1 m.mem.length k1) (by omega)) (w.heap.size+1+1) 2 (.slice a9 (m.words.length+1) c9) (by omega)) (w.heap.size+1+1) 3 (.slice a3 m.codes.length k3) (by omega)) (w.heap.size+1+1) 4 (.int .u32 m.base) (by omega)) (w.heap.size+1+1) 5 (.slice a5 m.tree.length k5) (by omega)) (w.heap.size+1+1) 6 (.int .i64 m.node) (by omega)) (w.heap.size+1+1) 7 (.slice a7 m.insts.length k7) (by omega)) (w.heap.size+1+1) 8 (.int .i64 m.self) (by omega)) (w.heap.size+1+1) 9 (.string o) (by omega)
    clear g1 g2 oMF BF KM KW KZ cf cw cc co sm9 sz9 soF p3 ho9 hg9 kW oM9 so9 y2 yg
    go_region
    all_goals (
     go_wp2_with fail
     (try simp only[Exit.inBlock,Exit.then])
     refine bodyPost_ret (results_row3 rfl _ _ (w.heap.size+1+1) 30 _ (0,0) _ rfl (G1.out.below (below_drewN (Below.refl _ _) 1)) Tryz.underlying30 rfl (show _=some 10 by kernel_rfl)) rfl ?_
     exact ⟨⟨.slice a0 m.stack.length k0, .slice a1 m.mem.length k1,(.slice a9 (m.words.length+1) c9), .slice a3 m.codes.length k3, .slice a5 m.tree.length k5, .slice a7 m.insts.length k7⟩,o,rfl,GM.out.below (below_drewN (Below.refl _ _) 1),below_drewN J7.out 1⟩)
theorem cs_one (v:Mv) (m:Mc) (o:ByteArray) (h:v.vs.oneCell'=true∧v.vm.oneCell'=true∧v.vw.oneCell'=true∧v.vc.oneCell'=true∧v.vt.oneCell'=true∧v.vi.oneCell'=true):(v.cs m o).all (·.oneCell')=true:=by
 obtain ⟨h0,h1,h2,h3,h4,h5⟩:=h
 simp[Mv.cs,h0,h1,h2,h3,h4,h5,show (Value.int .u32 m.base).oneCell'=true from rfl,show (Value.int .i64 m.node).oneCell'=true from rfl,show (Value.int .i64 m.self).oneCell'=true from rfl,show (Value.string o).oneCell'=true from rfl]
theorem rdm_one {w:World} {v:Mv} {m:Mc} {o:ByteArray} (h:RdM w v m o):(v.cs m o).all (·.oneCell')=true:=by
 obtain ⟨hs,hm,hw,hc,ht,hi,ho⟩:=h
 obtain ⟨vs,vm,vw,vc,vt,vi⟩:=v
 simp only at hs hm hw hc ht hi
 obtain ⟨_,_,rfl⟩:=rd_slice hs
 obtain ⟨_,_,rfl⟩:=rd_slice hm
 obtain ⟨_,_,rfl⟩:=slr_slice hw
 obtain ⟨_,_,rfl⟩:=rd_slice hc
 obtain ⟨_,_,rfl⟩:=slr_slice ht
 obtain ⟨_,_,rfl⟩:=slr_slice hi
 exact cs_one _ _ _ ⟨rfl,rfl,rfl,rfl,rfl,rfl⟩
theorem wpList_buildT {P:Program} {ops:Array Oper} {rest:List Oper} {o:Oper} {a:Act} {w:World} {Q:Exit→Act→World→Prop} (hg:o.guard=none) (t:TypeId) (parts:Array (Nat×Operand)) (ho:o.op= .build t parts) (cs:Array Value)
  (hb:P.built t (parts.map fun (i,x)=>(i,a.eval x)).toList=some cs) (h:wpList P ops Q rest (a.put o.dst (.agg cs)) w):wpList P ops Q (o::rest) a w:=
 wpList_build hg t parts ho (by rw[hb];rfl) (by rw[hb];exact h)
theorem gb_row (w:World) (g:Nat) (R:Array Value):w.grownBy (w.setRow g R) (some g):=
 ⟨rfl,rfl,rfl,by simp[World.setRow],fun k hk hne=>by
  have:¬k=g:=fun e=>hne (by rw[e])
  simp[World.setRow,Array.getElem?_modify,Ne.symm this]⟩
theorem infoMz:(Tryz.prog.info? 30).map (·.size)=some 10:=by kernel_rfl
def zM10:Array Value:=#[.slice none 0 0, .slice none 0 0, .slice none 0 0, .slice none 0 0, .int .u32 0, .slice none 0 0, .int .i64 0, .slice none 0 0, .int .i64 0, .string ⟨#[]⟩]
set_option maxHeartbeats 4000000 in
theorem w_colon11 (m:Mc) (v:Mv) (o:ByteArray) (l:List Opd) (vc:Value) (w:World) (h:RdM w v m o) (g:gdM m) (z:szM m) (hc:RdO w vc l) (hu:∀y∈l,0≤y.2∧y.2 < 4294967296) (hz:l.length*16≤140737488355328) (A:Mc) (k:Int) (hd:dfnF m ([], -1,2,0,l)=(A,k,0)):
  Calls Tryz.prog 17 #[.agg (v.cs m o),vc] w fun e w'=>∃v1 o1,e= .returned (.tuple #[.agg (Mv.cs v1 A o1), .int .i64 k])∧OwM w.heap.size w' v1 A o1∧Below w.heap.size w w':=by
 obtain ⟨ca,cq,rfl⟩:=slr_slice hc
 have cD:=fun W (b:Below w.heap.size w W)=>w_r9define m v o ([], -1,2,0,l) ⟨#[]⟩ (.slice ca l.length cq) W (h.below b) g z rfl (RdO.below hc b) (fun x hx=>by simp at hx) (by simp[maxLen]) hu (by simp) hz
 rw[hd] at cD
 dsimp only at cD
 obtain ⟨U,hU⟩:∃U,v.cs m o=U:=⟨_,rfl⟩
 have hUs:U.size=10:=by rw[←hU];rfl
 obtain ⟨s0,s1,bw⟩:=two_boxes w (v.cs m o) zM10 30
 rw[hU] at s0 s1 bw
 simp only[zM10] at s0 s1 bw
 simp only[hU] at cD
 rw[hU]
 have CD:=hid cD
 have HU:=hid hUs
 clear cD hd hU h g z hc hu hz hUs
 go_enter Tryz.func17,Tryz.ntmps17
 go_upto_region 1 with fail
 have hn0:¬w.heap.size=w.heap.size+1:=by omega
 generalize (w.alloc (.cells U 30)).alloc (.cells #[.slice none 0 0, .slice none 0 0, .slice none 0 0, .slice none 0 0, .int .u32 0, .slice none 0 0, .int .i64 0, .slice none 0 0, .int .i64 0, .string ⟨#[]⟩] 30)=W0 at s0 s1 bw ⊢
 have S0:=hid s0
 have S1:=hid s1
 have BB:=hid bw
 clear s0 s1 bw
 refine wp_region_lit ?_
 refine wpList_load_row rfl 30 (.tmp 2) rfl w.heap.size rfl 30 _ (0,0) _ S0.out Tryz.underlying30 rfl (by rw[HU.out];exact infoMz) ?_
 iterate 3 go_step
 refine wpList_buildT rfl 59 _ rfl #[.string ⟨#[]⟩, .int .i64 (-1), .int .i64 2, .int .u32 0, .slice ca l.length cq] (by kernel_rfl) ?_
 go_step
 go_step
 refine (CD.out _ BB.out).mono ?_
 rintro e w2 ⟨v2,o2,rfl,ow2,b2⟩
 have r2:=ow2.read
 have one:=rdm_one r2
 obtain ⟨R,hR⟩:∃R,Mv.cs v2 A o2=R:=⟨_,rfl⟩
 have hRs:R.size=10:=by rw[←hR];rfl
 rw[hR] at one
 simp only[hR]
 have HR:=hid (And.intro hR (And.intro (OwM.le BB.out.size ow2) (And.intro b2 (And.intro hRs one))))
 clear hR ow2 r2 b2 hRs one
 go_step
 iterate 15 go_step
 refine wpList_store_row rfl 30 (.tmp 6) (.tmp 14) rfl w2.heap.size R rfl rfl 30 _ (stands_new w2 _ _) (by rw[HR.out.2.2.2.1];exact infoMz) (by rw[HR.out.2.2.2.1];rfl) HR.out.2.2.2.2 ?_
 have s3:Stands _ w2.heap.size R 30:=setRow_heap _ w2.heap.size _ R 30 (0,0) (stands_new w2 #[.slice none 0 0, .slice none 0 0, .slice none 0 0, .slice none 0 0, .int .u32 0, .slice none 0 0, .int .i64 0, .slice none 0 0, .int .i64 0, .string ⟨#[]⟩] 30)
 have b3:Below w2.heap.size w2 _:=below_setRow (box_below w2 (.cells #[.slice none 0 0, .slice none 0 0, .slice none 0 0, .slice none 0 0, .int .u32 0, .slice none 0 0, .int .i64 0, .slice none 0 0, .int .i64 0, .string ⟨#[]⟩] 30)) (Nat.le_refl _) R
 generalize (w2.alloc (.cells #[.slice none 0 0, .slice none 0 0, .slice none 0 0, .slice none 0 0, .int .u32 0, .slice none 0 0, .int .i64 0, .slice none 0 0, .int .i64 0, .string ⟨#[]⟩] 30)).setRow w2.heap.size R=w3 at s3 b3 ⊢
 have t3:=(S1.out.below HR.out.2.2.1).below b3
 have r3:=HR.out.2.1.below b3
 have bl3:=below_trans (below_trans BB.out HR.out.2.2.1) b3
 have hlt:w.heap.size+1 < w2.heap.size:=Nat.lt_of_lt_of_le (Array.getElem?_eq_some_iff.1 S1.out).1 HR.out.2.2.1.size
 have H3:=hid (And.intro s3 (And.intro t3 (And.intro r3 (And.intro bl3 hlt))))
 clear s3 t3 r3 bl3 hlt b3
 go_upto_region 4 with fail
 refine wp_region_lit ?_
 refine wpList_load_row rfl 30 (.tmp 6) rfl w2.heap.size rfl 30 _ (0,0) _ H3.out.1 Tryz.underlying30 rfl (by rw[HR.out.2.2.2.1];exact infoMz) ?_
 iterate 3 go_step
 refine wpList_store_row rfl 30 (.tmp 4) (.tmp 20) rfl (w.heap.size+1) R rfl rfl 30 _ H3.out.2.1 (by rw[HR.out.2.2.2.1];exact infoMz) (by rw[HR.out.2.2.2.1];rfl) HR.out.2.2.2.2 ?_
 have s4:Stands _ (w.heap.size+1) R 30:=setRow_heap _ (w.heap.size+1) _ R 30 (0,0) H3.out.2.1
 have b4:Below w.heap.size w _:=below_setRow H3.out.2.2.2.1 (Nat.le_succ _) R
 have k4:Kept 30 w3 (w3.setRow (w.heap.size+1) R):=Kept.stands H3.out.2.1 (gb_row _ _ _)
 have r4:=H3.out.2.2.1.kept k4 (by decide) (by decide) (by decide) (by decide) (by decide) (by decide) (by decide) (by decide)
 generalize w3.setRow (w.heap.size+1) R=w4 at s4 b4 r4 ⊢
 have H4:=hid (And.intro s4 (And.intro b4 r4))
 clear s4 b4 r4 k4
 go_wp2_with fail
 refine bodyPost_ret (res_row2 rfl _ _ (w.heap.size+1) 30 _ (0,0) _ rfl H4.out.1 Tryz.underlying30 rfl (by rw[HR.out.2.2.2.1];exact infoMz)) rfl ?_
 exact ⟨v2,o2,by rw[HR.out.1];rfl,H4.out.2.2,H4.out.2.1⟩
set_option maxHeartbeats 1000000 in
theorem w_r8new (w:World):Calls Tryz.prog 37 #[] w fun e w'=>∃v,e= .returned v∧OwnT8 w.heap.size w' v [([],[], -1,[],[])]∧Below w.heap.size w w':=by
 go_enter Tryz.func37,Tryz.ntmps37
 go_wp2_with fail
 go_ret
 refine ⟨_,rfl, ?_,box_below _ _⟩
 refine ⟨[[.string ⟨#[]⟩, .slice none 0 0, .int .i64 (-1), .slice none 0 0, .slice none 0 0]],rfl,by simp,⟨rfl,Or.inr ⟨w.heap.size,1,#[.string ⟨#[]⟩, .slice none 0 0, .int .i64 (-1), .slice none 0 0, .slice none 0 0],rfl,Nat.le_refl _,heap_alloc_new w _,Nat.le_refl _,by decide,rfl,rfl⟩⟩,fun i hi=> ?_⟩
 have:i=0:=by simp at hi;omega
 subst this
 exact ⟨_,_,_,rfl,World.ownsRow_nil _ _ _ _,OwnR.nil _ _ _ _ _,World.ownsRow_nil _ _ _ _⟩
theorem prmV_len:∀r∈prmL.map prmV,r.length=2:=by
 intro r hr
 obtain ⟨p,_,rfl⟩:=List.mem_map.1 hr
 rfl
theorem prm_own (w:World):OwnR 83 2 prmR w.heap.size (w.alloc (.cells (prmL.map prmV).flatten.toArray 83)) (.slice (some ⟨w.heap.size,0,none⟩) 111 111) prmL:=by
 have hl:(prmL.map prmV).flatten.length=111*2:=by rw[flat_len _ 2 prmV_len,List.length_map,prm_len]
 refine ⟨prmL.map prmV,by simp,prmV_len,⟨by rw[hl,prm_len],Or.inr ⟨w.heap.size,111,(prmL.map prmV).flatten.toArray,by rw[prm_len],Nat.le_refl _,heap_alloc_new w _,by rw[prm_len];exact Nat.le_refl _,by unfold maxLen;omega,by simpa using hl, ?_⟩⟩,fun i hi=> ?_⟩
 ·rw[prm_len]
  exact List.take_of_length_le (by simpa using Nat.le_of_eq hl)
 ·rw[List.getD_eq_getElem?_getD,List.getElem?_map,List.getElem?_eq_getElem hi]
  rfl
theorem prm_codes:prmL.all (fun p=>decide (0≤p.2∧p.2 < 65536))=true:=by decide+kernel
theorem wrap_u32 (c:Int) (h0:0≤c) (h1:c < 65536):IntKind.u32.wrap c=c:=by
 simp[IntKind.wrap,IntKind.bits,IntKind.signed]
 omega
set_option maxHeartbeats 20000000 in
set_option maxRecDepth 1000000 in
theorem w_r9primsO (w:World):
  Calls Tryz.prog 30 #[] w fun e w'=>∃v,e= .returned v∧OwnR 83 2 prmR w.heap.size w' v prmL∧Below w.heap.size w w':=by
 go_enter Tryz.func30,Tryz.ntmps30
 refine wp_seq (wp_region_list (wpList_runL _ _ _ _ _ rfl ?_))
 simp only[Exit.then]
 refine wp_seq (wp_region_runL (t:=0) (v:= .slice (some ⟨w.heap.size,0,none⟩) 111 111) (w':=w.alloc (.cells (prmL.map prmV).flatten.toArray 83)) (by kernel_rfl) ?_)
 intro a' h1 h2
 simp only[Exit.then]
 refine wp_ret ?_
 refine bodyPost_ret (results_tmp rfl _ _ _) h2 ?_
 rw[h1]
 exact ⟨_,rfl,prm_own w,box_below w _⟩
set_option maxHeartbeats 4000000 in
set_option maxRecDepth 100000 in
theorem w_r9new (w:World):Calls Tryz.prog 18 #[] w fun e w'=>∃v,e= .returned (.agg (Mv.cs v newM ⟨#[]⟩))∧OwM w.heap.size w' v newM ⟨#[]⟩∧Below w.heap.size w w':=by
 obtain ⟨i9,hi9,hz9,hz8,hz7⟩:=info_parts infoWd
 have bz:=box_below w (.cells #[.slice none 0 0, .slice none 0 0, .slice none 0 0, .slice none 0 0, .int .u32 0, .slice none 0 0, .int .i64 0, .slice none 0 0, .int .i64 0, .string ⟨#[]⟩] 30)
 have sz0:=stands_new w #[.slice none 0 0, .slice none 0 0, .slice none 0 0, .slice none 0 0, .int .u32 0, .slice none 0 0, .int .i64 0, .slice none 0 0, .int .i64 0, .string ⟨#[]⟩] 30
 have cn:=fun W=>w_r8new W
 have cp:=fun W=>w_r9primsO W
 go_enter Tryz.func18,Tryz.ntmps18
 go_upto_region 1 with fail
 generalize w.alloc (.cells #[.slice none 0 0, .slice none 0 0, .slice none 0 0, .slice none 0 0, .int .u32 0, .slice none 0 0, .int .i64 0, .slice none 0 0, .int .i64 0, .string ⟨#[]⟩] 30)=W0 at bz sz0 ⊢
 go_upto_region 2 with (go_at_call 37;refine (cn _).mono ?_;rintro e w1 ⟨vT,rfl,oT,b1⟩;obtain ⟨csT,oTr⟩:=oT.row;obtain ⟨ta,tc,rfl⟩:=own_form oTr)
 have sm:=stands_new w1 #[.slice none 0 0, .slice none 0 0, .slice none 0 0, .slice none 0 0, .int .u32 16, .slice ta 1 tc, .int .i64 (-1), .slice none 0 0, .int .i64 (-1), .string ⟨#[]⟩] 30
 have bm:=box_below w1 (.cells #[.slice none 0 0, .slice none 0 0, .slice none 0 0, .slice none 0 0, .int .u32 16, .slice ta 1 tc, .int .i64 (-1), .slice none 0 0, .int .i64 (-1), .string ⟨#[]⟩] 30)
 have b01:=below_trans b1 bm
 have szm:=sz0.below b01
 have oT2:=OwnT8.below oT bm
 obtain ⟨B,hB⟩:∃B,w1.heap.size=B:=⟨_,rfl⟩
 have hBW:W0.heap.size≤B:=by rw[←hB];exact b1.size
 have hw0:w.heap.size < W0.heap.size:=(Array.getElem?_eq_some_iff.1 sz0).1
 rw[hB] at sm
 simp only[List.length_singleton] at sm bm szm b01 oT2 ⊢
 simp only[hB]
 generalize w1.alloc (.cells #[.slice none 0 0, .slice none 0 0, .slice none 0 0, .slice none 0 0, .int .u32 16, .slice ta 1 tc, .int .i64 (-1), .slice none 0 0, .int .i64 (-1), .string ⟨#[]⟩] 30)=w2 at sm bm szm b01 oT2 ⊢
 have hB2:B < w2.heap.size:=by
  have:=Array.getElem?_eq_some_iff.1 sm
  exact this.1
 go_wp2_with (go_at_call 30;refine (cp _).mono ?_;rintro e w3 ⟨vl,rfl,oL,b3⟩)
 have hll:=slr_len (oL.read (R:=prmR) (by decide) (fun _ _ q=>q)) uM (P:=Tryz.prog)
 rw[prm_len] at hll
 have W2L:=b01.size
 go_loopw [3] (fun I wx=>∃(i:Nat) (vw:Value),(i:Int)≤111∧I= .int .i64 i∧Stands wx B #[.slice none 0 0, .slice none 0 0,vw, .slice none 0 0, .int .u32 16, .slice ta 1 tc, .int .i64 (-1), .slice none 0 0, .int .i64 (-1), .string ⟨#[]⟩] 30∧Stands wx w.heap.size #[.slice none 0 0, .slice none 0 0, .slice none 0 0, .slice none 0 0, .int .u32 0, .slice none 0 0, .int .i64 0, .slice none 0 0, .int .i64 0, .string ⟨#[]⟩] 30∧OwW w2.heap.size wx vw ((prmL.take i).map prmW)∧OwnR 83 2 prmR w2.heap.size wx vl prmL∧OwnT8 W0.heap.size wx (.slice ta 1 tc) [([],[], -1,[],[])]∧Below W0.heap.size W0 wx) (fun I _=>(111 - intOf I).toNat)
 case atStart=>exact ⟨0, .slice none 0 0,by omega,rfl,sm.below b3,szm.below b3,OwnR.nil _ _ _ _ _,oL,oT2.below b3,below_trans b01 b3⟩
 case round=>
  clear cn cp oL b3 oT2 szm sm oT oTr
  obtain ⟨i,vw,hi,rfl,st,sz,oW,oL,oT,hb⟩:=hrel
  have hb0:=below_trans bz hb
  by_cases hlt:(i:Int) < 111
  ·have hil:i < prmL.length:=by rw[prm_len];omega
   obtain ⟨bp,op,nm,rp,p0,p1,en⟩:=prm_cell (oL.read (R:=prmR) (by decide) (fun _ _ q=>q)) i hil
   have hcd:=List.all_eq_true.1 prm_codes _ (List.getElem_mem hil)
   rw[decide_eq_true_eq] at hcd
   obtain ⟨c,hc⟩:∃c,prmL[i].2=c:=⟨_,rfl⟩
   rw[hc] at p1 hcd
   have hwr:=wrap_u32 c hcd.1 hcd.2
   have hrow:prmW prmL[i]=(prmL[i].1, -1,1,c,[]):=by unfold prmW;rw[hc]
   have htk:(prmL.take (i+1)).map prmW=(prmL.take i).map prmW++[prmW prmL[i]]:=by rw[List.take_succ_eq_append_getElem hil,List.map_append];rfl
   have hlw:((prmL.take i).map prmW).length=i:=by rw[List.length_map,List.length_take];omega
   obtain ⟨csW,oWr⟩:=oW.row
   obtain ⟨wa,wc,rfl⟩:=own_form oWr
   rw[hlw] at st oW oWr
   have PB:Hid (∀W,Below wr.heap.size wr W→W.cell? ⟨bp,op,none⟩=some (.string nm)∧W.cell? ⟨bp,op+1,none⟩=some (.int .i64 c)):=fun W g=>⟨below_cell g p0,below_cell g p1⟩
   have ST:Hid (∀W,Below wr.heap.size wr W→Stands W B #[.slice none 0 0, .slice none 0 0, .slice wa i wc, .slice none 0 0, .int .u32 16, .slice ta 1 tc, .int .i64 (-1), .slice none 0 0, .int .i64 (-1), .string ⟨#[]⟩] 30):=fun W g=>st.below g
   have hrd:Hid (Below wr.heap.size wr wr.drew):=below_drewN (Below.refl _ _) 1
   have OW:=hid oW
   have OL:=hid oL
   have OT:=hid oT
   have SZ:=hid sz
   have HB:=hid hb
   have PC:Hid (∀W,OwnR 83 2 prmR w2.heap.size W vl prmL→W.cell? ⟨bp,op,none⟩=some (.string nm)∧W.cell? ⟨bp,op+1,none⟩=some (.int .i64 c)):=by
    show ∀W,_
    intro W q
    obtain ⟨bq,oq,nq,rq,q0,q1,eq⟩:=prm_cell (q.read (R:=prmR) (by decide) (fun _ _ q=>q)) i hil
    have e:=(rq W).symm.trans (rp W)
    simp at e
    obtain ⟨rfl,rfl⟩:=e
    rw[hc] at q1
    rw[show nm=nq by rw[←en,eq]]
    exact ⟨q0,q1⟩
   have EN:=hid en
   have HROW:=hid hrow
   have HTK:=hid htk
   clear st sz oW oL oT hb p0 p1 htk hrow hc en hb0
   go_wp2_with fail
   have hwL:w2.heap.size≤wr.heap.size:=by
    obtain ⟨csL,oLr⟩:=OL.out.row
    rcases oLr.2 with ⟨_,h0⟩|⟨gL,cL,curL,hvL,hgL,hxL,_⟩
    ·rw[prm_len] at h0
     omega
    ·have:=(Array.getElem?_eq_some_iff.1 hxL).1
     omega
   refine wp_region_held_drew (S:=fun W=>W.cell? ⟨bp,op,none⟩=some (.string nm)∧W.cell? ⟨bp,op+1,none⟩=some (.int .i64 c)) (by kernel_rfl) (PB.out _ hrd.out) (fun hHeld=> ?_)
   refine wpAnyH_take (i:=0) (v:= ?v1) rfl (by kernel_rfl) (by kernel_rfl) (by kernel_rfl) (fun _ _ _ h=>h) (Or.inl ⟨by rfl, ?h1⟩) (by assumption) ?r1
   case h1=>intro W hSw;(try dsimp only at hSw);obtain ⟨s0,s1⟩:=hSw;go_simp;try with_reducible rfl
   simp only[Act.put,List.setIfInBounds_toArray,List.set_cons_zero,List.set_cons_succ]
   refine wpAnyH_take (i:=2) (v:= ?v2) rfl (by kernel_rfl) (by kernel_rfl) (by kernel_rfl) (fun _ _ _ h=>h) (Or.inl ⟨by rfl, ?h2⟩) (by assumption) ?r2
   case h2=>intro W hSw;(try dsimp only at hSw);obtain ⟨s0,s1⟩:=hSw;go_simp;try with_reducible rfl
   simp only[Act.put,List.setIfInBounds_toArray,List.set_cons_zero,List.set_cons_succ]
   refine wpAnyH_take (i:=3) (v:= ?v3) rfl (by kernel_rfl) (by kernel_rfl) (by kernel_rfl) (fun _ _ _ h=>h) (Or.inl ⟨by rfl, ?h3⟩) (by assumption) ?r3
   case h3=>intro W hSw;(try dsimp only at hSw);obtain ⟨s0,s1⟩:=hSw;go_simp;try with_reducible rfl
   simp only[Act.put,List.setIfInBounds_toArray,List.set_cons_zero,List.set_cons_succ]
   refine wpAnyH_take (i:=4) (v:= ?v4) rfl (by kernel_rfl) (by kernel_rfl) (by kernel_rfl) (fun _ _ _ h=>h) (Or.inl ⟨by rfl, ?h4⟩) (by assumption) ?r4
   case h4=>intro W hSw;(try dsimp only at hSw);obtain ⟨s0,s1⟩:=hSw;go_simp;try with_reducible rfl
   simp only[Act.put,List.setIfInBounds_toArray,List.set_cons_zero,List.set_cons_succ]
   refine wpAnyH_take (i:=5) (v:= ?v5) rfl (by kernel_rfl) (by kernel_rfl) (by kernel_rfl) (fun _ _ _ h=>h) (Or.inl ⟨by rfl, ?h5⟩) (by assumption) ?r5
   case h5=>intro W hSw;(try dsimp only at hSw);obtain ⟨s0,s1⟩:=hSw;go_simp;try with_reducible rfl
   simp only[Act.put,List.setIfInBounds_toArray,List.set_cons_zero,List.set_cons_succ]
   refine wpAnyH_take (i:=6) (v:= ?v6) rfl (by kernel_rfl) (by kernel_rfl) (by kernel_rfl) (fun _ _ _ h=>h) (Or.inl ⟨by rfl, ?h6⟩) (by assumption) ?r6
   case h6=>intro W hSw;(try dsimp only at hSw);obtain ⟨s0,s1⟩:=hSw;go_simp;try with_reducible rfl
   simp only[Act.put,List.setIfInBounds_toArray,List.set_cons_zero,List.set_cons_succ]
   refine wpAnyH_take (i:=7) (v:= ?v7) rfl (by kernel_rfl) (by kernel_rfl) (by kernel_rfl) (fun _ _ _ h=>h) (Or.inl ⟨by rfl, ?h7⟩) (by assumption) ?r7
   case h7=>intro W hSw;(try dsimp only at hSw);obtain ⟨s0,s1⟩:=hSw;go_simp;try with_reducible rfl
   simp only[Act.put,List.setIfInBounds_toArray,List.set_cons_zero,List.set_cons_succ]
   refine wpAnyH_take (i:=8) (v:= ?v8) rfl (by kernel_rfl) (by kernel_rfl) (by kernel_rfl) (fun _ _ _ h=>h) (Or.inl ⟨by rfl, ?h8⟩) (by assumption) ?r8
   case h8=>intro W hSw;(try dsimp only at hSw);obtain ⟨s0,s1⟩:=hSw;go_simp;try with_reducible rfl
   simp only[Act.put,List.setIfInBounds_toArray,List.set_cons_zero,List.set_cons_succ]
   refine wpAnyH_take (i:=9) (v:= ?v9) rfl (by kernel_rfl) (by kernel_rfl) (by kernel_rfl) (fun _ _ _ h=>h) (Or.inl ⟨by rfl, ?h9⟩) (by assumption) ?r9
   case h9=>intro W hSw;(try dsimp only at hSw);obtain ⟨s0,s1⟩:=hSw;go_simp;try with_reducible rfl
   simp only[Act.put,List.setIfInBounds_toArray,List.set_cons_zero,List.set_cons_succ]
   refine wpAnyH_take (i:=10) (v:= ?v10) rfl (by kernel_rfl) (by kernel_rfl) (by kernel_rfl) (fun _ _ _ h=>h) (Or.inl ⟨by rfl, ?h10⟩) (by assumption) ?r10
   case h10=>intro W hSw;(try dsimp only at hSw);obtain ⟨s0,s1⟩:=hSw;go_simp;try with_reducible rfl
   simp only[Act.put,List.setIfInBounds_toArray,List.set_cons_zero,List.set_cons_succ]
   refine wpAnyH_take (i:=11) (v:= ?v11) rfl (by kernel_rfl) (by kernel_rfl) (by kernel_rfl) (fun _ _ _ h=>h) (Or.inl ⟨by rfl, ?h11⟩) (by assumption) ?r11
   case h11=>intro W hSw;(try dsimp only at hSw);obtain ⟨s0,s1⟩:=hSw;go_simp;try with_reducible rfl
   simp only[Act.put,List.setIfInBounds_toArray,List.set_cons_zero,List.set_cons_succ]
   refine wpAnyH_take (i:=12) (v:= ?v12) rfl (by kernel_rfl) (by kernel_rfl) (by kernel_rfl) (fun _ _ _ h=>h) (Or.inl ⟨by rfl, ?h12⟩) (by assumption) ?r12
   case h12=>intro W hSw;(try dsimp only at hSw);obtain ⟨s0,s1⟩:=hSw;go_simp;try with_reducible rfl
   simp only[Act.put,List.setIfInBounds_toArray,List.set_cons_zero,List.set_cons_succ]
   refine wpAnyH_take (i:=13) (v:= ?v13) rfl (by kernel_rfl) (by kernel_rfl) (by kernel_rfl) (fun _ _ _ h=>h) (Or.inl ⟨by rfl, ?h13⟩) (by assumption) ?r13
   case h13=>intro W hSw;(try dsimp only at hSw);obtain ⟨s0,s1⟩:=hSw;go_simp;try with_reducible rfl
   simp only[Act.put,List.setIfInBounds_toArray,List.set_cons_zero,List.set_cons_succ]
   refine wpAnyH_ready (rs:=[1,14]) (by kernel_rfl) (by simp) ?_
   refine AllReadyH.cons rfl (fun K hK=> ?_) ?_
   ·skip
    have zb:=(ST.out _ hrd.out).cell 2 _ rfl
    go_simp
    clear zb
    refine hK.out _ _ (PB.out _ hrd.out) (fun hHeld=> ?_)
    clear hK K
    refine wpAnyH_ready (rs:=[14]) (by kernel_rfl) (by simp) ?_
    refine AllReadyH.cons rfl (fun K hK=> ?_) AllReadyH.nil
    go_simp
    refine hK.out _ _ (PB.out _ (hrd.out.alloc hrd.out.size (.cells #[.string nm, .int .i64 (-1), .int .i64 1, .int .u32 c, .slice none 0 0] 59))) (fun hHeld=> ?_)
    clear hK K
    have BX:Below wr.heap.size wr (wr.drew.alloc (.cells #[.string nm, .int .i64 (-1), .int .i64 1, .int .u32 c, .slice none 0 0] 59)):=(hrd.out.alloc hrd.out.size (.cells #[.string nm, .int .i64 (-1), .int .i64 1, .int .u32 c, .slice none 0 0] 59))
    obtain ⟨wrows,h1,h2,h3,h4⟩:=OwnR.below OW.out BX (wrdO_below BX)
    rw[hlw] at h3
    have hx:wrdO w2.heap.size (wr.drew.alloc (.cells #[.string nm, .int .i64 (-1), .int .i64 1, .int .u32 c, .slice none 0 0] 59)) [Value.string nm, .int .i64 (-1), .int .i64 1, .int .u32 c, .slice none 0 0] (prmW prmL[i]):=by rw[HROW.out];exact ⟨_,by rw[EN.out],OwnR.nil _ _ _ _ _⟩
    refine wpAnyH_ready (rs:=[15]) (by kernel_rfl) (by simp) ?_
    refine AllReadyH.cons rfl (fun K hK=> ?_) AllReadyH.nil
    refine step_append_rows rfl _ _ 24 rfl w2.heap.size 59 i9 _ 5 64 Tryz.underlying24 hi9 hz9 hz8 hz7 rfl (by decide) _ i _ rfl h3 _ [[Value.string nm, .int .i64 (-1), .int .i64 1, .int .u32 c, .slice none 0 0]] rfl (slc_one wr.drew [Value.string nm, .int .i64 (-1), .int .i64 1, .int .u32 c, .slice none 0 0] 59 5 rfl) (fun r hr u hu=>by rw[List.mem_singleton] at hr;subst hr;simp at hu;rcases hu with rfl|rfl|rfl|rfl|rfl <;> rfl) (by unfold maxLen;simp only[List.length_singleton];omega) (by simp only[List.length_singleton];omega) (Nat.le_trans hwL BX.size) ?_
    intro v9 w9 ho9 hg9
    obtain ⟨a9,c9,rfl⟩:=own_form ho9
    have k9:=Kept.own h3 hg9
    have oW9:=OwnR.snoc (e:=59) (wrdO_apt (by decide)) h1 h2 (by rw[hlw];exact h3) h4 rfl hx (by rw[hlw];simpa using ho9) hg9
    rw[←HTK.out] at oW9
    have oL9:=OwnR.kept (OwnR.below OL.out BX (fun _ _ q=>q)) k9 (by decide) (fun _ _ _ _ _ q=>q)
    have oT9:=OwnR.kept (OwnT8.below OT.out BX) k9 (by decide) (nodO_apt (by decide) (by decide) (by decide))
    have st9:Stands w9 B #[.slice none 0 0, .slice none 0 0, .slice wa i wc, .slice none 0 0, .int .u32 16, .slice ta 1 tc, .int .i64 (-1), .slice none 0 0, .int .i64 (-1), .string ⟨#[]⟩] 30:=Stands.grown (ST.out _ BX) hg9 (stands_apart (ST.out _ BX) h3 (by decide))
    have sz9:Stands w9 w.heap.size #[.slice none 0 0, .slice none 0 0, .slice none 0 0, .slice none 0 0, .int .u32 0, .slice none 0 0, .int .i64 0, .slice none 0 0, .int .i64 0, .string ⟨#[]⟩] 30:=Stands.grown (SZ.out.below BX) hg9 (stands_apart (SZ.out.below BX) h3 (by decide))
    have hb9:=below_grown (below_trans HB.out BX) hg9 (fun k hk=>Nat.le_trans W2L (h3.lt k hk).1)
    have y1:=st9.cell 2 _ rfl
    have y2:=st9.free 2
    have kM:=set_kept st9 2 (.slice a9 (i+[[Value.string nm, .int .i64 (-1), .int .i64 1, .int .u32 c, .slice none 0 0]].length) c9)
    have stF:=hid (st9.set 2 (.slice a9 (i+[[Value.string nm, .int .i64 (-1), .int .i64 1, .int .u32 c, .slice none 0 0]].length) c9))
    have szF:=hid (sz9.other (b':=B) 2 (.slice a9 (i+[[Value.string nm, .int .i64 (-1), .int .i64 1, .int .u32 c, .slice none 0 0]].length) c9) (by omega))
    have oWF:=hid (OwnR.kept oW9 kM (by decide) (wrdO_apt (by decide)))
    have oLF:=hid (OwnR.kept oL9 kM (by decide) (fun _ _ _ _ _ q=>q))
    have oTF:=hid (OwnR.kept oT9 kM (by decide) (nodO_apt (by decide) (by decide) (by decide)))
    have bF:=hid (below_set hb9 B 2 (.slice a9 (i+[[Value.string nm, .int .i64 (-1), .int .i64 1, .int .u32 c, .slice none 0 0]].length) c9) hBW)
    have OL9:=hid oL9
    refine hK.out _ _ (PC.out _ OL9.out) (fun hHeld=> ?_)
    clear hK K
    clear k9 h1 h2 h3 h4 hx ho9 hg9 BX oW9 oL9 oT9 st9 sz9 hb9 kM
    refine wpAnyH_take (i:=16) (v:= ?v14) rfl (by kernel_rfl) (by kernel_rfl) (by kernel_rfl) (fun _ _ _ h=>h) (Or.inl ⟨by rfl, ?h14⟩) (by assumption) ?r14
    case h14=>intro W hSw;(try dsimp only at hSw);obtain ⟨s0,s1⟩:=hSw;go_simp;try with_reducible rfl
    simp only[Act.put,List.setIfInBounds_toArray,List.set_cons_zero,List.set_cons_succ]
    refine wpAnyH_ready (rs:=[17]) (by kernel_rfl) (by simp) ?_
    refine AllReadyH.cons rfl (fun K hK=> ?_) AllReadyH.nil
    go_simp
    refine hK.out _ _ (PC.out _ oLF.out) (fun hHeld=> ?_)
    clear hK K
    refine wpAnyH_done (by kernel_rfl) ?_ _
    clear y1 y2
    go_wp2_with fail
    go_roundw
    case rel=>exact ⟨i+1,_,by omega,by go_num,by simpa using stF.out,szF.out,oWF.out,oLF.out,oTF.out,bF.out⟩
    case measure=>simp[intOf];omega
   ·refine AllReadyH.cons rfl (fun K hK=> ?_) AllReadyH.nil
    go_simp
    refine hK.out _ _ (PB.out _ (hrd.out.alloc hrd.out.size (.cells #[.string nm, .int .i64 (-1), .int .i64 1, .int .u32 c, .slice none 0 0] 59))) (fun hHeld=> ?_)
    clear hK K
    refine wpAnyH_ready (rs:=[1]) (by kernel_rfl) (by simp) ?_
    refine AllReadyH.cons rfl (fun K hK=> ?_) AllReadyH.nil
    have zb:=(ST.out (wr.alloc (.cells #[.string nm, .int .i64 (-1), .int .i64 1, .int .u32 c, .slice none 0 0] 59)) ((Below.refl _ wr).alloc (Nat.le_refl _) _)).cell 2 _ rfl
    go_simp
    clear zb
    refine hK.out _ _ (PB.out _ (hrd.out.alloc hrd.out.size (.cells #[.string nm, .int .i64 (-1), .int .i64 1, .int .u32 c, .slice none 0 0] 59))) (fun hHeld=> ?_)
    clear hK K
    have BX:Below wr.heap.size wr (wr.drew.alloc (.cells #[.string nm, .int .i64 (-1), .int .i64 1, .int .u32 c, .slice none 0 0] 59)):=(hrd.out.alloc hrd.out.size (.cells #[.string nm, .int .i64 (-1), .int .i64 1, .int .u32 c, .slice none 0 0] 59))
    obtain ⟨wrows,h1,h2,h3,h4⟩:=OwnR.below OW.out BX (wrdO_below BX)
    rw[hlw] at h3
    have hx:wrdO w2.heap.size (wr.drew.alloc (.cells #[.string nm, .int .i64 (-1), .int .i64 1, .int .u32 c, .slice none 0 0] 59)) [Value.string nm, .int .i64 (-1), .int .i64 1, .int .u32 c, .slice none 0 0] (prmW prmL[i]):=by rw[HROW.out];exact ⟨_,by rw[EN.out],OwnR.nil _ _ _ _ _⟩
    refine wpAnyH_ready (rs:=[15]) (by kernel_rfl) (by simp) ?_
    refine AllReadyH.cons rfl (fun K hK=> ?_) AllReadyH.nil
    refine step_append_rows rfl _ _ 24 rfl w2.heap.size 59 i9 _ 5 64 Tryz.underlying24 hi9 hz9 hz8 hz7 rfl (by decide) _ i _ rfl h3 _ [[Value.string nm, .int .i64 (-1), .int .i64 1, .int .u32 c, .slice none 0 0]] rfl (slc_one wr.drew [Value.string nm, .int .i64 (-1), .int .i64 1, .int .u32 c, .slice none 0 0] 59 5 rfl) (fun r hr u hu=>by rw[List.mem_singleton] at hr;subst hr;simp at hu;rcases hu with rfl|rfl|rfl|rfl|rfl <;> rfl) (by unfold maxLen;simp only[List.length_singleton];omega) (by simp only[List.length_singleton];omega) (Nat.le_trans hwL BX.size) ?_
    intro v9 w9 ho9 hg9
    obtain ⟨a9,c9,rfl⟩:=own_form ho9
    have k9:=Kept.own h3 hg9
    have oW9:=OwnR.snoc (e:=59) (wrdO_apt (by decide)) h1 h2 (by rw[hlw];exact h3) h4 rfl hx (by rw[hlw];simpa using ho9) hg9
    rw[←HTK.out] at oW9
    have oL9:=OwnR.kept (OwnR.below OL.out BX (fun _ _ q=>q)) k9 (by decide) (fun _ _ _ _ _ q=>q)
    have oT9:=OwnR.kept (OwnT8.below OT.out BX) k9 (by decide) (nodO_apt (by decide) (by decide) (by decide))
    have st9:Stands w9 B #[.slice none 0 0, .slice none 0 0, .slice wa i wc, .slice none 0 0, .int .u32 16, .slice ta 1 tc, .int .i64 (-1), .slice none 0 0, .int .i64 (-1), .string ⟨#[]⟩] 30:=Stands.grown (ST.out _ BX) hg9 (stands_apart (ST.out _ BX) h3 (by decide))
    have sz9:Stands w9 w.heap.size #[.slice none 0 0, .slice none 0 0, .slice none 0 0, .slice none 0 0, .int .u32 0, .slice none 0 0, .int .i64 0, .slice none 0 0, .int .i64 0, .string ⟨#[]⟩] 30:=Stands.grown (SZ.out.below BX) hg9 (stands_apart (SZ.out.below BX) h3 (by decide))
    have hb9:=below_grown (below_trans HB.out BX) hg9 (fun k hk=>Nat.le_trans W2L (h3.lt k hk).1)
    have y1:=st9.cell 2 _ rfl
    have y2:=st9.free 2
    have kM:=set_kept st9 2 (.slice a9 (i+[[Value.string nm, .int .i64 (-1), .int .i64 1, .int .u32 c, .slice none 0 0]].length) c9)
    have stF:=hid (st9.set 2 (.slice a9 (i+[[Value.string nm, .int .i64 (-1), .int .i64 1, .int .u32 c, .slice none 0 0]].length) c9))
    have szF:=hid (sz9.other (b':=B) 2 (.slice a9 (i+[[Value.string nm, .int .i64 (-1), .int .i64 1, .int .u32 c, .slice none 0 0]].length) c9) (by omega))
    have oWF:=hid (OwnR.kept oW9 kM (by decide) (wrdO_apt (by decide)))
    have oLF:=hid (OwnR.kept oL9 kM (by decide) (fun _ _ _ _ _ q=>q))
    have oTF:=hid (OwnR.kept oT9 kM (by decide) (nodO_apt (by decide) (by decide) (by decide)))
    have bF:=hid (below_set hb9 B 2 (.slice a9 (i+[[Value.string nm, .int .i64 (-1), .int .i64 1, .int .u32 c, .slice none 0 0]].length) c9) hBW)
    have OL9:=hid oL9
    refine hK.out _ _ (PC.out _ OL9.out) (fun hHeld=> ?_)
    clear hK K
    clear k9 h1 h2 h3 h4 hx ho9 hg9 BX oW9 oL9 oT9 st9 sz9 hb9 kM
    refine wpAnyH_take (i:=16) (v:= ?v15) rfl (by kernel_rfl) (by kernel_rfl) (by kernel_rfl) (fun _ _ _ h=>h) (Or.inl ⟨by rfl, ?h15⟩) (by assumption) ?r15
    case h15=>intro W hSw;(try dsimp only at hSw);obtain ⟨s0,s1⟩:=hSw;go_simp;try with_reducible rfl
    simp only[Act.put,List.setIfInBounds_toArray,List.set_cons_zero,List.set_cons_succ]
    refine wpAnyH_ready (rs:=[17]) (by kernel_rfl) (by simp) ?_
    refine AllReadyH.cons rfl (fun K hK=> ?_) AllReadyH.nil
    go_simp
    refine hK.out _ _ (PC.out _ oLF.out) (fun hHeld=> ?_)
    clear hK K
    refine wpAnyH_done (by kernel_rfl) ?_ _
    clear y1 y2
    go_wp2_with fail
    go_roundw
    case rel=>exact ⟨i+1,_,by omega,by go_num,by simpa using stF.out,szF.out,oWF.out,oLF.out,oTF.out,bF.out⟩
    case measure=>simp[intOf];omega
  ·have hi1:i=111:=by omega
   subst hi1
   have hfull:(prmL.take 111).map prmW=newM.words:=by rw[List.take_of_length_le (by rw[prm_len];exact Nat.le_refl _)];rfl
   rw[hfull] at oW
   obtain ⟨csW,oWr⟩:=oW.row
   have hnl:newM.words.length=111:=by show (prmL.map prmW).length=111;rw[List.length_map,prm_len]
   obtain ⟨wa,wc,rfl⟩:=own_form oWr
   rw[hnl] at st oW oWr
   have u0:=st.cell 0 _ rfl
   have u1:=st.cell 1 _ rfl
   have u2:=st.cell 2 _ rfl
   have u3:=st.cell 3 _ rfl
   have u4:=st.cell 4 _ rfl
   have u5:=st.cell 5 _ rfl
   have u6:=st.cell 6 _ rfl
   have u7:=st.cell 7 _ rfl
   have u8:=st.cell 8 _ rfl
   have u9:=st.cell 9 _ rfl
   have y0:=sz.cell 0 _ rfl
   have y1:=sz.cell 1 _ rfl
   have y2:=sz.cell 2 _ rfl
   have y3:=sz.cell 3 _ rfl
   have y4:=sz.cell 4 _ rfl
   have y5:=sz.cell 5 _ rfl
   have y6:=sz.cell 6 _ rfl
   have y7:=sz.cell 7 _ rfl
   have y8:=sz.cell 8 _ rfl
   have y9:=sz.cell 9 _ rfl
   have yf:=sz.free
   obtain ⟨k1,k2⟩:=set10 sz (.slice none 0 0) (.slice none 0 0) (.slice wa 111 wc) (.slice none 0 0) (.int .u32 16) (.slice ta 1 tc) (.int .i64 (-1)) (.slice none 0 0) (.int .i64 (-1)) (.string ⟨#[]⟩)
   have K1:=hid k1
   have J3:=hid (k2 (fun u=>OwW w2.heap.size u (.slice wa 111 wc) newM.words) (fun u u' kk x=>OwnR.kept x kk (by decide) (wrdO_apt (by decide))) oW)
   have J5:=hid (k2 (fun u=>OwnT8 W0.heap.size u (.slice ta 1 tc) [([],[], -1,[],[])]) (fun u u' kk x=>OwnT8.kept x kk (by decide) (by decide) (by decide) (by decide)) oT)
   have J7:Hid (Below w.heap.size w _):=below_set (below_set (below_set (below_set (below_set (below_set (below_set (below_set (below_set (below_set (hb0) w.heap.size 0 (.slice none 0 0) (Nat.le_refl _)) w.heap.size 1 (.slice none 0 0) (Nat.le_refl _)) w.heap.size 2 (.slice wa 111 wc) (Nat.le_refl _)) w.heap.size 3 (.slice none 0 0) (Nat.le_refl _)) w.heap.size 4 (.int .u32 16) (Nat.le_refl _)) w.heap.size 5 (.slice ta 1 tc) (Nat.le_refl _)) w.heap.size 6 (.int .i64 (-1)) (Nat.le_refl _)) w.heap.size 7 (.slice none 0 0) (Nat.le_refl _)) w.heap.size 8 (.int .i64 (-1)) (Nat.le_refl _)) w.heap.size 9 (.string ⟨#[]⟩) (Nat.le_refl _)
   have HZ:=hid bz.size
   have HZ2:Hid (w.heap.size≤w2.heap.size):=hid (Nat.le_trans bz.size W2L)
   clear k1 k2 oW oT oWr hb hb0 st sz
   go_wp2_with fail
   (try simp only[Exit.inBlock,Exit.then])
   refine bodyPost_ret (results_cell_row rfl _ _ w.heap.size 30 _ (0,0) _ rfl K1.out Tryz.underlying30 rfl (show _=some 10 by kernel_rfl)) rfl ?_
   exact ⟨⟨.slice none 0 0, .slice none 0 0, .slice wa 111 wc, .slice none 0 0, .slice ta 1 tc, .slice none 0 0⟩,rfl,⟨World.ownsRow_nil _ _ _ _,World.ownsRow_nil _ _ _ _,OwnR.le HZ2.out J3.out (wrdO_le HZ2.out),World.ownsRow_nil _ _ _ _,OwnT8.le HZ.out J5.out,OwnR.nil _ _ _ _ _,by decide+kernel⟩,J7.out⟩
def Blk (k:IntKind) (e:TypeId) (w:World) (g:Nat) (xs:List Int):Prop:=w.heap[g]? =some (.cells (xs.map (Value.int k)).toArray e (0,0))
theorem Blk.below {k:IntKind} {e:TypeId} {w w':World} {g:Nat} {xs:List Int} (h:Blk k e w g xs) (hb:Below w.heap.size w w'):Blk k e w' g xs:=by
 unfold Blk at h ⊢
 rw[hb.block g (Array.getElem?_eq_some_iff.1 h).1,h]
def Plc (v:Value) (g a n:Nat):Prop:=∃dp,v= .slice dp n n∧(0 < n→dp=some ⟨g,a,none⟩)
theorem plc_all (g n:Nat):Plc (.slice (some ⟨g,0,none⟩) n n) g 0 n:=⟨_,rfl,fun _=>rfl⟩
theorem blk_made {k:IntKind} (w:World) (e:TypeId) (n:Nat):Blk k e (w.alloc (.cells (madeCells #[.int k 0] n) e)) w.heap.size (List.replicate n 0):=by
 unfold Blk
 rw[heap_alloc_new]
 congr 2
 apply Array.ext
 ·simp[madeCells]
 ·intro i h1 h2
  simp[madeCells,Nat.mod_one]
theorem run_copy_rd {P:Program} {k:IntKind} {w:World} (dT sT:TypeId) (elem:TypeId) (hu:P.underlying dT=some (.slice elem)) (hsz:(P.info? elem).map (·.size)=some 1)
  {vd vs:Value} {g off n:Nat} (hp:Plc vd g off n) {xs cur:List Int} (hr:Rd k w vs xs) (hle:xs.length≤n) (hg:Blk k elem w g cur) (hfit:off+n≤cur.length)
  {B:Nat} {w0:World} (hb:Below B w0 w) (hBg:B≤g):
  ∃w',(∀ty,(Builtin.copy_ #[dT,sT] ty #[vd,vs]).run P w= .ok (.int .i64 xs.length) w')∧Blk k elem w' g (cur.take off++xs++cur.drop (off+xs.length))∧Below B w0 w':=by
 obtain ⟨dp,rfl,hdp⟩:=hp
 obtain ⟨ao,cap,rfl,hc,hn,hx⟩:=rd_form hr
 have hlen:(xs.map (Value.int k)).length=xs.length:=by simp
 rcases Nat.eq_zero_or_pos xs.length with h0|h0
 ·have hx0:xs=[]:=List.eq_nil_of_length_eq_zero h0
  subst hx0
  refine ⟨w,fun ty=> ?_,by simpa using hg,hb⟩
  have:=run_copy_none (P:=P) w dT sT ty elem dp ao n n 0 cap hu hsz (Nat.zero_min n)
  simpa [goInt] using this
 ·obtain ⟨hm,b,o2,rfl,hcell⟩:=hx h0
  obtain rfl:=hdp (by omega)
  unfold Blk at hg
  have hrun:=fun ty=>run_copy_row (P:=P) w dT sT ty elem g off n n ⟨b,o2,none⟩ xs.length cap (cur.map (Value.int k)).toArray elem (xs.map (Value.int k)) hu hsz hg (by rw[hlen];exact (Nat.min_eq_left hle).symm) ?_ (by simp;omega) ?_
  ·rw[hlen] at hrun
   refine ⟨_,hrun, ?_,below_setRow hb hBg _⟩
   ·unfold Blk
    rw[setRow_heap w g _ _ elem _ hg]
    congr 2
    simp
  ·intro j v hj
   rw[List.getElem?_map] at hj
   cases hq:xs[j]? with
   |none=>rw[hq] at hj;cases hj
   |some y=>
    rw[hq] at hj
    simp at hj
    subst hj
    have hj2:j < xs.length:=by
     rcases Nat.lt_or_ge j xs.length with h|h
     ·exact h
     ·rw[List.getElem?_eq_none h] at hq;cases hq
    have:=hcell j hj2
    rw[List.getD_eq_getElem?_getD,hq] at this
    simp at this
    by_cases hz:j=0
    ·subst hz;simpa [Addr.add] using this
    ·simpa [Addr.add,hz] using this
  ·intro v hv
   simp only[List.mem_map] at hv
   obtain ⟨y,_,rfl⟩:=hv
   rfl
def Rn8 (B:Nat) (w:World) (v:Value) (xs:List Int):Prop:=Rd .u8 w v xs∧Nw B 5 w v
theorem Rn8.below {B:Nat} {w w':World} {v:Value} {xs:List Int} (h:Rn8 B w v xs) (g:Below w.heap.size w w'):Rn8 B w' v xs:=⟨h.1.below g,h.2.below g⟩
theorem Rn8.le {B B':Nat} {w:World} {v:Value} {xs:List Int} (h:Rn8 B w v xs) (hb:B'≤B):Rn8 B' w v xs:=⟨h.1,h.2.le hb⟩
theorem cmp_vals:∀xs ys:List Int,cmpL xs ys=0∨cmpL xs ys=1∨cmpL xs ys=4294967295
 |[],_=>Or.inl rfl
 |_::_,[]=>Or.inl rfl
 |x::xs,y::ys=>by
  simp only[cmpL]
  split
  ·exact Or.inr (Or.inl rfl)
  ·split
   ·exact Or.inr (Or.inr rfl)
   ·exact cmp_vals xs ys
def goodN (x:Nd):Prop:=bytN x∧lenN x∧sizN x∧cells x.2.1∧cells x.2.2.2.2∧(Lit.int .i64 x.2.2.1).wf=true
def gO (y:Opd):Prop:=(Lit.int .i64 y.1).wf=true∧0≤y.2∧y.2 < 4294967296
structure gW (x:Wd):Prop where
 byt:bytesL x.1
 len:x.1.length≤maxLen
 node:(Lit.int .i64 x.2.1).wf=true
 kind:(Lit.int .i64 x.2.2.1).wf=true
 num:0≤x.2.2.2.1∧x.2.2.2.1 < 4294967296
 ops:∀y∈x.2.2.2.2,gO y
 siz:x.2.2.2.2.length*16≤140737488351232
structure gI (x:Iz):Prop where
 node:(Lit.int .i64 x.1).wf=true
 par:(Lit.int .i64 x.2.1).wf=true
 byt:bytesL x.2.2.1
 len:x.2.2.1.length≤maxLen
 cel:cells x.2.2.2
 siz:x.2.2.2.length*4≤140737488351232
structure gM (m:Mc):Prop where
 stack:cells m.stack
 stackZ:m.stack.length*4≤140737488351232
 mem:bytesL m.mem
 memZ:m.mem.length≤140737488351232
 words:∀x∈m.words,gW x
 wordsZ:m.words.length*64≤140737488351232
 codes:∀x∈m.codes,(Lit.int .i64 x).wf=true
 codesZ:m.codes.length*8≤140737488351232
 base:0≤m.base∧m.base < 4294967296
 tree:∀x∈m.tree,goodN x
 treeZ:m.tree.length*96≤140737488351232
 node:(Lit.int .i64 m.node).wf=true
 insts:∀x∈m.insts,gI x
 instsZ:m.insts.length*56≤140737488351232
 self:(Lit.int .i64 m.self).wf=true
 out:bytesL m.out
 outZ:m.out.length≤140737488351232
structure Rs where
 m:Mc
 ret:List Int
 base:Int
 depth:Int
 n:Int
inductive Cl where
 |word (xt:Int)
 |ops (l:List Opd) (pos:Nat)
def iTop (s:Rs) (k:Nat):List Int×Int:=if s.m.stack.length < k then ([],5) else (s.m.stack.drop (s.m.stack.length - k),0)
def iSwp (s:Rs) (k:Nat) (l:List Int):Rs×Int:=
 if s.m.stack.length < k then (s,5) else if 64 < s.m.stack.length - k+l.length then (s,6)
 else ({s with m:={s.m with stack:=s.m.stack.take (s.m.stack.length - k)++l}},0)
def iOwn (s:Rs):Int:=(s.ret.length:Int) - s.base
def iWd (s:Rs) (xt:Int):Wd:=s.m.words.getD xt.toNat ([],0,0,0,[])
def iSlf (s:Rs) (w:Wd):Bool:=decide (0≤s.m.self)&&decide ((s.m.insts.getD s.m.self.toNat (-1, -1,[],[])).1=w.2.1)
def iS32 (x:Int):Int:=if x < 2147483648 then x else x - 4294967296
def iLop (s:Rs) (o:Opd):Rs×Bool×Int:=
 if iOwn s < 2 then (s,false,12) else
 let k:=s.ret.length
 let lim:=s.ret.getD (k - 2) 0
 let ix:=s.ret.getD (k - 1) 0
 if o.1=9 then ({s with ret:=s.ret.take (k - 2)},true,0)
 else if o.1=8 then
  if (iTop s 1).2≠0 then (s,false,(iTop s 1).2) else
  let st:=(iTop s 1).1.getD 0 0
  let x:=iS32 ((ix - lim)%4294967296)
  let y:=x+iS32 st
  let s':=(iSwp s 1 []).1
  if decide (x < 0)≠decide (y < 0) then ({s' with ret:=s.ret.take (k - 2)},false,0)
  else ({s' with ret:=s.ret.set (k - 1) ((ix+st)%4294967296)},true,0)
 else if (ix+1)%4294967296=lim then ({s with ret:=s.ret.take (k - 2)},false,0)
 else ({s with ret:=s.ret.set (k - 1) ((ix+1)%4294967296)},true,0)
def iTo (s:Rs) (k:Int):Rs×Int:=
 let w:=iWd s k
 if ¬(w.2.2.1=4∨w.2.2.1=6∨w.2.2.1=7) then (s,14) else if (iTop s 1).2≠0 then (s,(iTop s 1).2) else
 let x:=(iTop s 1).1.getD 0 0
 if w.2.2.1=6∧(s.m.words.length:Int)≤x then (s,14) else
 if w.2.2.1=7 then
  if iSlf s w=false then (s,21) else
  let i:=s.m.insts.getD s.m.self.toNat (-1, -1,[],[])
  iSwp {s with m:={s.m with insts:=s.m.insts.set s.m.self.toNat (i.1,i.2.1,i.2.2.1,i.2.2.2.set w.2.2.2.1.toNat x)}} 1 []
 else iSwp {s with m:={s.m with words:=s.m.words.set k.toNat (w.1,w.2.1,w.2.2.1,x,w.2.2.2.2)}} 1 []
def iOp (s:Rs) (o:Opd):Rs×Bool×Int:=
 if o.1=1 then ((iSwp s 0 [o.2]).1,false,(iSwp s 0 [o.2]).2)
 else if o.1=3 then (s,true,0)
 else if o.1=4 then
  if (iTop s 1).2≠0 then (s,false,(iTop s 1).2) else ((iSwp s 1 []).1,decide ((iTop s 1).1.getD 0 0=0),(iSwp s 1 []).2)
 else if o.1=5∨o.1=6 then
  if (iTop s 2).2≠0 then (s,false,(iTop s 2).2) else
  if o.1=6∧(iTop s 2).1.getD 0 0=(iTop s 2).1.getD 1 0 then ((iSwp s 2 []).1,true,(iSwp s 2 []).2) else
  if 62 < s.ret.length then (s,false,12) else
  let s':=(iSwp s 2 []).1
  ({s' with ret:=s.ret++(iTop s 2).1},false,(iSwp s 2 []).2)
 else if o.1=7∨o.1=8∨o.1=9 then iLop s o
 else if o.1=10 then
  if (iTop s 2).2≠0 then (s,false,(iTop s 2).2) else
  if (iTop s 2).1.getD 0 0=(iTop s 2).1.getD 1 0 then ((iSwp s 2 []).1,false,(iSwp s 2 []).2) else ((iSwp s 1 []).1,true,(iSwp s 1 []).2)
 else if o.1=11 then ((iSwp s 1 []).1,false,(iSwp s 1 []).2)
 else ((iTo s o.2).1,false,(iTo s o.2).2)
inductive Nx where
 |done (s:Rs) (e:Int)
 |exec (xt:Int) (s:Rs)
 |catch (xt:Int) (s:Rs)
 |meth (xt:Int) (s:Rs)
def iPrm (P:Int→Rs→Rs×Int) (c:Int) (s:Rs):Nx:=
 if c=29∨c=535 then
  if (iTop s 1).2≠0 then .done s (iTop s 1).2 else
  let x:=(iTop s 1).1.getD 0 0
  if (s.m.words.length:Int)≤x then .done s 14 else if c=29 then .exec x (iSwp s 1 []).1 else .catch x (iSwp s 1 []).1
 else if c=526 then
  if (iTop s 3).2≠0 then .done s (iTop s 3).2 else
  let l:=(iTop s 3).1
  let ih:=l.getD 2 0 - 1
  if ih < 0∨(s.m.insts.length:Int)≤ih∨(s.m.insts.getD ih.toNat (-1, -1,[],[])).1 < 0 then .done s 21 else
  if (texF s.m.mem (l.getD 0 0) (l.getD 1 0)).2≠0 then .done s (texF s.m.mem (l.getD 0 0) (l.getD 1 0)).2 else
  match mthF s.m.words (s.m.insts.getD ih.toNat (-1, -1,[],[])).1 (texF s.m.mem (l.getD 0 0) (l.getD 1 0)).1 with
  |none=> .done s 26
  |some k=>let s':=(iSwp s 3 []).1
   .meth k {s' with m:={s'.m with self:=ih}}
 else .done (P c s).1 (P c s).2
def iCat (s r:Rs) (e:Int):Rs×Int:=
 let e:=if e=0∧¬iOwn r=0 then 12 else e
 if e=11 then (r,11) else
 if e=0 then iSwp {r with base:=s.base} 0 [0] else
 let st:=(r.m.stack++List.replicate (s.m.stack.length - r.m.stack.length) 0).take s.m.stack.length
 iSwp {r with m:={r.m with stack:=st,self:=s.m.self},ret:=r.ret.take s.ret.length,base:=s.base,depth:=s.depth} 0 [if e=28 then r.n else e]
def runF (P:Int→Rs→Rs×Int):Nat→Cl→Rs→Nat→Rs×Nat×Int
 |0,_,s,left=>(s,left,11)
 |_+1, .word _,s,0=>(s,0,11)
 |f+1, .word xt,s,k+1=>
  let w:=iWd s xt
  if w.2.2.1=1 then
   match iPrm P w.2.2.2.1 s with
   | .done s' e=>(s',k,e)
   | .exec x s'=>runF P f (.word x) s' k
   | .catch x s'=>
    let r:=runF P f (.word x) {s' with base:=s'.ret.length} k
    ((iCat s' r.1 r.2.2).1,r.2.1,(iCat s' r.1 r.2.2).2)
   | .meth x s'=>
    let r:=runF P f (.word x) s' k
    if r.2.2=0 then ({r.1 with m:={r.1.m with self:=s.m.self}},r.2.1,0) else r
  else if w.2.2.1=2 then
   if 32≤s.depth then (s,k,12) else
   let r:=runF P f (.ops w.2.2.2.2 0) {s with depth:=s.depth+1,base:=s.ret.length} k
   ({r.1 with base:=s.base,depth:=r.1.depth - 1},r.2.1,if r.2.2=0∧¬iOwn r.1=0 then 12 else r.2.2)
  else if w.2.2.1=3∨w.2.2.1=4∨w.2.2.1=5 then ((iSwp s 0 [w.2.2.2.1]).1,k,(iSwp s 0 [w.2.2.2.1]).2)
  else if w.2.2.1=7 then
   if iSlf s w=false then (s,k,21) else
   let x:=(s.m.insts.getD s.m.self.toNat (-1, -1,[],[])).2.2.2.getD w.2.2.2.1.toNat 0
   ((iSwp s 0 [x]).1,k,(iSwp s 0 [x]).2)
  else runF P f (.word w.2.2.2.1) s k
 |f+1, .ops l pos,s,left=>
  match l[pos]?,left with
  |none,left=>(s,left,0)
  |some _,0=>(s,0,11)
  |some o,k+1=>
   if o.1=12 then (s,k,0)
   else if o.1=2 then
    let r:=runF P f (.word o.2) s k
    if r.2.2=0 then runF P f (.ops l (pos+1)) r.1 r.2.1 else r
   else
    let r:=iOp s o
    if r.2.2=0 then runF P f (.ops l (if r.2.1 then o.2.toNat else pos+1)) r.1 k else (r.1,k,r.2.2)
theorem run_left (P:Int→Rs→Rs×Int):∀(f:Nat) (c:Cl) (s:Rs) (left:Nat),(runF P f c s left).2.1≤left:=by
 intro f
 induction f with
 |zero=>intro c s left;simp[runF]
 |succ f ih=>
  intro c s left
  cases c with
  |word xt=>
   cases left with
   |zero=>simp[runF]
   |succ k=>
    simp only[runF]
    split
    ·split
     ·exact Nat.le_succ _
     ·exact Nat.le_succ_of_le (ih _ _ _)
     ·exact Nat.le_succ_of_le (ih _ _ _)
     ·split
      ·exact Nat.le_succ_of_le (ih _ _ _)
      ·exact Nat.le_succ_of_le (ih _ _ _)
    ·split
     ·split
      ·exact Nat.le_succ _
      ·exact Nat.le_succ_of_le (ih _ _ _)
     ·split
      ·exact Nat.le_succ _
      ·split
       ·split <;> exact Nat.le_succ _
       ·exact Nat.le_succ_of_le (ih _ _ _)
  |ops l pos=>
   simp only[runF]
   split
   ·exact Nat.le_refl _
   ·exact Nat.le_refl _
   ·split
    ·exact Nat.le_succ _
    ·split
     ·split
      ·exact Nat.le_succ_of_le (Nat.le_trans (ih _ _ _) (ih _ _ _))
      ·exact Nat.le_succ_of_le (ih _ _ _)
     ·split
      ·exact Nat.le_succ_of_le (ih _ _ _)
      ·exact Nat.le_succ _
theorem run_any (P:Int→Rs→Rs×Int):∀(f g:Nat) (c:Cl) (s:Rs) (left:Nat),left < f→left < g→runF P f c s left=runF P g c s left:=by
 intro f
 induction f with
 |zero=>intro g c s left h;omega
 |succ f ih=>
  intro g c s left h1 h2
  cases g with
  |zero=>omega
  |succ g=>
   cases c with
   |word xt=>
    cases left with
    |zero=>simp[runF]
    |succ k=>
     have e:∀c s,runF P f c s k=runF P g c s k:=fun c s=>ih g c s k (by omega) (by omega)
     simp only[runF,e]
   |ops l pos=>
    simp only[runF]
    split
    ·rfl
    ·rfl
    ·rename_i o k _
     have e:∀c s,runF P f c s k=runF P g c s k:=fun c s=>ih g c s k (by omega) (by omega)
     have e2:∀c s c' s',runF P f c s (runF P g c' s' k).2.1=runF P g c s (runF P g c' s' k).2.1:=fun c s c' s'=>by
      have:=run_left P g c' s' k
      exact ih g c s _ (by omega) (by omega)
     simp only[e,e2]
theorem iSwp_e (s:Rs) (k:Nat) (l:List Int):(iSwp s k l).2=0∨(iSwp s k l).2=5∨(iSwp s k l).2=6:=by
 unfold iSwp;split
 ·simp
 ·split <;> simp
def Bs (s:Rs):Prop:=0≤s.base∧s.base.toNat≤s.ret.length
def Fr (s r:Rs):Prop:=r.base=s.base∧r.depth=s.depth∧s.base.toNat≤r.ret.length∧r.ret.take s.base.toNat=s.ret.take s.base.toNat
theorem Fr.refl {s:Rs} (h:Bs s):Fr s s:=⟨rfl,rfl,h.2,rfl⟩
theorem Fr.trans {s r t:Rs} (h:Fr s r) (g:Fr r t):Fr s t:=by
 obtain ⟨a,b,c,d⟩:=h
 obtain ⟨a',b',c',d'⟩:=g
 rw[a] at c' d'
 exact ⟨a'.trans a,b'.trans b,c',d'.trans d⟩
theorem Fr.bs {s r:Rs} (h:Fr s r) (g:Bs s):Bs r:=by
 obtain ⟨a,b,c,d⟩:=h
 exact ⟨by rw[a];exact g.1,by rw[a];exact c⟩
def Mo (s r:Rs):Prop:=r.base=s.base∧r.depth=s.depth∧r.ret=s.ret
theorem Mo.fr {s r:Rs} (h:Mo s r) (g:Bs s):Fr s r:=⟨h.1,h.2.1,by rw[h.2.2];exact g.2,by rw[h.2.2]⟩
theorem iSwp_mo (s:Rs) (k:Nat) (l:List Int):Mo s (iSwp s k l).1:=by
 unfold iSwp;split
 ·exact ⟨rfl,rfl,rfl⟩
 ·split <;> exact ⟨rfl,rfl,rfl⟩
theorem iTo_mo (s:Rs) (k:Int):Mo s (iTo s k).1:=by
 unfold iTo
 dsimp only
 repeat' split
 all_goals first|exact ⟨rfl,rfl,rfl⟩|exact iSwp_mo _ _ _
theorem fr_cut {s r:Rs} (g:Bs s) (h1:r.base=s.base) (h2:r.depth=s.depth) (j:Nat) (hj:s.base.toNat≤j) (h3:r.ret=s.ret.take j):Fr s r:=by
 refine ⟨h1,h2, ?_, ?_⟩
 ·rw[h3,List.length_take];have:=g.2;omega
 ·rw[h3,List.take_take,Nat.min_eq_left hj]
theorem fr_set {s r:Rs} (g:Bs s) (h1:r.base=s.base) (h2:r.depth=s.depth) (j:Nat) (x:Int) (hj:s.base.toNat≤j) (h3:r.ret=s.ret.set j x):Fr s r:=by
 refine ⟨h1,h2, ?_, ?_⟩
 ·rw[h3,List.length_set];exact g.2
 ·rw[h3,List.take_set_of_le hj]
theorem fr_add {s r:Rs} (g:Bs s) (h1:r.base=s.base) (h2:r.depth=s.depth) (l:List Int) (h3:r.ret=s.ret++l):Fr s r:=by
 refine ⟨h1,h2, ?_, ?_⟩
 ·rw[h3,List.length_append];have:=g.2;omega
 ·rw[h3,List.take_append_of_le_length g.2]
theorem iLop_fr (s:Rs) (o:Opd) (g:Bs s):Fr s (iLop s o).1:=by
 unfold iLop
 split
 ·exact Fr.refl g
 ·rename_i h
  have h':s.base.toNat≤s.ret.length - 2:=by unfold iOwn at h;have:=g.1;omega
  have m:=iSwp_mo s 1 []
  dsimp only
  repeat' split
  all_goals first
   |exact Fr.refl g
   |exact fr_cut g rfl rfl _ h' rfl
   |exact fr_set g rfl rfl _ _ (by omega) rfl
   |exact fr_cut g m.1 m.2.1 _ h' rfl
   |exact fr_set g m.1 m.2.1 _ _ (by omega) rfl
theorem iOp_fr (s:Rs) (o:Opd) (g:Bs s):Fr s (iOp s o).1:=by
 have m:=iSwp_mo s 2 []
 unfold iOp
 dsimp only
 repeat' split
 all_goals first
  |exact Fr.refl g
  |exact (iSwp_mo _ _ _).fr g
  |exact (iTo_mo _ _).fr g
  |exact iLop_fr _ _ g
  |exact fr_add g m.1 m.2.1 _ rfl
def Kp (P:Int→Rs→Rs×Int):Prop:=∀c s,Bs s→Fr s (P c s).1
def FrN (s:Rs):Nx→Prop
 | .done r _=>Fr s r
 | .exec _ r=>Mo s r
 | .catch _ r=>Mo s r
 | .meth _ r=>Mo s r
theorem iPrm_fr {P:Int→Rs→Rs×Int} (hP:Kp P) (c:Int) (s:Rs) (g:Bs s):FrN s (iPrm P c s):=by
 have m:=iSwp_mo s 3 []
 unfold iPrm
 dsimp only
 repeat' split
 all_goals first
  |exact Fr.refl g
  |exact iSwp_mo s 1 []
  |exact hP c s g
  |exact ⟨m.1,m.2.1,m.2.2⟩
end Go.Proofs.YtbamcchghecpeaaGreatDoor
