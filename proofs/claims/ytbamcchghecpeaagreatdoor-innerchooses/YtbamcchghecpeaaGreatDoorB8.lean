import Derived.Deep.LoopGhost
import Derived.Test.YtbamcchghecpeaaGreatDoorB7
set_option linter.unusedVariables false
set_option linter.unusedSimpArgs false
set_option maxRecDepth 100000
namespace Go.Proofs.YtbamcchghecpeaaGreatDoor
open Go.ChangeShapes Go.WideShapes Go.ChangeAt Go.RowKit
theorem resR1 {P:Program} {fn:Func} {p:Tmp} {ty:TypeId} (h:fn.results=#[.cell p ty]) (tmps:Array Value) (w:World) (g:Nat) (t:TypeId) (cs:Array Value) (fr:Nat×Nat) (d:TypeDesc)
  (hp:tmps.getD p undef= .pointer (some ⟨g,0,none⟩)) (hg:w.heap[g]? =some (.cells cs t fr))
  (hu:P.underlying ty=some d) (hd:(match d with| .struct _| .array _ _=>true|_=>false)=true) (hi:(P.info? ty).map (·.size)=some cs.size):
  (results fn tmps).run P w= .ok (.agg cs) w:=by
 have hp':tmps[p]?.getD undef= .pointer (some ⟨g,0,none⟩):=by simpa using hp
 simp[results,h,hp',asAddr,run_loadVar_row w g t ty cs fr d hg hu hd hi]
theorem gb_off {a b:World} {q:Nat} (h:a.grownBy b (some q)) {c:Nat} (hc:a.heap.size≤c) (j:Nat) (u:Value):a.grownBy (b.setCell ⟨c,j,none⟩ u) (some q):=
 ⟨h.os,h.tape,h.output,by simpa [World.setCell] using h.size,fun k hk hne=>(Below.heap_setCell _ _ _ k (fun e=>by have e':k=c:=e;omega)).trans (h.block k hk hne)⟩
theorem st_off {w:World} {b c:Nat} {cs:Array Value} {T:TypeId} (st:Stands w b cs T) (hne:¬b=c) (j:Nat) (u:Value):Stands (w.setCell ⟨c,j,none⟩ u) b cs T:=st_gb st (gb_set (gb_refl _ _) _ _) hne
theorem set6 {w:World} {b:Nat} {z0 z1 z2 z3 z4 z5:Value} {T:TypeId} (h:Stands w b #[z0,z1,z2,z3,z4,z5] T) (a0 a1 a2 a3 a4 a5:Value):
  Stands ((((((w.setCell ⟨b,0,none⟩ a0).setCell ⟨b,1,none⟩ a1).setCell ⟨b,2,none⟩ a2).setCell ⟨b,3,none⟩ a3).setCell ⟨b,4,none⟩ a4).setCell ⟨b,5,none⟩ a5) b #[a0,a1,a2,a3,a4,a5] T:=by
 have h5:=(((((h.set 0 a0).set 1 a1).set 2 a2).set 3 a3).set 4 a4).set 5 a5
 exact h5
theorem RunL.pop {B:Nat} {D:Nat→Prop} {w w':World} {q:Nat} {s s' b:Sv} {f:Fm} {fs:List Fm} {nxt fuel thr:Int} {g cap:Nat} (h:RunL B D w q s b (.slice (some ⟨g,0,none⟩) (fs.length+1) cap) (f::fs) nxt fuel thr) (gg:w.grownBy w' (some q))
  (st:Stands w' q (rnC s' b (.slice (some ⟨g,0,none⟩) fs.length cap) (dpF fs) nxt fuel thr) 67) (hs:StL kR D w' s→StL kR D w' s') (e1:s'.v.vw=s.v.vw) (e2:s'.m.words=s.m.words) (e3:s'.v.vi=s.v.vi) (e4:s'.m.insts=s.m.insts):
  RunL B D w' q s' b (.slice (some ⟨g,0,none⟩) fs.length cap) fs nxt fuel thr∧Below B w w':=by
 have k:=Kept.stands h.st gg
 have a:Agr kR D w w':=Agr.kept k rfl
 have bel:=h.low gg
 have o:=own_take h.fr fs.length (by simp)
 have et:(fmR (f::fs)).flatten.take (fs.length*6)=(fmR fs).flatten:=by
  rw[fmR_cons,List.flatten_append,List.take_append_of_le_length (by rw[fmR_flat];exact Nat.le_refl _),List.take_of_length_le (by rw[fmR_flat];exact Nat.le_refl _)]
 rw[et] at o
 refine ⟨⟨st,hs (h.hs.agr a), ?_, ?_,h.hb.agr a,h.bw.trans e1.symm,h.bi.trans e3.symm,own_kept k (by decide) o,h.hq,Nat.le_trans h.hB bel.size,fun j hj=>⟨(h.hD j hj).1,Nat.lt_of_lt_of_le (h.hD j hj).2 bel.size⟩,fun w2 b2=>h.tab w2 (Below.trans bel b2)⟩,bel⟩
 ·rw[e1,e2];exact h.wd.kept k a (by decide)
 ·rw[e3,e4];exact h.ins.kept k a (by decide)
theorem cut_fm (g m cap n:Nat) (h:n≤m) (hc:n < cap):∀w',(Instr.slice 65 (.slice (some ⟨g,0,none⟩) m cap) none (some (.int .i64 (n:Int))) none).run Tryz.prog w'= .ok (.slice (some ⟨g,0,none⟩) n cap) w':=by
 intro w'
 rw[run_slice_h w' 65 (some ⟨g,0,none⟩) m cap uFr .i64 (n:Int) (by omega) (by omega),zFr]
 simp only[Result.andThen,sliced,Int.toNat_natCast,Nat.sub_zero]
 rw[if_neg (by omega)]
 rfl
theorem own_cap {w:World} {base:Nat} {e:TypeId} {sz g n cap:Nat} {cs:List Value} (o:w.ownsRow base e sz (.slice (some ⟨g,0,none⟩) n cap) n cs):n≤cap:=by
 obtain ⟨hl,h⟩:=o
 rcases h with ⟨h,_⟩|⟨g',cap',cur,he,hb,hg,hc,hx,hs,ht⟩
 ·simp at h
 ·simp at he
  obtain ⟨rfl,rfl⟩:=he
  omega
def clS (s:Sv):Fm→Sv
 | .meth _ sl=>{s with m:={s.m with self:=sl}}
 |_=>s
theorem StL.slf {K:TypeId→Bool} {D:Nat→Prop} {w:World} {s:Sv} (h:StL K D w s) (sl:Int):StL K D w {s with m:={s.m with self:=sl}}:=⟨h.stack,h.mem,h.codes,h.tree,h.out,h.ret⟩
set_option maxHeartbeats 4000000 in
theorem w_closeColonF {B:Nat} {D:Nat→Prop} {w:World} {q:Nat} {s b:Sv} {vf:Value} {bs wd at_:Int} {fs:List Fm} {nxt fuel thr:Int} (h:RunL B D w q s b vf (.colon bs wd at_::fs) nxt fuel thr) (hl:fs.length≤1000000) (hd:dpF fs≤32):
  Calls Tryz.prog 85 #[.pointer (some ⟨q,0,none⟩)] w fun e w'=>e= .returned (.agg #[.int .i64 0, .int .i64 bs, .int .i64 wd, .int .i64 at_, .int .i64 0, .int .i64 0])∧Below B w w'∧∃vf',RunL B D w' q (clS s (.colon bs wd at_)) b vf' fs nxt fuel thr:=by
 obtain ⟨g,cap,hv, -, -,hg⟩:=h.top
 subst hv
 have hcap:=own_cap h.fr
 have b1:=box_below w (.cells #[.int .i64 0, .int .i64 0, .int .i64 0, .int .i64 0, .int .i64 0, .int .i64 0] 122)
 have h1:=h.below b1
 obtain ⟨TB1,TB2,tbb⟩:=two_boxes w #[.int .i64 0, .int .i64 0, .int .i64 0, .int .i64 0, .int .i64 0, .int .i64 0] #[.int .i64 0, .int .i64 bs, .int .i64 wd, .int .i64 at_, .int .i64 0, .int .i64 0] 122
 have h2:=h.below tbb
 obtain ⟨g1,c1,e1,hc,hf, -⟩:=h1.top
 injection e1 with e1 e2 e3
 injection e1 with e1
 injection e1 with e1
 subst e1 e3
 have k0:=hc 0 _ rfl
 rw[Nat.add_zero] at k0
 have k1:=hc 1 _ rfl
 have k2:=hc 2 _ rfl
 have k3:=hc 3 _ rfl
 have k4:=hc 4 _ rfl
 have k5:=hc 5 _ rfl
 have f1:=h1.c22
 have f2:=h2.c22
 have ff:=h2.st.free 22
 have hlen:=len_fm (some ⟨g,0,none⟩) (fs.length+1) cap
 have hix:=idx_fr g (fs.length+1) cap fs.length (by omega)
 have hcut:=cut_fm g (fs.length+1) cap fs.length (by omega) (by omega)
 have hw:IntKind.i64.wrap (((fs.length+1:Nat):Int) - 1)=fs.length:=by rw[IntKind.wrap_i64];omega
 have hq:=st_lt h.st
 have hq1:¬w.heap.size+1=q:=by omega
 have hq0:¬w.heap.size=q:=by omega
 have hsz:(w.setCell ⟨q,22,none⟩ (.slice (some ⟨g,0,none⟩) fs.length cap)).heap.size=w.heap.size:=by simp[World.setCell]
 obtain ⟨x0,x1,tb3⟩:=two_boxes (w.setCell ⟨q,22,none⟩ (.slice (some ⟨g,0,none⟩) fs.length cap)) #[.int .i64 0, .int .i64 0, .int .i64 0, .int .i64 0, .int .i64 0, .int .i64 0] #[.int .i64 0, .int .i64 bs, .int .i64 wd, .int .i64 at_, .int .i64 0, .int .i64 0] 122
 rw[hsz] at x0 x1
 have st3:Stands (((w.setCell ⟨q,22,none⟩ (.slice (some ⟨g,0,none⟩) fs.length cap)).alloc (.cells #[.int .i64 0, .int .i64 0, .int .i64 0, .int .i64 0, .int .i64 0, .int .i64 0] 122)).alloc (.cells #[.int .i64 0, .int .i64 bs, .int .i64 wd, .int .i64 at_, .int .i64 0, .int .i64 0] 122)) q (rnC s b (.slice (some ⟨g,0,none⟩) fs.length cap) (dpF (.colon bs wd at_::fs)) nxt fuel thr) 67:=(show Stands (w.setCell ⟨q,22,none⟩ (.slice (some ⟨g,0,none⟩) fs.length cap)) q (rnC s b (.slice (some ⟨g,0,none⟩) fs.length cap) (dpF (.colon bs wd at_::fs)) nxt fuel thr) 67 from h.st.set 22 _).below tb3
 have GB3:Hid (w.grownBy (((w.setCell ⟨q,22,none⟩ (.slice (some ⟨g,0,none⟩) fs.length cap)).alloc (.cells #[.int .i64 0, .int .i64 0, .int .i64 0, .int .i64 0, .int .i64 0, .int .i64 0] 122)).alloc (.cells #[.int .i64 0, .int .i64 bs, .int .i64 wd, .int .i64 at_, .int .i64 0, .int .i64 0] 122)) (some q)):=hid (gb_trans (gb_set (gb_refl _ _) 22 _) (gb_of tb3))
 have HH:=hid h
 obtain ⟨LN,hLN⟩:∃n:Int,((fs.length+1:Nat):Int)=n:=⟨_,rfl⟩
 rw[hLN] at hlen hw
 obtain ⟨M,hM⟩:∃n,fs.length*6=n:=⟨_,rfl⟩
 rw[hM] at k0 k1 k2 k3 k4 k5 hix
 obtain ⟨FI,hFI⟩:∃n:Int,(fs.length:Int)=n:=⟨_,rfl⟩
 rw[hFI] at hix hcut hw
 clear h h1 h2 hc hf hLN hM hFI hcap b1 tbb hg TB1 TB2 tb3 hsz
 go_enter Tryz.func85,Tryz.ntmps85
 go_upto_region 4 with fail
 generalize hW:(((w.setCell ⟨q,22,none⟩ (.slice (some ⟨g,0,none⟩) fs.length cap)).alloc (.cells #[.int .i64 0, .int .i64 0, .int .i64 0, .int .i64 0, .int .i64 0, .int .i64 0] 122)).alloc (.cells #[.int .i64 0, .int .i64 bs, .int .i64 wd, .int .i64 at_, .int .i64 0, .int .i64 0] 122))=w3 at*
 clear hW
 have y0:=x1.cell 0 _ rfl
 have hd0:=dpF_0 fs
 have y23:w3.cell? ⟨q,23,none⟩=some (.int .i64 (dpF (.colon bs wd at_::fs))):=st3.cell 23 _ rfl
 have y23f:=st3.free 23
 have edp:dpF (.colon bs wd at_::fs)=dpF fs+1:=rfl
 rw[edp] at y23 st3
 have st4:Stands (w3.setCell ⟨q,23,none⟩ (.int .i64 (dpF fs))) q (rnC s b (.slice (some ⟨g,0,none⟩) fs.length cap) (dpF fs) nxt fuel thr) 67:=st3.set 23 _
 have x1':=st_off x1 hq1 23 (.int .i64 (dpF fs))
 have x0':=st_off x0 hq0 23 (.int .i64 (dpF fs))
 have GB4:Hid (w.grownBy (w3.setCell ⟨q,23,none⟩ (.int .i64 (dpF fs))) (some q)):=hid (gb_set GB3.out 23 _)
 obtain ⟨DP,hDP⟩:∃n:Int,dpF fs=n:=⟨_,rfl⟩
 rw[hDP] at y23 x1' x0' GB4 st4 hd0 hd
 have HDP:=hid hDP
 clear x1 x0 st3 edp hDP
 go_upto_region 9 with fail
 generalize hW:(w3.setCell ⟨q,23,none⟩ (.int .i64 DP))=w4 at*
 clear hW
 have z0:=x1'.cell 0 _ rfl
 have z1:=x1'.cell 1 _ rfl
 have z2:=x1'.cell 2 _ rfl
 have z3:=x1'.cell 3 _ rfl
 have z4:=x1'.cell 4 _ rfl
 have z5:=x1'.cell 5 _ rfl
 have r0:=x0'.cell 0 _ rfl
 have r1:=x0'.cell 1 _ rfl
 have r2:=x0'.cell 2 _ rfl
 have r3:=x0'.cell 3 _ rfl
 have r4:=x0'.cell 4 _ rfl
 have r5:=x0'.cell 5 _ rfl
 have rf:=x0'.free
 have q5:=set6 x0' (.int .i64 0) (.int .i64 bs) (.int .i64 wd) (.int .i64 at_) (.int .i64 0) (.int .i64 0)
 have p5:=st_off (st_off (st_off (st_off (st_off (st_off st4 (c:=w.heap.size) (by omega) 0 (.int .i64 0)) (c:=w.heap.size) (by omega) 1 (.int .i64 bs)) (c:=w.heap.size) (by omega) 2 (.int .i64 wd)) (c:=w.heap.size) (by omega) 3 (.int .i64 at_)) (c:=w.heap.size) (by omega) 4 (.int .i64 0)) (c:=w.heap.size) (by omega) 5 (.int .i64 0)
 have g5:=gb_off (gb_off (gb_off (gb_off (gb_off (gb_off GB4.out (c:=w.heap.size) (Nat.le_refl _) 0 (.int .i64 0)) (c:=w.heap.size) (Nat.le_refl _) 1 (.int .i64 bs)) (c:=w.heap.size) (Nat.le_refl _) 2 (.int .i64 wd)) (c:=w.heap.size) (Nat.le_refl _) 3 (.int .i64 at_)) (c:=w.heap.size) (Nat.le_refl _) 4 (.int .i64 0)) (c:=w.heap.size) (Nat.le_refl _) 5 (.int .i64 0)
 have Q5:=hid q5
 have P5:=hid p5
 have G5:=hid g5
 clear q5 p5 g5
 go_wp2_with fail
 (try simp only[Exit.inBlock,Exit.then])
 refine bodyPost_ret (resR1 rfl _ _ w.heap.size 122 _ (0,0) _ rfl Q5.out Tryz.underlying122 rfl (show _=some 6 by kernel_rfl)) rfl ?_
 have P6:=P5.out
 rw[←HDP.out] at P6
 rw[show clS s (.colon bs wd at_)=s from rfl]
 have R:=HH.out.pop (s':=s) G5.out P6 id rfl rfl rfl rfl
 exact ⟨rfl,R.2,_,R.1⟩
set_option maxHeartbeats 4000000 in
theorem w_closeCatchF {B:Nat} {D:Nat→Prop} {w:World} {q:Nat} {s b:Sv} {vf:Value} {bs hh sl:Int} {fs:List Fm} {nxt fuel thr:Int} (h:RunL B D w q s b vf (.catch bs hh sl::fs) nxt fuel thr) (hl:fs.length≤1000000):
  Calls Tryz.prog 85 #[.pointer (some ⟨q,0,none⟩)] w fun e w'=>e= .returned (.agg #[.int .i64 1, .int .i64 bs, .int .i64 0, .int .i64 0, .int .i64 hh, .int .i64 0])∧Below B w w'∧∃vf',RunL B D w' q (clS s (.catch bs hh sl)) b vf' fs nxt fuel thr:=by
 obtain ⟨g,cap,hv, -, -,hg⟩:=h.top
 subst hv
 have hcap:=own_cap h.fr
 have b1:=box_below w (.cells #[.int .i64 0, .int .i64 0, .int .i64 0, .int .i64 0, .int .i64 0, .int .i64 0] 122)
 have h1:=h.below b1
 obtain ⟨TB1,TB2,tbb⟩:=two_boxes w #[.int .i64 0, .int .i64 0, .int .i64 0, .int .i64 0, .int .i64 0, .int .i64 0] #[.int .i64 1, .int .i64 bs, .int .i64 0, .int .i64 0, .int .i64 hh, .int .i64 0] 122
 have h2:=h.below tbb
 obtain ⟨g1,c1,e1,hc,hf, -⟩:=h1.top
 injection e1 with e1 e2 e3
 injection e1 with e1
 injection e1 with e1
 subst e1 e3
 have k0:=hc 0 _ rfl
 rw[Nat.add_zero] at k0
 have k1:=hc 1 _ rfl
 have k2:=hc 2 _ rfl
 have k3:=hc 3 _ rfl
 have k4:=hc 4 _ rfl
 have k5:=hc 5 _ rfl
 have f1:=h1.c22
 have f2:=h2.c22
 have ff:=h2.st.free 22
 have hlen:=len_fm (some ⟨g,0,none⟩) (fs.length+1) cap
 have hix:=idx_fr g (fs.length+1) cap fs.length (by omega)
 have hcut:=cut_fm g (fs.length+1) cap fs.length (by omega) (by omega)
 have hw:IntKind.i64.wrap (((fs.length+1:Nat):Int) - 1)=fs.length:=by rw[IntKind.wrap_i64];omega
 have hq:=st_lt h.st
 have hq1:¬w.heap.size+1=q:=by omega
 have hq0:¬w.heap.size=q:=by omega
 have hsz:(w.setCell ⟨q,22,none⟩ (.slice (some ⟨g,0,none⟩) fs.length cap)).heap.size=w.heap.size:=by simp[World.setCell]
 obtain ⟨x0,x1,tb3⟩:=two_boxes (w.setCell ⟨q,22,none⟩ (.slice (some ⟨g,0,none⟩) fs.length cap)) #[.int .i64 0, .int .i64 0, .int .i64 0, .int .i64 0, .int .i64 0, .int .i64 0] #[.int .i64 1, .int .i64 bs, .int .i64 0, .int .i64 0, .int .i64 hh, .int .i64 0] 122
 rw[hsz] at x0 x1
 have st3:Stands (((w.setCell ⟨q,22,none⟩ (.slice (some ⟨g,0,none⟩) fs.length cap)).alloc (.cells #[.int .i64 0, .int .i64 0, .int .i64 0, .int .i64 0, .int .i64 0, .int .i64 0] 122)).alloc (.cells #[.int .i64 1, .int .i64 bs, .int .i64 0, .int .i64 0, .int .i64 hh, .int .i64 0] 122)) q (rnC s b (.slice (some ⟨g,0,none⟩) fs.length cap) (dpF (.catch bs hh sl::fs)) nxt fuel thr) 67:=(show Stands (w.setCell ⟨q,22,none⟩ (.slice (some ⟨g,0,none⟩) fs.length cap)) q (rnC s b (.slice (some ⟨g,0,none⟩) fs.length cap) (dpF (.catch bs hh sl::fs)) nxt fuel thr) 67 from h.st.set 22 _).below tb3
 have GB3:Hid (w.grownBy (((w.setCell ⟨q,22,none⟩ (.slice (some ⟨g,0,none⟩) fs.length cap)).alloc (.cells #[.int .i64 0, .int .i64 0, .int .i64 0, .int .i64 0, .int .i64 0, .int .i64 0] 122)).alloc (.cells #[.int .i64 1, .int .i64 bs, .int .i64 0, .int .i64 0, .int .i64 hh, .int .i64 0] 122)) (some q)):=hid (gb_trans (gb_set (gb_refl _ _) 22 _) (gb_of tb3))
 have HH:=hid h
 obtain ⟨LN,hLN⟩:∃n:Int,((fs.length+1:Nat):Int)=n:=⟨_,rfl⟩
 rw[hLN] at hlen hw
 obtain ⟨M,hM⟩:∃n,fs.length*6=n:=⟨_,rfl⟩
 rw[hM] at k0 k1 k2 k3 k4 k5 hix
 obtain ⟨FI,hFI⟩:∃n:Int,(fs.length:Int)=n:=⟨_,rfl⟩
 rw[hFI] at hix hcut hw
 clear h h1 h2 hc hf hLN hM hFI hcap b1 tbb hg TB1 TB2 tb3 hsz
 go_enter Tryz.func85,Tryz.ntmps85
 go_upto_region 4 with fail
 generalize hW:(((w.setCell ⟨q,22,none⟩ (.slice (some ⟨g,0,none⟩) fs.length cap)).alloc (.cells #[.int .i64 0, .int .i64 0, .int .i64 0, .int .i64 0, .int .i64 0, .int .i64 0] 122)).alloc (.cells #[.int .i64 1, .int .i64 bs, .int .i64 0, .int .i64 0, .int .i64 hh, .int .i64 0] 122))=w3 at*
 clear hW
 have y0:=x1.cell 0 _ rfl
 have x1':=x1
 have x0':=x0
 have GB4:=GB3
 have st4:Stands w3 q (rnC s b (.slice (some ⟨g,0,none⟩) fs.length cap) (dpF fs) nxt fuel thr) 67:=st3
 clear x1 x0 st3 GB3
 go_upto_region 9 with fail
 have z0:=x1'.cell 0 _ rfl
 have z1:=x1'.cell 1 _ rfl
 have z2:=x1'.cell 2 _ rfl
 have z3:=x1'.cell 3 _ rfl
 have z4:=x1'.cell 4 _ rfl
 have z5:=x1'.cell 5 _ rfl
 have r0:=x0'.cell 0 _ rfl
 have r1:=x0'.cell 1 _ rfl
 have r2:=x0'.cell 2 _ rfl
 have r3:=x0'.cell 3 _ rfl
 have r4:=x0'.cell 4 _ rfl
 have r5:=x0'.cell 5 _ rfl
 have rf:=x0'.free
 have q5:=set6 x0' (.int .i64 1) (.int .i64 bs) (.int .i64 0) (.int .i64 0) (.int .i64 hh) (.int .i64 0)
 have p5:=st_off (st_off (st_off (st_off (st_off (st_off st4 (c:=w.heap.size) (by omega) 0 (.int .i64 1)) (c:=w.heap.size) (by omega) 1 (.int .i64 bs)) (c:=w.heap.size) (by omega) 2 (.int .i64 0)) (c:=w.heap.size) (by omega) 3 (.int .i64 0)) (c:=w.heap.size) (by omega) 4 (.int .i64 hh)) (c:=w.heap.size) (by omega) 5 (.int .i64 0)
 have g5:=gb_off (gb_off (gb_off (gb_off (gb_off (gb_off GB4.out (c:=w.heap.size) (Nat.le_refl _) 0 (.int .i64 1)) (c:=w.heap.size) (Nat.le_refl _) 1 (.int .i64 bs)) (c:=w.heap.size) (Nat.le_refl _) 2 (.int .i64 0)) (c:=w.heap.size) (Nat.le_refl _) 3 (.int .i64 0)) (c:=w.heap.size) (Nat.le_refl _) 4 (.int .i64 hh)) (c:=w.heap.size) (Nat.le_refl _) 5 (.int .i64 0)
 have Q5:=hid q5
 have P5:=hid p5
 have G5:=hid g5
 clear q5 p5 g5
 go_wp2_with fail
 (try simp only[Exit.inBlock,Exit.then])
 refine bodyPost_ret (resR1 rfl _ _ w.heap.size 122 _ (0,0) _ rfl Q5.out Tryz.underlying122 rfl (show _=some 6 by kernel_rfl)) rfl ?_
 rw[show clS s (.catch bs hh sl)=s from rfl]
 have R:=HH.out.pop (s':=s) G5.out P5.out id rfl rfl rfl rfl
 exact ⟨rfl,R.2,_,R.1⟩
set_option maxHeartbeats 4000000 in
theorem w_closeMethF {B:Nat} {D:Nat→Prop} {w:World} {q:Nat} {s b:Sv} {vf:Value} {bs sl:Int} {fs:List Fm} {nxt fuel thr:Int} (h:RunL B D w q s b vf (.meth bs sl::fs) nxt fuel thr) (hl:fs.length≤1000000):
  Calls Tryz.prog 85 #[.pointer (some ⟨q,0,none⟩)] w fun e w'=>e= .returned (.agg #[.int .i64 2, .int .i64 bs, .int .i64 0, .int .i64 0, .int .i64 0, .int .i64 sl])∧Below B w w'∧∃vf',RunL B D w' q (clS s (.meth bs sl)) b vf' fs nxt fuel thr:=by
 obtain ⟨g,cap,hv, -, -,hg⟩:=h.top
 subst hv
 have hcap:=own_cap h.fr
 have b1:=box_below w (.cells #[.int .i64 0, .int .i64 0, .int .i64 0, .int .i64 0, .int .i64 0, .int .i64 0] 122)
 have h1:=h.below b1
 obtain ⟨TB1,TB2,tbb⟩:=two_boxes w #[.int .i64 0, .int .i64 0, .int .i64 0, .int .i64 0, .int .i64 0, .int .i64 0] #[.int .i64 2, .int .i64 bs, .int .i64 0, .int .i64 0, .int .i64 0, .int .i64 sl] 122
 have h2:=h.below tbb
 obtain ⟨g1,c1,e1,hc,hf, -⟩:=h1.top
 injection e1 with e1 e2 e3
 injection e1 with e1
 injection e1 with e1
 subst e1 e3
 have k0:=hc 0 _ rfl
 rw[Nat.add_zero] at k0
 have k1:=hc 1 _ rfl
 have k2:=hc 2 _ rfl
 have k3:=hc 3 _ rfl
 have k4:=hc 4 _ rfl
 have k5:=hc 5 _ rfl
 have f1:=h1.c22
 have f2:=h2.c22
 have ff:=h2.st.free 22
 have hlen:=len_fm (some ⟨g,0,none⟩) (fs.length+1) cap
 have hix:=idx_fr g (fs.length+1) cap fs.length (by omega)
 have hcut:=cut_fm g (fs.length+1) cap fs.length (by omega) (by omega)
 have hw:IntKind.i64.wrap (((fs.length+1:Nat):Int) - 1)=fs.length:=by rw[IntKind.wrap_i64];omega
 have hq:=st_lt h.st
 have hq1:¬w.heap.size+1=q:=by omega
 have hq0:¬w.heap.size=q:=by omega
 have hsz:(w.setCell ⟨q,22,none⟩ (.slice (some ⟨g,0,none⟩) fs.length cap)).heap.size=w.heap.size:=by simp[World.setCell]
 obtain ⟨x0,x1,tb3⟩:=two_boxes (w.setCell ⟨q,22,none⟩ (.slice (some ⟨g,0,none⟩) fs.length cap)) #[.int .i64 0, .int .i64 0, .int .i64 0, .int .i64 0, .int .i64 0, .int .i64 0] #[.int .i64 2, .int .i64 bs, .int .i64 0, .int .i64 0, .int .i64 0, .int .i64 sl] 122
 rw[hsz] at x0 x1
 have st3:Stands (((w.setCell ⟨q,22,none⟩ (.slice (some ⟨g,0,none⟩) fs.length cap)).alloc (.cells #[.int .i64 0, .int .i64 0, .int .i64 0, .int .i64 0, .int .i64 0, .int .i64 0] 122)).alloc (.cells #[.int .i64 2, .int .i64 bs, .int .i64 0, .int .i64 0, .int .i64 0, .int .i64 sl] 122)) q (rnC s b (.slice (some ⟨g,0,none⟩) fs.length cap) (dpF (.meth bs sl::fs)) nxt fuel thr) 67:=(show Stands (w.setCell ⟨q,22,none⟩ (.slice (some ⟨g,0,none⟩) fs.length cap)) q (rnC s b (.slice (some ⟨g,0,none⟩) fs.length cap) (dpF (.meth bs sl::fs)) nxt fuel thr) 67 from h.st.set 22 _).below tb3
 have GB3:Hid (w.grownBy (((w.setCell ⟨q,22,none⟩ (.slice (some ⟨g,0,none⟩) fs.length cap)).alloc (.cells #[.int .i64 0, .int .i64 0, .int .i64 0, .int .i64 0, .int .i64 0, .int .i64 0] 122)).alloc (.cells #[.int .i64 2, .int .i64 bs, .int .i64 0, .int .i64 0, .int .i64 0, .int .i64 sl] 122)) (some q)):=hid (gb_trans (gb_set (gb_refl _ _) 22 _) (gb_of tb3))
 have HH:=hid h
 obtain ⟨LN,hLN⟩:∃n:Int,((fs.length+1:Nat):Int)=n:=⟨_,rfl⟩
 rw[hLN] at hlen hw
 obtain ⟨M,hM⟩:∃n,fs.length*6=n:=⟨_,rfl⟩
 rw[hM] at k0 k1 k2 k3 k4 k5 hix
 obtain ⟨FI,hFI⟩:∃n:Int,(fs.length:Int)=n:=⟨_,rfl⟩
 rw[hFI] at hix hcut hw
 clear h h1 h2 hc hf hLN hM hFI hcap b1 tbb hg TB1 TB2 tb3 hsz
 go_enter Tryz.func85,Tryz.ntmps85
 go_upto_region 4 with fail
 generalize hW:(((w.setCell ⟨q,22,none⟩ (.slice (some ⟨g,0,none⟩) fs.length cap)).alloc (.cells #[.int .i64 0, .int .i64 0, .int .i64 0, .int .i64 0, .int .i64 0, .int .i64 0] 122)).alloc (.cells #[.int .i64 2, .int .i64 bs, .int .i64 0, .int .i64 0, .int .i64 0, .int .i64 sl] 122))=w3 at*
 clear hW
 have y0:=x1.cell 0 _ rfl
 have y5:=x1.cell 5 _ rfl
 have y8:w3.cell? ⟨q,8,none⟩=some (.int .i64 s.m.self):=st3.cell 8 _ rfl
 have y8f:=st3.free 8
 have st4:Stands (w3.setCell ⟨q,8,none⟩ (.int .i64 sl)) q (rnC {s with m:={s.m with self:=sl}} b (.slice (some ⟨g,0,none⟩) fs.length cap) (dpF fs) nxt fuel thr) 67:=st3.set 8 _
 have x1':=st_off x1 hq1 8 (.int .i64 sl)
 have x0':=st_off x0 hq0 8 (.int .i64 sl)
 have GB4:Hid (w.grownBy (w3.setCell ⟨q,8,none⟩ (.int .i64 sl)) (some q)):=hid (gb_set GB3.out 8 _)
 clear x1 x0 st3
 go_upto_region 9 with fail
 generalize hW:(w3.setCell ⟨q,8,none⟩ (.int .i64 sl))=w4 at*
 clear hW
 have z0:=x1'.cell 0 _ rfl
 have z1:=x1'.cell 1 _ rfl
 have z2:=x1'.cell 2 _ rfl
 have z3:=x1'.cell 3 _ rfl
 have z4:=x1'.cell 4 _ rfl
 have z5:=x1'.cell 5 _ rfl
 have r0:=x0'.cell 0 _ rfl
 have r1:=x0'.cell 1 _ rfl
 have r2:=x0'.cell 2 _ rfl
 have r3:=x0'.cell 3 _ rfl
 have r4:=x0'.cell 4 _ rfl
 have r5:=x0'.cell 5 _ rfl
 have rf:=x0'.free
 have q5:=set6 x0' (.int .i64 2) (.int .i64 bs) (.int .i64 0) (.int .i64 0) (.int .i64 0) (.int .i64 sl)
 have p5:=st_off (st_off (st_off (st_off (st_off (st_off st4 (c:=w.heap.size) (by omega) 0 (.int .i64 2)) (c:=w.heap.size) (by omega) 1 (.int .i64 bs)) (c:=w.heap.size) (by omega) 2 (.int .i64 0)) (c:=w.heap.size) (by omega) 3 (.int .i64 0)) (c:=w.heap.size) (by omega) 4 (.int .i64 0)) (c:=w.heap.size) (by omega) 5 (.int .i64 sl)
 have g5:=gb_off (gb_off (gb_off (gb_off (gb_off (gb_off GB4.out (c:=w.heap.size) (Nat.le_refl _) 0 (.int .i64 2)) (c:=w.heap.size) (Nat.le_refl _) 1 (.int .i64 bs)) (c:=w.heap.size) (Nat.le_refl _) 2 (.int .i64 0)) (c:=w.heap.size) (Nat.le_refl _) 3 (.int .i64 0)) (c:=w.heap.size) (Nat.le_refl _) 4 (.int .i64 0)) (c:=w.heap.size) (Nat.le_refl _) 5 (.int .i64 sl)
 have Q5:=hid q5
 have P5:=hid p5
 have G5:=hid g5
 clear q5 p5 g5
 go_wp2_with fail
 (try simp only[Exit.inBlock,Exit.then])
 refine bodyPost_ret (resR1 rfl _ _ w.heap.size 122 _ (0,0) _ rfl Q5.out Tryz.underlying122 rfl (show _=some 6 by kernel_rfl)) rfl ?_
 have R:=HH.out.pop (s':=clS s (.meth bs sl)) G5.out P5.out (fun z=>z.slf sl) rfl rfl rfl rfl
 exact ⟨rfl,R.2,_,R.1⟩
theorem rd_take {k:IntKind} {w:World} {v:Value} {xs:List Int} (h:Rd k w v xs) (n:Nat) (h0:0 < n) (hn:n≤xs.length):∃b o cap,v= .slice (some ⟨b,o,none⟩) xs.length cap∧∀i,i < n→w.cell? ⟨b,o+i,none⟩=some (.int k (xs.getD i 0)):=by
 rcases h with ⟨_,_,_,_,h⟩|⟨b,o,cap,hv,_,_,_,hc⟩
 ·rw[h] at hn;simp at hn;omega
 ·exact ⟨b,o,cap,hv,fun i hi=>hc i (by omega)⟩
theorem copy_cut {P:Program} {k:IntKind} {w:World} (T e:TypeId) (hu:P.underlying T=some (.slice e)) (hsz:(P.info? e).map (·.size)=some 1) {vs:Value} {g n:Nat} {xs:List Int} (hr:Rd k w vs xs) (hg:Blk k e w g (List.replicate n 0))
  {B:Nat} {w0:World} (hb:Below B w0 w) (hBg:B≤g):
  ∃w' m,(∀ty,(Builtin.copy_ #[T,T] ty #[.slice (some ⟨g,0,none⟩) n n,vs]).run P w= .ok (.int .i64 m) w')∧Blk k e w' g ((xs++List.replicate (n - xs.length) 0).take n)∧Below B w0 w':=by
 by_cases hle:xs.length≤n
 ·obtain ⟨w',r,bk,bl⟩:=run_copy_rd T T e hu hsz (plc_all g n) hr hle hg (by simp) hb hBg
  refine ⟨w',_,r, ?_,bl⟩
  have:((List.replicate n (0:Int)).take 0++xs++(List.replicate n 0).drop (0+xs.length))=(xs++List.replicate (n - xs.length) 0).take n:=by
   have e2:(xs++List.replicate (n - xs.length) (0:Int)).take n=xs++List.replicate (n - xs.length) 0:=List.take_of_length_le (by simp;omega)
   rw[e2]
   simp
  rw[←this]
  exact bk
 ·have hlt:n < xs.length:=by omega
  have ex:(xs++List.replicate (n - xs.length) 0).take n=xs.take n:=by
   rw[List.take_append_of_le_length (by omega)]
  rw[ex]
  rcases Nat.eq_zero_or_pos n with h0|h0
  ·subst h0
   obtain ⟨ao,cap,rfl⟩:=rd_slice hr
   refine ⟨w,0,fun ty=> ?_,by simpa using hg,hb⟩
   have:=run_copy_none (P:=P) w T T ty e (some ⟨g,0,none⟩) ao 0 0 xs.length cap hu hsz (by simp)
   simpa [goInt] using this
  ·obtain ⟨b,o,cap,rfl,hc⟩:=rd_take hr n h0 (by omega)
   unfold Blk at hg
   have hlen:((xs.take n).map (Value.int k)).length=n:=by simp;omega
   have hrun:=fun ty=>run_copy_row (P:=P) w T T ty e g 0 n n ⟨b,o,none⟩ xs.length cap ((List.replicate n (0:Int)).map (Value.int k)).toArray e ((xs.take n).map (Value.int k)) hu hsz hg (by rw[hlen];exact (Nat.min_eq_right (by omega)).symm) ?_ (by simp;omega) ?_
   ·rw[hlen] at hrun
    refine ⟨_,_,hrun, ?_,below_setRow hb hBg _⟩
    unfold Blk
    rw[setRow_heap w g _ _ e _ hg]
    congr 2
    simp
   ·intro j v hj
    rw[List.getElem?_map] at hj
    cases hq:(xs.take n)[j]? with
    |none=>rw[hq] at hj;cases hj
    |some y=>
     rw[hq] at hj
     simp at hj
     subst hj
     have hj2:j < n:=by
      have:=(List.getElem?_eq_some_iff.1 hq).1
      simp at this
      omega
     have:=hc j hj2
     rw[List.getElem?_take_of_lt hj2] at hq
     rw[List.getD_eq_getElem?_getD,hq] at this
     simp at this
     by_cases hz:j=0
     ·subst hz;simpa [Addr.add] using this
     ·simpa [Addr.add,hz] using this
   ·intro v hv
    simp only[List.mem_map] at hv
    obtain ⟨y,_,rfl⟩:=hv
    rfl
theorem Blk.own {k:IntKind} {e:TypeId} {w:World} {g:Nat} {xs:List Int} (h:Blk k e w g xs) (hm:xs.length≤maxLen) {B:Nat} (hB:B≤g):w.ownsRow B e 1 (.slice (some ⟨g,0,none⟩) xs.length xs.length) xs.length (xs.map (Value.int k)):=by
 refine ⟨by simp,Or.inr ⟨g,xs.length,(xs.map (Value.int k)).toArray,rfl,hB,h,Nat.le_refl _,hm,by simp, ?_⟩⟩
 rw[List.take_of_length_le (by simp)]
theorem stb_cutN {D:Nat→Prop} {w:World} {v:Value} {xs:List Int} (hs:Stb kR D w (fun u=>Rd .u32 u v xs)) (n:Int) (h0:0≤n) (hn:n≤xs.length):
  ∃va,(∀w',(Instr.slice 22 v none (some (.int .i64 n)) none).run Tryz.prog w'= .ok va w')∧Stb kR D w (fun u=>Rd .u32 u va (xs.take n.toNat)):=by
 obtain ⟨va,_,_,c1,_⟩:=rd_cutI hs.now Stk.uS Stk.zS 0 n (by omega) h0 hn
 refine ⟨va,c1 rfl,fun W g=> ?_⟩
 obtain ⟨va',ra',_,c1',_⟩:=rd_cutI (hs W g) Stk.uS Stk.zS 0 n (by omega) h0 hn
 have e1:=c1' rfl W
 rw[c1 rfl W] at e1
 injection e1 with e1
 rw[←e1,show (n - 0).toNat=n.toNat by omega] at ra'
 simpa using ra'
theorem infoC32:(Tryz.prog.info? 26).map (fun i=>(i.zero,i.size,i.bytes))=some (some (.int .u32 0),1,4):=by kernel_rfl
theorem sz32:(Tryz.prog.info? 26).map (·.size)=some 1:=by kernel_rfl
set_option maxHeartbeats 4000000 in
theorem w_resume {B:Nat} {D:Nat→Prop} {w:World} {q:Nat} {s b:Sv} {vf:Value} {r:List Fm} {fuel thr:Int} (h:RunL B D w q s b vf r (-1) fuel thr) (bs e:Int) (n:Nat) (hn:n < 64) (h64:s.m.stack.length≤64) (hb0:0≤bs) (hbl:bs≤s.ret.length) (hrl:s.ret.length≤64) (he:0≤e∧e≤28):
  Calls Tryz.prog 88 #[.pointer (some ⟨q,0,none⟩), .agg #[.int .i64 1, .int .i64 bs, .int .i64 0, .int .i64 0, .int .i64 (n:Int), .int .i64 0], .int .i64 e] w fun e' w'=>e'= .returned (.tuple #[])∧Below B w w'∧∃s',RunL B D w' q s' b vf r (-1) fuel thr∧s'.m={s.m with stack:=(s.m.stack++List.replicate (n - s.m.stack.length) 0).take n++[if e=28 then thr else e]}∧s'.ret=s.ret.take bs.toNat:=by
 obtain ⟨i0,hi,hz0,hz1,hz2⟩:=info_parts infoC32
 obtain ⟨c,hc⟩:∃c,(if e=28 then thr else e)=c:=⟨_,rfl⟩
 rw[hc]
 have bb:=box_below w (.cells #[.int .i64 1, .int .i64 bs, .int .i64 0, .int .i64 0, .int .i64 (n:Int), .int .i64 0] 122)
 have st1:=stands_new w #[.int .i64 1, .int .i64 bs, .int .i64 0, .int .i64 0, .int .i64 (n:Int), .int .i64 0] 122
 have h1:=h.below bb
 have f26:=h1.c26
 have y4:=st1.cell 4 _ rfl
 have hw:IntKind.u32.wrap e=e:=by rw[IntKind.wrap_u32];omega
 have hqb:¬w.heap.size=q:=by have:=st_lt h.st;omega
 have H1:=hid h1
 have L1:Hid (Below B w (w.alloc (.cells #[.int .i64 1, .int .i64 bs, .int .i64 0, .int .i64 0, .int .i64 (n:Int), .int .i64 0] 122))):=hid (h.low (gb_of bb))
 clear h h1
 by_cases h28:e=28
 ·rw[if_pos h28] at hc
  subst hc
  subst h28
  go_enter Tryz.func88,Tryz.ntmps88
  go_upto_region 4 with fail
  generalize hW:(w.alloc (.cells #[.int .i64 1, .int .i64 bs, .int .i64 0, .int .i64 0, .int .i64 (n:Int), .int .i64 0] 122))=w1 at*
  clear hW
  have hmk:=run_make_row' (P:=Tryz.prog) 22 26 (.int .u32 0) 4 Tryz.underlying22 infoC32 rfl .i64 .i64 n (by omega) (by omega) w1
  have hbk:=blk_made (k:= .u32) w1 26 n
  have hb1:=box_below w1 (.cells (madeCells #[.int .u32 0] n) 26)
  obtain ⟨w2,hw2⟩:∃w2,w1.alloc (.cells (madeCells #[.int .u32 0] n) 26)=w2:=⟨_,rfl⟩
  rw[hw2] at hmk hbk hb1
  clear hw2
  have h2:=H1.out.below hb1
  have f0:=h2.c0
  obtain ⟨w3,mm,hcp,hbk3,hb3⟩:=copy_cut 22 26 Tryz.underlying22 sz32 h2.hs.stack.now hbk hb1 (Nat.le_refl _)
  obtain ⟨C,hC⟩:∃C,(s.m.stack++List.replicate (n - s.m.stack.length) 0).take n=C:=⟨_,rfl⟩
  have hCl:C.length=n:=by rw[←hC];simp;omega
  rw[hC] at hbk3
  have ow3:w3.ownsRow w1.heap.size 26 1 (.slice (some ⟨w1.heap.size,0,none⟩) n n) C.length (C.map (Value.int .u32)):=by
   have o:=hbk3.own (by rw[hCl];unfold maxLen;omega) (B:=w1.heap.size) (Nat.le_refl _)
   rw[hCl] at o ⊢
   exact o
  have ow4:=own_below ow3 (box_below w3 (.cells #[.int .u32 thr] 26))
  obtain ⟨va,vq,eva⟩:=rd_slice h2.hs.stack.now
  rw[eva] at f0 hcp
  have b14:Below w1.heap.size w1 (w3.alloc (.cells #[.int .u32 thr] 26)):=hb3.alloc hb3.size _
  have OW4:=hid ow4
  have B14:=hid b14
  have HCL:=hid hCl
  have HC:=hid hC
  have ST1:=hid st1
  have hq1:=st_lt H1.out.st
  have hwl:w.heap.size < w1.heap.size:=st_lt st1
  clear ow3 ow4 b14 hCl hC st1 h2 hbk hb1 hbk3 hb3 eva f26 bb
  go_upto_region 7 with (at_builtin;refine wpList_append_rd (k:= .u32) rfl _ _ 22 rfl w1.heap.size 26 i0 4 Tryz.underlying22 hi hz0 hz1 hz2 _ C rfl OW4.out _ [thr] rfl (rd_one w3 thr 26) (by have:=HCL.out;unfold maxLen;simp;omega) (by have:=HCL.out;simp;omega) B14.out.size ?_;intro v5 w5 ow5 gr5;obtain ⟨a5,c5,e5⟩:=own_form ow5;rw[List.length_append,List.length_singleton] at e5;subst e5;have b15:=B14.out.grown gr5 B14.out.size (fun j hj=>by have e6:some w1.heap.size=some j:=hj;injection e6 with e6;omega);have h5:=H1.out.below b15;have g0:=h5.c0;have gf:=h5.st.free 0;have B15:=hid b15;have OW5:=hid ow5;have H5:=hid h5;clear h5 b15)
  obtain ⟨v5,hv5⟩:∃v,Value.slice a5 (C.length+1) c5=v:=⟨_,rfl⟩
  have n6:Stk.RdN w1.heap.size (w5.setCell ⟨q,0,none⟩ (.slice a5 (C.length+1) c5)) (.slice a5 (C.length+1) c5) (C++[thr]):=RdN.gb ⟨(Rd_own OW5.out).1,Nw.own OW5.out⟩ (gb_set (gb_refl _ _) 0 _) hq1
  have h6:=H1.out.stk (gb_set (gb_of B15.out) 0 (.slice a5 (C.length+1) c5)) (H5.out.st.set 0 _) n6
  have L6:=hid (Below.trans L1.out (H1.out.low (gb_set (gb_of B15.out) 0 (.slice a5 (C.length+1) c5))))
  have st6:=st_off (ST1.out.below B15.out) hqb 0 (.slice a5 (C.length+1) c5)
  generalize hW:(w5.setCell ⟨q,0,none⟩ (.slice a5 (C.length+1) c5))=w6 at*
  clear hW n6 g0 gf ow5 gr5
  have hd6:Below w6.heap.size w6 w6.drew:=below_drewN (Below.refl _ _) 1
  have h7:=h6.below hd6
  obtain ⟨vz,zrun,zs⟩:=stb_cutN h7.hs.ret bs hb0 hbl
  obtain ⟨za,zc,ez⟩:=rd_slice zs.now
  obtain ⟨zl,hzl⟩:∃l,((s.stk (.slice a5 (C.length+1) c5) (C++[thr])).ret.take bs.toNat).length=l:=⟨_,rfl⟩
  rw[hzl] at ez
  subst ez
  have zrun':∀w',(Instr.slice 22 s.vr none (some (.int .i64 bs)) none).run Tryz.prog w'= .ok (.slice za zl zc) w':=zrun
  have f10:w6.drew.cell? ⟨q,10,none⟩=some s.vr:=h7.c10
  have f10f:=h7.st.free 10
  have s7:=st6.below hd6
  have K1:Hid (w6.drew.cell? ⟨w.heap.size,1,none⟩=some (.int .i64 bs)):=hid (s7.cell 1 _ rfl)
  have K2:Hid ((w6.drew.setCell ⟨q,10,none⟩ (.slice za zl zc)).cell? ⟨w.heap.size,1,none⟩=some (.int .i64 bs)):=hid ((st_off s7 hqb 10 _).cell 1 _ rfl)
  have g8:w6.drew.grownBy (w6.drew.setCell ⟨q,10,none⟩ (.slice za zl zc)) (some q):=gb_set (gb_refl _ _) 10 _
  have a8:=h7.agr g8
  have h8:=h7.upd (s':=(s.stk (.slice a5 (C.length+1) c5) (C++[thr])).rt (.slice za zl zc) ((s.stk (.slice a5 (C.length+1) c5) (C++[thr])).ret.take bs.toNat)) g8 (h7.st.set 10 _) ((h7.hs.agr a8).rt (zs.agr a8)) (h7.hb.agr a8) rfl rfl rfl rfl h7.bw h7.bi
  have H8:=hid h8
  have L8:=hid (Below.trans L6.out (Below.trans (h6.low (gb_of hd6)) (h7.low g8)))
  clear h6 h7 h8 a8 g8 zs zrun s7 st6 hd6 hzl hv5
  go_wp2_with fail
  refine wp_region_held_drew (S:=fun W=>W.cell? ⟨w.heap.size,1,none⟩=some (.int .i64 bs)) (by kernel_rfl) (K1.out) (fun hHeld=> ?_)
  refine wpAnyH_take (i:=0) (v:= ?v1) rfl (by kernel_rfl) (by kernel_rfl) (by kernel_rfl) (fun _ _ _ h=>h) (Or.inl ⟨by kernel_rfl, ?h1⟩) hHeld ?r1
  case h1=>intro W hSw;(try dsimp only at hSw);obtain s0:=hSw;go_simp;try with_reducible rfl
  simp only[Act.put,List.setIfInBounds_toArray,List.set_cons_zero,List.set_cons_succ]
  refine wpAnyH_take (i:=1) (v:= ?v2) rfl (by kernel_rfl) (by kernel_rfl) (by kernel_rfl) (fun _ _ _ h=>h) (Or.inl ⟨by kernel_rfl, ?h2⟩) hHeld ?r2
  case h2=>intro W hSw;(try dsimp only at hSw);obtain s0:=hSw;go_simp;try with_reducible rfl
  simp only[Act.put,List.setIfInBounds_toArray,List.set_cons_zero,List.set_cons_succ]
  refine wpAnyH_take (i:=2) (v:= ?v3) rfl (by kernel_rfl) (by kernel_rfl) (by kernel_rfl) (fun _ _ _ h=>h) (Or.inl ⟨by kernel_rfl, ?h3⟩) hHeld ?r3
  case h3=>intro W hSw;(try dsimp only at hSw);obtain s0:=hSw;go_simp;try with_reducible rfl
  simp only[Act.put,List.setIfInBounds_toArray,List.set_cons_zero,List.set_cons_succ]
  refine wpAnyH_take (i:=3) (v:= ?v4) rfl (by kernel_rfl) (by kernel_rfl) (by kernel_rfl) (fun _ _ _ h=>h) (Or.inl ⟨by kernel_rfl, ?h4⟩) hHeld ?r4
  case h4=>intro W hSw;(try dsimp only at hSw);obtain s0:=hSw;go_simp;try with_reducible rfl
  simp only[Act.put,List.setIfInBounds_toArray,List.set_cons_zero,List.set_cons_succ]
  refine wpAnyH_take (i:=4) (v:= ?v5) rfl (by kernel_rfl) (by kernel_rfl) (by kernel_rfl) (fun _ _ _ h=>h) (Or.inl ⟨by kernel_rfl, ?h5⟩) hHeld ?r5
  case h5=>intro W hSw;(try dsimp only at hSw);obtain s0:=hSw;go_simp;try with_reducible rfl
  simp only[Act.put,List.setIfInBounds_toArray,List.set_cons_zero,List.set_cons_succ]
  refine wpAnyH_take (i:=6) (v:= ?v6) rfl (by kernel_rfl) (by kernel_rfl) (by kernel_rfl) (fun _ _ _ h=>h) (Or.inl ⟨by kernel_rfl, ?h6⟩) hHeld ?r6
  case h6=>intro W hSw;(try dsimp only at hSw);obtain s0:=hSw;go_simp;try with_reducible rfl
  simp only[Act.put,List.setIfInBounds_toArray,List.set_cons_zero,List.set_cons_succ]
  refine wpAnyH_take (i:=7) (v:= ?v7) rfl (by kernel_rfl) (by kernel_rfl) (by kernel_rfl) (fun _ _ _ h=>h) (Or.inl ⟨by kernel_rfl, ?h7⟩) hHeld ?r7
  case h7=>intro W hSw;(try dsimp only at hSw);obtain s0:=hSw;go_simp;try with_reducible rfl
  simp only[Act.put,List.setIfInBounds_toArray,List.set_cons_zero,List.set_cons_succ]
  refine wpAnyH_ready (rs:=[5]) (by kernel_rfl) (by simp) ?_
  refine AllReadyH.cons rfl (fun K hK=> ?_) AllReadyH.nil
  go_simp
  refine hK.out _ _ (K1.out) (fun hHeld=> ?_)
  clear hK K
  (try simp only[Act.put,List.setIfInBounds_toArray,List.set_cons_zero,List.set_cons_succ])
  refine wpAnyH_take (i:=8) (v:= ?v8) rfl (by kernel_rfl) (by kernel_rfl) (by kernel_rfl) (fun _ _ _ h=>h) (Or.inl ⟨by kernel_rfl, ?h8⟩) hHeld ?r8
  case h8=>intro W hSw;(try dsimp only at hSw);obtain s0:=hSw;go_simp;try with_reducible rfl
  simp only[Act.put,List.setIfInBounds_toArray,List.set_cons_zero,List.set_cons_succ]
  refine wpAnyH_take (i:=9) (v:= ?v9) rfl (by kernel_rfl) (by kernel_rfl) (by kernel_rfl) (fun _ _ _ h=>h) (Or.inl ⟨by kernel_rfl, ?h9⟩) hHeld ?r9
  case h9=>intro W hSw;(try dsimp only at hSw);obtain s0:=hSw;go_simp;try with_reducible rfl
  simp only[Act.put,List.setIfInBounds_toArray,List.set_cons_zero,List.set_cons_succ]
  refine wpAnyH_take (i:=10) (v:= ?v10) rfl (by kernel_rfl) (by kernel_rfl) (by kernel_rfl) (fun _ _ _ h=>h) (Or.inl ⟨by kernel_rfl, ?h10⟩) hHeld ?r10
  case h10=>intro W hSw;(try dsimp only at hSw);obtain s0:=hSw;go_simp;try with_reducible rfl
  simp only[Act.put,List.setIfInBounds_toArray,List.set_cons_zero,List.set_cons_succ]
  refine wpAnyH_take (i:=11) (v:= ?v11) rfl (by kernel_rfl) (by kernel_rfl) (by kernel_rfl) (fun _ _ _ h=>h) (Or.inl ⟨by kernel_rfl, ?h11⟩) hHeld ?r11
  case h11=>intro W hSw;(try dsimp only at hSw);obtain s0:=hSw;go_simp;try with_reducible rfl
  simp only[Act.put,List.setIfInBounds_toArray,List.set_cons_zero,List.set_cons_succ]
  refine wpAnyH_ready (rs:=[12]) (by kernel_rfl) (by simp) ?_
  refine AllReadyH.cons rfl (fun K hK=> ?_) AllReadyH.nil
  go_simp
  refine hK.out _ _ (K2.out) (fun hHeld=> ?_)
  clear hK K
  (try simp only[Act.put,List.setIfInBounds_toArray,List.set_cons_zero,List.set_cons_succ])
  refine wpAnyH_done (by kernel_rfl) ?_ _
  go_wp2_with fail
  go_end0
  exact ⟨rfl,L8.out,_,H8.out,by rw[HC.out];rfl,rfl⟩
 ·rw[if_neg h28] at hc
  subst hc
  have hb28:(e==28)=false:=beq_eq_false_iff_ne.2 h28
  clear h28
  go_enter Tryz.func88,Tryz.ntmps88
  go_upto_region 4 with fail
  generalize hW:(w.alloc (.cells #[.int .i64 1, .int .i64 bs, .int .i64 0, .int .i64 0, .int .i64 (n:Int), .int .i64 0] 122))=w1 at*
  clear hW
  have hmk:=run_make_row' (P:=Tryz.prog) 22 26 (.int .u32 0) 4 Tryz.underlying22 infoC32 rfl .i64 .i64 n (by omega) (by omega) w1
  have hbk:=blk_made (k:= .u32) w1 26 n
  have hb1:=box_below w1 (.cells (madeCells #[.int .u32 0] n) 26)
  obtain ⟨w2,hw2⟩:∃w2,w1.alloc (.cells (madeCells #[.int .u32 0] n) 26)=w2:=⟨_,rfl⟩
  rw[hw2] at hmk hbk hb1
  clear hw2
  have h2:=H1.out.below hb1
  have f0:=h2.c0
  obtain ⟨w3,mm,hcp,hbk3,hb3⟩:=copy_cut 22 26 Tryz.underlying22 sz32 h2.hs.stack.now hbk hb1 (Nat.le_refl _)
  obtain ⟨C,hC⟩:∃C,(s.m.stack++List.replicate (n - s.m.stack.length) 0).take n=C:=⟨_,rfl⟩
  have hCl:C.length=n:=by rw[←hC];simp;omega
  rw[hC] at hbk3
  have ow3:w3.ownsRow w1.heap.size 26 1 (.slice (some ⟨w1.heap.size,0,none⟩) n n) C.length (C.map (Value.int .u32)):=by
   have o:=hbk3.own (by rw[hCl];unfold maxLen;omega) (B:=w1.heap.size) (Nat.le_refl _)
   rw[hCl] at o ⊢
   exact o
  have ow4:=own_below ow3 (box_below w3 (.cells #[.int .u32 e] 26))
  obtain ⟨va,vq,eva⟩:=rd_slice h2.hs.stack.now
  rw[eva] at f0 hcp
  have b14:Below w1.heap.size w1 (w3.alloc (.cells #[.int .u32 e] 26)):=hb3.alloc hb3.size _
  have OW4:=hid ow4
  have B14:=hid b14
  have HCL:=hid hCl
  have HC:=hid hC
  have ST1:=hid st1
  have hq1:=st_lt H1.out.st
  have hwl:w.heap.size < w1.heap.size:=st_lt st1
  clear ow3 ow4 b14 hCl hC st1 h2 hbk hb1 hbk3 hb3 eva f26 bb
  go_upto_region 7 with (at_builtin;refine wpList_append_rd (k:= .u32) rfl _ _ 22 rfl w1.heap.size 26 i0 4 Tryz.underlying22 hi hz0 hz1 hz2 _ C rfl OW4.out _ [e] rfl (rd_one w3 e 26) (by have:=HCL.out;unfold maxLen;simp;omega) (by have:=HCL.out;simp;omega) B14.out.size ?_;intro v5 w5 ow5 gr5;obtain ⟨a5,c5,e5⟩:=own_form ow5;rw[List.length_append,List.length_singleton] at e5;subst e5;have b15:=B14.out.grown gr5 B14.out.size (fun j hj=>by have e6:some w1.heap.size=some j:=hj;injection e6 with e6;omega);have h5:=H1.out.below b15;have g0:=h5.c0;have gf:=h5.st.free 0;have B15:=hid b15;have OW5:=hid ow5;have H5:=hid h5;clear h5 b15)
  obtain ⟨v5,hv5⟩:∃v,Value.slice a5 (C.length+1) c5=v:=⟨_,rfl⟩
  have n6:Stk.RdN w1.heap.size (w5.setCell ⟨q,0,none⟩ (.slice a5 (C.length+1) c5)) (.slice a5 (C.length+1) c5) (C++[e]):=RdN.gb ⟨(Rd_own OW5.out).1,Nw.own OW5.out⟩ (gb_set (gb_refl _ _) 0 _) hq1
  have h6:=H1.out.stk (gb_set (gb_of B15.out) 0 (.slice a5 (C.length+1) c5)) (H5.out.st.set 0 _) n6
  have L6:=hid (Below.trans L1.out (H1.out.low (gb_set (gb_of B15.out) 0 (.slice a5 (C.length+1) c5))))
  have st6:=st_off (ST1.out.below B15.out) hqb 0 (.slice a5 (C.length+1) c5)
  generalize hW:(w5.setCell ⟨q,0,none⟩ (.slice a5 (C.length+1) c5))=w6 at*
  clear hW n6 g0 gf ow5 gr5
  have hd6:Below w6.heap.size w6 w6.drew:=below_drewN (Below.refl _ _) 1
  have h7:=h6.below hd6
  obtain ⟨vz,zrun,zs⟩:=stb_cutN h7.hs.ret bs hb0 hbl
  obtain ⟨za,zc,ez⟩:=rd_slice zs.now
  obtain ⟨zl,hzl⟩:∃l,((s.stk (.slice a5 (C.length+1) c5) (C++[e])).ret.take bs.toNat).length=l:=⟨_,rfl⟩
  rw[hzl] at ez
  subst ez
  have zrun':∀w',(Instr.slice 22 s.vr none (some (.int .i64 bs)) none).run Tryz.prog w'= .ok (.slice za zl zc) w':=zrun
  have f10:w6.drew.cell? ⟨q,10,none⟩=some s.vr:=h7.c10
  have f10f:=h7.st.free 10
  have s7:=st6.below hd6
  have K1:Hid (w6.drew.cell? ⟨w.heap.size,1,none⟩=some (.int .i64 bs)):=hid (s7.cell 1 _ rfl)
  have K2:Hid ((w6.drew.setCell ⟨q,10,none⟩ (.slice za zl zc)).cell? ⟨w.heap.size,1,none⟩=some (.int .i64 bs)):=hid ((st_off s7 hqb 10 _).cell 1 _ rfl)
  have g8:w6.drew.grownBy (w6.drew.setCell ⟨q,10,none⟩ (.slice za zl zc)) (some q):=gb_set (gb_refl _ _) 10 _
  have a8:=h7.agr g8
  have h8:=h7.upd (s':=(s.stk (.slice a5 (C.length+1) c5) (C++[e])).rt (.slice za zl zc) ((s.stk (.slice a5 (C.length+1) c5) (C++[e])).ret.take bs.toNat)) g8 (h7.st.set 10 _) ((h7.hs.agr a8).rt (zs.agr a8)) (h7.hb.agr a8) rfl rfl rfl rfl h7.bw h7.bi
  have H8:=hid h8
  have L8:=hid (Below.trans L6.out (Below.trans (h6.low (gb_of hd6)) (h7.low g8)))
  clear h6 h7 h8 a8 g8 zs zrun s7 st6 hd6 hzl hv5
  go_wp2_with fail
  refine wp_region_held_drew (S:=fun W=>W.cell? ⟨w.heap.size,1,none⟩=some (.int .i64 bs)) (by kernel_rfl) (K1.out) (fun hHeld=> ?_)
  refine wpAnyH_take (i:=0) (v:= ?v12) rfl (by kernel_rfl) (by kernel_rfl) (by kernel_rfl) (fun _ _ _ h=>h) (Or.inl ⟨by kernel_rfl, ?h12⟩) hHeld ?r12
  case h12=>intro W hSw;(try dsimp only at hSw);obtain s0:=hSw;go_simp;try with_reducible rfl
  simp only[Act.put,List.setIfInBounds_toArray,List.set_cons_zero,List.set_cons_succ]
  refine wpAnyH_take (i:=1) (v:= ?v13) rfl (by kernel_rfl) (by kernel_rfl) (by kernel_rfl) (fun _ _ _ h=>h) (Or.inl ⟨by kernel_rfl, ?h13⟩) hHeld ?r13
  case h13=>intro W hSw;(try dsimp only at hSw);obtain s0:=hSw;go_simp;try with_reducible rfl
  simp only[Act.put,List.setIfInBounds_toArray,List.set_cons_zero,List.set_cons_succ]
  refine wpAnyH_take (i:=2) (v:= ?v14) rfl (by kernel_rfl) (by kernel_rfl) (by kernel_rfl) (fun _ _ _ h=>h) (Or.inl ⟨by kernel_rfl, ?h14⟩) hHeld ?r14
  case h14=>intro W hSw;(try dsimp only at hSw);obtain s0:=hSw;go_simp;try with_reducible rfl
  simp only[Act.put,List.setIfInBounds_toArray,List.set_cons_zero,List.set_cons_succ]
  refine wpAnyH_take (i:=3) (v:= ?v15) rfl (by kernel_rfl) (by kernel_rfl) (by kernel_rfl) (fun _ _ _ h=>h) (Or.inl ⟨by kernel_rfl, ?h15⟩) hHeld ?r15
  case h15=>intro W hSw;(try dsimp only at hSw);obtain s0:=hSw;go_simp;try with_reducible rfl
  simp only[Act.put,List.setIfInBounds_toArray,List.set_cons_zero,List.set_cons_succ]
  refine wpAnyH_take (i:=4) (v:= ?v16) rfl (by kernel_rfl) (by kernel_rfl) (by kernel_rfl) (fun _ _ _ h=>h) (Or.inl ⟨by kernel_rfl, ?h16⟩) hHeld ?r16
  case h16=>intro W hSw;(try dsimp only at hSw);obtain s0:=hSw;go_simp;try with_reducible rfl
  simp only[Act.put,List.setIfInBounds_toArray,List.set_cons_zero,List.set_cons_succ]
  refine wpAnyH_take (i:=6) (v:= ?v17) rfl (by kernel_rfl) (by kernel_rfl) (by kernel_rfl) (fun _ _ _ h=>h) (Or.inl ⟨by kernel_rfl, ?h17⟩) hHeld ?r17
  case h17=>intro W hSw;(try dsimp only at hSw);obtain s0:=hSw;go_simp;try with_reducible rfl
  simp only[Act.put,List.setIfInBounds_toArray,List.set_cons_zero,List.set_cons_succ]
  refine wpAnyH_take (i:=7) (v:= ?v18) rfl (by kernel_rfl) (by kernel_rfl) (by kernel_rfl) (fun _ _ _ h=>h) (Or.inl ⟨by kernel_rfl, ?h18⟩) hHeld ?r18
  case h18=>intro W hSw;(try dsimp only at hSw);obtain s0:=hSw;go_simp;try with_reducible rfl
  simp only[Act.put,List.setIfInBounds_toArray,List.set_cons_zero,List.set_cons_succ]
  refine wpAnyH_ready (rs:=[5]) (by kernel_rfl) (by simp) ?_
  refine AllReadyH.cons rfl (fun K hK=> ?_) AllReadyH.nil
  go_simp
  refine hK.out _ _ (K1.out) (fun hHeld=> ?_)
  clear hK K
  (try simp only[Act.put,List.setIfInBounds_toArray,List.set_cons_zero,List.set_cons_succ])
  refine wpAnyH_take (i:=8) (v:= ?v19) rfl (by kernel_rfl) (by kernel_rfl) (by kernel_rfl) (fun _ _ _ h=>h) (Or.inl ⟨by kernel_rfl, ?h19⟩) hHeld ?r19
  case h19=>intro W hSw;(try dsimp only at hSw);obtain s0:=hSw;go_simp;try with_reducible rfl
  simp only[Act.put,List.setIfInBounds_toArray,List.set_cons_zero,List.set_cons_succ]
  refine wpAnyH_take (i:=9) (v:= ?v20) rfl (by kernel_rfl) (by kernel_rfl) (by kernel_rfl) (fun _ _ _ h=>h) (Or.inl ⟨by kernel_rfl, ?h20⟩) hHeld ?r20
  case h20=>intro W hSw;(try dsimp only at hSw);obtain s0:=hSw;go_simp;try with_reducible rfl
  simp only[Act.put,List.setIfInBounds_toArray,List.set_cons_zero,List.set_cons_succ]
  refine wpAnyH_take (i:=10) (v:= ?v21) rfl (by kernel_rfl) (by kernel_rfl) (by kernel_rfl) (fun _ _ _ h=>h) (Or.inl ⟨by kernel_rfl, ?h21⟩) hHeld ?r21
  case h21=>intro W hSw;(try dsimp only at hSw);obtain s0:=hSw;go_simp;try with_reducible rfl
  simp only[Act.put,List.setIfInBounds_toArray,List.set_cons_zero,List.set_cons_succ]
  refine wpAnyH_take (i:=11) (v:= ?v22) rfl (by kernel_rfl) (by kernel_rfl) (by kernel_rfl) (fun _ _ _ h=>h) (Or.inl ⟨by kernel_rfl, ?h22⟩) hHeld ?r22
  case h22=>intro W hSw;(try dsimp only at hSw);obtain s0:=hSw;go_simp;try with_reducible rfl
  simp only[Act.put,List.setIfInBounds_toArray,List.set_cons_zero,List.set_cons_succ]
  refine wpAnyH_ready (rs:=[12]) (by kernel_rfl) (by simp) ?_
  refine AllReadyH.cons rfl (fun K hK=> ?_) AllReadyH.nil
  go_simp
  refine hK.out _ _ (K2.out) (fun hHeld=> ?_)
  clear hK K
  (try simp only[Act.put,List.setIfInBounds_toArray,List.set_cons_zero,List.set_cons_succ])
  refine wpAnyH_done (by kernel_rfl) ?_ _
  go_wp2_with fail
  go_end0
  exact ⟨rfl,L8.out,_,H8.out,by rw[HC.out];rfl,rfl⟩
theorem w_caught0 (q:Nat) (w:World):Calls Tryz.prog 63 #[.pointer (some ⟨q,0,none⟩), .int .i64 11] w fun e w'=>e= .returned (.bool false)∧w'=w:=by
 go_enter Tryz.func63,Tryz.ntmps63
 go_wp2_with fail
 go_ret
 exact ⟨rfl,rfl⟩
def CtP (B:Nat) (D:Nat→Prop) (q:Nat) (b:Sv) (fuel thr:Int) (w:World) (x:Option (Mc×List Int×List Fm)):Ending→World→Prop:=fun e w'=>
 Below B w w'∧match x with
 |none=>e= .returned (.bool false)∧∃s' vf',RunL B D w' q s' b vf' [] (-1) fuel thr
 |some y=>e= .returned (.bool true)∧∃s' vf',RunL B D w' q s' b vf' y.2.2 (-1) fuel thr∧s'.m=y.1∧s'.ret=y.2.1
theorem dpF_tl (f:Fm) (r:List Fm):dpF r≤dpF (f::r):=by cases f <;> simp only[dpF] <;> omega
set_option maxHeartbeats 4000000 in
theorem w_caught {B:Nat} {D:Nat→Prop} {w:World} {q:Nat} {s b:Sv} {vf:Value} {fs:List Fm} {fuel thr:Int} (h:RunL B D w q s b vf fs (-1) fuel thr) (iv:Inv s.m s.ret fs thr) (hl:fs.length≤999999) (hd:dpF fs≤32) (e:Int) (he:Er e) (he1:¬e=11):
  Calls Tryz.prog 63 #[.pointer (some ⟨q,0,none⟩), .int .i64 e] w (CtP B D q b fuel thr w (catO e thr fs s.m s.ret)):=by
 obtain ⟨X,hX⟩:∃X,catO e thr fs s.m s.ret=X:=⟨_,rfl⟩
 rw[hX]
 have hb11:(e==11)=false:=beq_eq_false_iff_ne.2 he1
 have H0:Hid (RunL B D w q s b vf fs (-1) fuel thr∧Inv s.m s.ret fs thr∧catO e thr fs s.m s.ret=X∧dpF fs≤32∧fs.length≤999999):=hid ⟨h,iv,hX,hd,hl⟩
 have HE:=hid he
 clear h iv hX hd hl he1 he
 go_enter Tryz.func63,Tryz.ntmps63
 go_wp2_with fail
 go_loopg [5] fs.length (fun g s5 wx=>∃(fs':List Fm) (s':Sv) (vf':Value),fs'.length=g∧Hid (RunL B D wx q s' b vf' fs' (-1) fuel thr∧Inv s'.m s'.ret fs' thr∧catO e thr fs' s'.m s'.ret=X∧dpF fs'≤32∧fs'.length≤999999)∧Below B w wx)
 case atStart=>exact ⟨fs,s,vf,rfl,H0,Below.refl _ _⟩
 case round=>
  obtain ⟨fs',s',vf',hg,HR,hbw⟩:=hrel
  clear H0
  have f22:=HR.out.1.c22
  cases fs' with
  |nil=>
   obtain ⟨a,c,e0⟩:=own_form HR.out.1.fr
   rw[e0] at f22
   have hlen:=len_fm a 0 c
   have HB:=hid hbw
   clear hbw e0 hg
   go_wp2_with fail
   go_ret
   have eX:=HR.out.2.2.1
   subst eX
   exact ⟨HB.out,rfl,s',vf',HR.out.1⟩
  |cons f r=>
   obtain ⟨g,cap,hv, -, -, -⟩:=HR.out.1.top
   obtain ⟨LN,hLN⟩:∃n:Int,((r.length+1:Nat):Int)=n:=⟨_,rfl⟩
   have hlen:∀ty w',(Builtin.len_ #[65] ty #[vf']).run Tryz.prog w'= .ok (.int .i64 LN) w':=fun ty w'=>by
    rw[hv,←hLN]
    simp[Builtin.len_,run_underlying uFr,goInt]
   have hLN0:0 < LN:=by omega
   have HB:=hid hbw
   have HG:=hid hg
   clear hv hLN hbw hg
   cases f with
   |colon bs wd at_=>
    have hl':r.length+1≤999999:=by simpa using HR.out.2.2.2.2
    have hd':=HR.out.2.2.2.1
    have c:=w_closeColonF HR.out.1 (by omega) (by have:=dpF_tl (.colon bs wd at_) r;omega)
    have C1:=hid c
    clear c hd' hl'
    go_wp2_with (go_at_call 85;refine C1.out.mono ?_;rintro e2 w2 ⟨rfl,b2,vf2,h2⟩;have H2:=hid h2;have B2:=hid b2;clear h2 b2)
    go_roundg r.length
    case measure=>rw[←HG.out];simp
    case rel=>
     have h3:RunL B D _ q (s') b vf2 r (-1) fuel thr:=H2.out.below (box_below w2 (.cells #[.int .i64 0, .int .i64 bs, .int .i64 wd, .int .i64 at_, .int .i64 0, .int .i64 0] 122))
     refine ⟨r,s',vf2,rfl,hid ⟨h3,HR.out.2.1.pop, ?_, ?_, ?_⟩,Below.trans HB.out (Below.trans B2.out (H2.out.low (gb_of (box_below w2 _))))⟩
     ·have eX:=HR.out.2.2.1
      simpa [catO] using eX
     ·have:=dpF_tl (.colon bs wd at_) r
      have:=HR.out.2.2.2.1
      omega
     ·have:=HR.out.2.2.2.2
      simp at this
      omega
   |meth bs sl=>
    have hl':r.length+1≤999999:=by simpa using HR.out.2.2.2.2
    have hd':=HR.out.2.2.2.1
    have c:=w_closeMethF HR.out.1 (by omega)
    have C1:=hid c
    clear c hd' hl'
    go_wp2_with (go_at_call 85;refine C1.out.mono ?_;rintro e2 w2 ⟨rfl,b2,vf2,h2⟩;have H2:=hid h2;have B2:=hid b2;clear h2 b2)
    go_roundg r.length
    case measure=>rw[←HG.out];simp
    case rel=>
     have h3:RunL B D _ q ({s' with m:={s'.m with self:=sl}}) b vf2 r (-1) fuel thr:=H2.out.below (box_below w2 (.cells #[.int .i64 2, .int .i64 bs, .int .i64 0, .int .i64 0, .int .i64 0, .int .i64 sl] 122))
     refine ⟨r,{s' with m:={s'.m with self:=sl}},vf2,rfl,hid ⟨h3,HR.out.2.1.popM, ?_, ?_, ?_⟩,Below.trans HB.out (Below.trans B2.out (H2.out.low (gb_of (box_below w2 _))))⟩
     ·have eX:=HR.out.2.2.1
      simpa [catO] using eX
     ·have:=dpF_tl (.meth bs sl) r
      have:=HR.out.2.2.2.1
      omega
     ·have:=HR.out.2.2.2.2
      simp at this
      omega
   |«catch» bs hh sl=>
    have hl':r.length+1≤999999:=by simpa using HR.out.2.2.2.2
    have hd':=HR.out.2.2.2.1
    have c:=w_closeCatchF HR.out.1 (by omega)
    have C1:=hid c
    clear c hd' hl'
    have fk:=HR.out.2.1.fok
    simp only[Fok] at fk
    obtain ⟨fk1,fk2,fk3,fk4,fk5,fk6⟩:=fk
    have fkb:=fk6.bs
    obtain ⟨n,hn⟩:=Int.eq_ofNat_of_zero_le fk3
    have h64:s'.m.stack.length≤64:=h64_of HR.out.2.1.ok
    have hrl:s'.ret.length≤64:=HR.out.2.1.ok.ran.retL
    have cr:=fun W vf2 (h2:RunL B D W q s' b vf2 r (-1) fuel thr)=>w_resume h2 bs e n (by omega) h64 (by omega) fk1 hrl HE.out
    rw[←hn] at cr
    have CR:=hid cr
    have HN:=hid hn
    clear cr fk1 fk2 fk3 fk4 fk5 fk6 fkb h64 hrl hn
    go_wp2_with (first
     |(go_at_call 85;refine C1.out.mono ?_;rintro e2 w2 ⟨rfl,b2,vf2,h2⟩;have H2:Hid (RunL B D w2 q s' b vf2 r (-1) fuel thr):=hid h2;have B2:=hid b2;clear h2 b2)
     |(go_at_call 88;refine (CR.out _ _ (H2.out.below (box_below w2 (.cells #[.int .i64 1, .int .i64 bs, .int .i64 0, .int .i64 0, .int .i64 hh, .int .i64 0] 122)))).mono ?_;rintro e3 w3 ⟨rfl,b3,s3,h3,p3,p4⟩;have H3:=hid h3;have P3:=hid p3;have P4:=hid p4;have B3:=hid b3;clear h3 p3 p4 b3))
    go_ret
    have eX:=HR.out.2.2.1
    have eX':some ({s'.m with stack:=(s'.m.stack++List.replicate (hh.toNat - s'.m.stack.length) 0).take hh.toNat++[if e=28 then thr else e]},s'.ret.take bs.toNat,r)=X:=eX
    subst eX'
    have hnn:hh.toNat=n:=by rw[HN.out];simp
    refine ⟨Below.trans HB.out (Below.trans B2.out (Below.trans (H2.out.low (gb_of (box_below w2 _))) B3.out)),rfl,s3,vf2,H3.out, ?_,P4.out⟩
    rw[P3.out,hnn]
theorem infoFrame:(Tryz.prog.info? 122).map (fun i=>(i.zero,i.size,i.bytes))=some (some (.agg #[.int .i64 0, .int .i64 0, .int .i64 0, .int .i64 0, .int .i64 0, .int .i64 0]),6,48):=by kernel_rfl
theorem one6 (f:Fm):∀r∈[fmC f],∀u∈r,u.oneCell'=true:=by
 intro r hr u hu
 simp at hr
 subst hr
 cases f <;> (simp[fmC] at hu;rcases hu with rfl|rfl|rfl|rfl|rfl|rfl <;> rfl)
def fnl:List Nat:=[113,114,115,116,117,118,119,120,121,122,123,124,125,126]
theorem uFn:Tryz.prog.underlying 145=some (.slice (Tryz.prog.elem 145)):=by kernel_rfl
theorem eFn:Tryz.prog.elem 145=144:=by kernel_rfl
theorem zFn (w:World):(sizeOf (Tryz.prog.elem 145)).run Tryz.prog w= .ok 1 w:=by rw[eFn];exact Tryz.sizeOf144 w
theorem idx_fn (g m cap n:Nat) (h:n < m):∀w',(Instr.indexAt 145 (.slice (some ⟨g,0,none⟩) m cap) (.int .i64 (n:Int))).run Tryz.prog w'= .ok (.pointer (some ⟨g,n,none⟩)) w':=by
 intro w'
 rw[run_indexAt_slice (h:=uFn),if_pos ⟨by omega,by omega⟩,zFn]
 simp only[Result.andThen,Int.toNat_natCast]
 congr 3
 unfold Addr.add
 split
 ·rename_i hz;simp at hz;rw[hz]
 ·simp
theorem fn_enters:∀i,i < 14→∀args w,(callFunc (fnl.getD i 0) args).run Tryz.prog w= .ok (.enter (fnl.getD i 0) args) w
 |0,_=>enters_of Tryz.func113 (by kernel_rfl) rfl
 |1,_=>enters_of Tryz.func114 (by kernel_rfl) rfl
 |2,_=>enters_of Tryz.func115 (by kernel_rfl) rfl
 |3,_=>enters_of Tryz.func116 (by kernel_rfl) rfl
 |4,_=>enters_of Tryz.func117 (by kernel_rfl) rfl
 |5,_=>enters_of Tryz.func118 (by kernel_rfl) rfl
 |6,_=>enters_of Tryz.func119 (by kernel_rfl) rfl
 |7,_=>enters_of Tryz.func120 (by kernel_rfl) rfl
 |8,_=>enters_of Tryz.func121 (by kernel_rfl) rfl
 |9,_=>enters_of Tryz.func122 (by kernel_rfl) rfl
 |10,_=>enters_of Tryz.func123 (by kernel_rfl) rfl
 |11,_=>enters_of Tryz.func124 (by kernel_rfl) rfl
 |12,_=>enters_of Tryz.func125 (by kernel_rfl) rfl
 |13,_=>enters_of Tryz.func126 (by kernel_rfl) rfl
 |n+14,h=>by omega
theorem fn_cell (p:Value):∀i,i < 14→(#[.func (.func 113) #[p] #[], .func (.func 114) #[p] #[], .func (.func 115) #[p] #[], .func (.func 116) #[p] #[], .func (.func 117) #[p] #[], .func (.func 118) #[p] #[], .func (.func 119) #[p] #[], .func (.func 120) #[p] #[], .func (.func 121) #[p] #[], .func (.func 122) #[p] #[], .func (.func 123) #[p] #[], .func (.func 124) #[p] #[], .func (.func 125) #[p] #[], .func (.func 126) #[p] #[]]:Array Value)[i]? =some (.func (.func (fnl.getD i 0)) #[p] #[])
 |0,_=>rfl
 |1,_=>rfl
 |2,_=>rfl
 |3,_=>rfl
 |4,_=>rfl
 |5,_=>rfl
 |6,_=>rfl
 |7,_=>rfl
 |8,_=>rfl
 |9,_=>rfl
 |10,_=>rfl
 |11,_=>rfl
 |12,_=>rfl
 |13,_=>rfl
 |n+14,h=>by omega
set_option maxHeartbeats 2000000 in
theorem w_first (q:Nat) (op:Int) (w:World) (j:Nat) (hj:j < 14) (Q:Ending→World→Prop)
  (no:∀i,i < j→∀W,Below w.heap.size w W→Calls Tryz.prog (fnl.getD i 0) #[.pointer (some ⟨q,0,none⟩), .int .i64 op] W fun e w'=>e= .returned (.tuple #[.bool false, .int .i64 0])∧Below W.heap.size W w')
  (own:∀W,Below w.heap.size w W→Calls Tryz.prog (fnl.getD j 0) #[.pointer (some ⟨q,0,none⟩), .int .i64 op] W fun e w'=>∃E,e= .returned (.tuple #[.bool true, .int .i64 E])∧Q (.returned (.int .i64 E)) w'):
  Calls Tryz.prog 82 #[.pointer (some ⟨q,0,none⟩), .int .i64 op] w Q:=by
 have hmf:∀(fn:Fn) (first cap:Array Value) (w:World),(Instr.makeFunc fn first cap).run Tryz.prog w= .ok (.func fn first cap) w:=fun _ _ _ _=>rfl
 have NO:=hid no
 have OWN:=hid own
 have st:=hid (stands_new w #[.func (.func 113) #[.pointer (some ⟨q,0,none⟩)] #[], .func (.func 114) #[.pointer (some ⟨q,0,none⟩)] #[], .func (.func 115) #[.pointer (some ⟨q,0,none⟩)] #[], .func (.func 116) #[.pointer (some ⟨q,0,none⟩)] #[], .func (.func 117) #[.pointer (some ⟨q,0,none⟩)] #[], .func (.func 118) #[.pointer (some ⟨q,0,none⟩)] #[], .func (.func 119) #[.pointer (some ⟨q,0,none⟩)] #[], .func (.func 120) #[.pointer (some ⟨q,0,none⟩)] #[], .func (.func 121) #[.pointer (some ⟨q,0,none⟩)] #[], .func (.func 122) #[.pointer (some ⟨q,0,none⟩)] #[], .func (.func 123) #[.pointer (some ⟨q,0,none⟩)] #[], .func (.func 124) #[.pointer (some ⟨q,0,none⟩)] #[], .func (.func 125) #[.pointer (some ⟨q,0,none⟩)] #[], .func (.func 126) #[.pointer (some ⟨q,0,none⟩)] #[]] 144)
 have bx:=hid (box_below w (.cells #[.func (.func 113) #[.pointer (some ⟨q,0,none⟩)] #[], .func (.func 114) #[.pointer (some ⟨q,0,none⟩)] #[], .func (.func 115) #[.pointer (some ⟨q,0,none⟩)] #[], .func (.func 116) #[.pointer (some ⟨q,0,none⟩)] #[], .func (.func 117) #[.pointer (some ⟨q,0,none⟩)] #[], .func (.func 118) #[.pointer (some ⟨q,0,none⟩)] #[], .func (.func 119) #[.pointer (some ⟨q,0,none⟩)] #[], .func (.func 120) #[.pointer (some ⟨q,0,none⟩)] #[], .func (.func 121) #[.pointer (some ⟨q,0,none⟩)] #[], .func (.func 122) #[.pointer (some ⟨q,0,none⟩)] #[], .func (.func 123) #[.pointer (some ⟨q,0,none⟩)] #[], .func (.func 124) #[.pointer (some ⟨q,0,none⟩)] #[], .func (.func 125) #[.pointer (some ⟨q,0,none⟩)] #[], .func (.func 126) #[.pointer (some ⟨q,0,none⟩)] #[]] 144))
 clear no own
 go_enter Tryz.func82,Tryz.ntmps82
 go_wp2_with fail
 go_loopw [39] (fun I wx=>∃k:Nat,k≤j∧I= .int .i64 k∧Hid (Below (w.alloc (.cells #[.func (.func 113) #[.pointer (some ⟨q,0,none⟩)] #[], .func (.func 114) #[.pointer (some ⟨q,0,none⟩)] #[], .func (.func 115) #[.pointer (some ⟨q,0,none⟩)] #[], .func (.func 116) #[.pointer (some ⟨q,0,none⟩)] #[], .func (.func 117) #[.pointer (some ⟨q,0,none⟩)] #[], .func (.func 118) #[.pointer (some ⟨q,0,none⟩)] #[], .func (.func 119) #[.pointer (some ⟨q,0,none⟩)] #[], .func (.func 120) #[.pointer (some ⟨q,0,none⟩)] #[], .func (.func 121) #[.pointer (some ⟨q,0,none⟩)] #[], .func (.func 122) #[.pointer (some ⟨q,0,none⟩)] #[], .func (.func 123) #[.pointer (some ⟨q,0,none⟩)] #[], .func (.func 124) #[.pointer (some ⟨q,0,none⟩)] #[], .func (.func 125) #[.pointer (some ⟨q,0,none⟩)] #[], .func (.func 126) #[.pointer (some ⟨q,0,none⟩)] #[]] 144)).heap.size (w.alloc (.cells #[.func (.func 113) #[.pointer (some ⟨q,0,none⟩)] #[], .func (.func 114) #[.pointer (some ⟨q,0,none⟩)] #[], .func (.func 115) #[.pointer (some ⟨q,0,none⟩)] #[], .func (.func 116) #[.pointer (some ⟨q,0,none⟩)] #[], .func (.func 117) #[.pointer (some ⟨q,0,none⟩)] #[], .func (.func 118) #[.pointer (some ⟨q,0,none⟩)] #[], .func (.func 119) #[.pointer (some ⟨q,0,none⟩)] #[], .func (.func 120) #[.pointer (some ⟨q,0,none⟩)] #[], .func (.func 121) #[.pointer (some ⟨q,0,none⟩)] #[], .func (.func 122) #[.pointer (some ⟨q,0,none⟩)] #[], .func (.func 123) #[.pointer (some ⟨q,0,none⟩)] #[], .func (.func 124) #[.pointer (some ⟨q,0,none⟩)] #[], .func (.func 125) #[.pointer (some ⟨q,0,none⟩)] #[], .func (.func 126) #[.pointer (some ⟨q,0,none⟩)] #[]] 144)) wx)) (fun I _=>(14 - intOf I).toNat)
 case atStart=>exact ⟨0,by omega,rfl,Below.refl _ _⟩
 case round=>
  obtain ⟨k,hk,rfl,hg⟩:=hrel
  have hk14:(k:Int) < 14:=by omega
  have hix:=idx_fn w.heap.size 14 14 k (by omega)
  have kc:=(st.out.below hg.out).cell k _ (fn_cell _ k (by omega))
  have B1:Hid (Below w.heap.size w wr):=below_trans bx.out hg.out
  have eg:=fn_enters k (by omega)
  by_cases hkj:k=j
  ·subst hkj
   have hc:=OWN.out wr B1.out
   obtain ⟨g,hgn⟩:∃g,fnl.getD k 0=g:=⟨_,rfl⟩
   rw[hgn] at kc eg hc
   clear hgn NO OWN st bx
   go_wp2_with (go_at_fn g;refine hc.mono ?_;rintro e w1 ⟨E,rfl,hQ⟩)
   exact hQ
  ·have hc:=NO.out k (by omega) wr B1.out
   obtain ⟨g,hgn⟩:∃g,fnl.getD k 0=g:=⟨_,rfl⟩
   rw[hgn] at kc eg hc
   clear hgn NO OWN st bx
   go_wp2_with (go_at_fn g;refine hc.mono ?_;rintro e w1 ⟨rfl,b1⟩)
   go_roundw
   case rel=>exact ⟨k+1,by omega,by go_num,below_trans hg.out b1⟩
   case measure=>simp[intOf];omega
def noB (i:Nat) (c:Int):Bool:=match i with
 |0=>decide (¬Cel.binE c 1=0)
 |1=>decide (¬Cel.unE c=0)
 |3=> !Stk.isT c&& !decide (78≤c∧c≤81)
 |2=> !([126,42,43,212,213,469,725,216,217,127]:List Int).contains c
 |4=> !([164,165,166,167,168,169,173,515,522]:List Int).contains c
 |5=> !([48,49,50,25,26,137]:List Int).contains c
 |6=> !([29,535,526,536]:List Int).contains c
 |7=> !([109,111,113]:List Int).contains c
 |8=> !([114,116,117,108]:List Int).contains c
 |9=> !([120,121,122,139]:List Int).contains c
 |10=> !([143,144,146,155,157,160]:List Int).contains c
 |11=> !([273,276,274]:List Int).contains c
 |12=> !([539,540]:List Int).contains c
 |13=> !([272,542,538,287,295]:List Int).contains c
 |_=>false
theorem no_at {B:Nat} {D:Nat→Prop} {w:World} {q:Nat} {s b:Sv} {vf:Value} {fs:List Fm} {fuel thr:Int} (h:RunL B D w q s b vf fs (-1) fuel thr) (ok:Okr (toR s fs thr)) (c:Int):∀i,noB i c=true→Calls Tryz.prog (fnl.getD i 0) #[.pointer (some ⟨q,0,none⟩), .int .i64 c] w fun e w'=>e= .returned (.tuple #[.bool false, .int .i64 0])∧Below w.heap.size w w'
 |0,hn=>n_binary q c w (of_decide_eq_true hn)
 |1,hn=>n_unary q c w (of_decide_eq_true hn)
 |3,hn=>by
  have hs:s.m.stack.length≤64:=(frm_parts ok.frm).1
  simp only[noB,Bool.and_eq_true,Bool.not_eq_true',decide_eq_false_iff_not] at hn
  exact n_turn h c ok (by rw[doF_none c s.m.stack hs hn.1 hn.2])
 |2,hn=>by
  simp[noB] at hn
  exact n_wide q c w (by omega) (by omega) (by omega) (by omega) (by omega) (by omega) (by omega) (by omega) (by omega) (by omega)
 |4,hn=>by
  simp[noB] at hn
  exact n_number q c w (by omega) (by omega) (by omega) (by omega) (by omega) (by omega) (by omega) (by omega) (by omega)
 |5,hn=>by
  simp[noB] at hn
  exact n_returns q c w (by omega) (by omega) (by omega) (by omega) (by omega) (by omega)
 |6,hn=>by
  simp[noB] at hn
  exact n_lead q c w (by omega) (by omega) (by omega) (by omega)
 |7,hn=>by
  simp[noB] at hn
  exact n_fetch q c w (by omega) (by omega) (by omega)
 |8,hn=>by
  simp[noB] at hn
  exact n_store q c w (by omega) (by omega) (by omega) (by omega)
 |9,hn=>by
  simp[noB] at hn
  exact n_stretch q c w (by omega) (by omega) (by omega) (by omega)
 |10,hn=>by
  simp[noB] at hn
  exact n_console q c w (by omega) (by omega) (by omega) (by omega) (by omega) (by omega)
 |11,hn=>by
  simp[noB] at hn
  exact n_encode q c w (by omega) (by omega) (by omega)
 |12,hn=>by
  simp[noB] at hn
  exact n_decode q c w (by omega) (by omega)
 |13,hn=>by
  simp[noB] at hn
  exact n_device q c w (by omega) (by omega) (by omega) (by omega) (by omega)
 |n+14,hn=>by simp[noB] at hn
theorem NxP.low {B:Nat} {D:Nat→Prop} {q:Nat} {s b:Sv} {fs:List Fm} {fuel:Int} {w W w':World} {nx:Nx} {ret:Int→Ending} {e:Ending} (L:Below B w W) (h:NxP B D q s b fs fuel W nx ret e w'):NxP B D q s b fs fuel w nx ret e w':=⟨Below.trans L h.1,h.2⟩
theorem w_firstN {B:Nat} {D:Nat→Prop} {w:World} {q:Nat} {s b:Sv} {vf:Value} {fs:List Fm} {fuel thr:Int} (h:RunL B D w q s b vf fs (-1) fuel thr) (ok:Okr (toR s fs thr)) (c:Int) (j:Nat) (hj:j < 14) (nx:Nx) (hno:∀i,i < j→noB i c=true)
  (hown:∀W,RunL B D W q s b vf fs (-1) fuel thr→Calls Tryz.prog (fnl.getD j 0) #[.pointer (some ⟨q,0,none⟩), .int .i64 c] W (NxP B D q s b fs fuel W nx (fun E=> .returned (.tuple #[.bool true, .int .i64 E])))):
  Calls Tryz.prog 82 #[.pointer (some ⟨q,0,none⟩), .int .i64 c] w (NxP B D q s b fs fuel w nx (fun E=> .returned (.int .i64 E))):=by
 refine w_first q c w j hj _ (fun i hi W g=>no_at (h.below g) ok c i (hno i hi)) (fun W g=> ?_)
 refine (hown W (h.below g)).mono ?_
 rintro e w' ⟨L,s',vf',fs',nxt',thr',E,rfl,rest⟩
 exact ⟨E,rfl,NxP.low (h.low (gb_of g)) ⟨L,s',vf',fs',nxt',thr',E,rfl,rest⟩⟩
theorem prm_done (c:Int) (R:Rs) (h1:¬c=29) (h2:¬c=535) (h3:¬c=526):iPrm iP c R= .done (iP c R).1 (iP c R).2:=by
 unfold iPrm
 rw[if_neg (by omega),if_neg h3]
theorem f_25 {B:Nat} {D:Nat→Prop} {w:World} {q:Nat} {s b:Sv} {vf:Value} {fs:List Fm} {fuel thr:Int} (h:RunL B D w q s b vf fs (-1) fuel thr) (ok:Okr (toR s fs thr)) (hl:fs.length≤1000000) (hb0:0≤bsF fs):
  Calls Tryz.prog 82 #[.pointer (some ⟨q,0,none⟩), .int .i64 25] w (NxP B D q s b fs fuel w (iPrm iP 25 (toR s fs thr)) (fun E=> .returned (.int .i64 E))):=
 w_firstN h ok 25 5 (by decide) _ (by decide) (fun W hW=>by rw[prm_done 25 _ (by decide) (by decide) (by decide)];exact (w_ret25 hW ok hl hb0).mono (fun e w' h=>PrmP.nx h))
theorem f_32 {B:Nat} {D:Nat→Prop} {w:World} {q:Nat} {s b:Sv} {vf:Value} {fs:List Fm} {fuel thr:Int} (h:RunL B D w q s b vf fs (-1) fuel thr) (ok:Okr (toR s fs thr)) (hl:fs.length≤1000000) (hb0:0≤bsF fs):
  Calls Tryz.prog 82 #[.pointer (some ⟨q,0,none⟩), .int .i64 32] w (NxP B D q s b fs fuel w (iPrm iP 32 (toR s fs thr)) (fun E=> .returned (.int .i64 E))):=
 w_firstN h ok 32 0 (by decide) _ (by decide) (fun W hW=>by rw[prm_done 32 _ (by decide) (by decide) (by decide)];exact (w_binary hW ok 32 (by decide) (by decide)).mono (fun e w' h=>PrmP.nx h))
theorem infoOp9:(Tryz.prog.info? 47).map (fun i=>(i.zero,i.size,i.bytes))=some (some (.agg #[.int .i64 0, .int .u32 0]),2,16):=by kernel_rfl
theorem infoWd9:(Tryz.prog.info? 59).map (fun i=>(i.zero,i.size,i.bytes))=some (some (.agg #[.string ⟨#[]⟩, .int .i64 0, .int .i64 0, .int .u32 0, .slice none 0 0]),5,64):=by kernel_rfl
theorem infoIz9:(Tryz.prog.info? 62).map (fun i=>(i.zero,i.size,i.bytes))=some (some (.agg #[.int .i64 0, .int .i64 0, .string ⟨#[]⟩, .slice none 0 0]),4,56):=by kernel_rfl
theorem infoI64:(Tryz.prog.info? 3).map (fun i=>(i.zero,i.size,i.bytes))=some (some (.int .i64 0),1,8):=by kernel_rfl
set_option maxHeartbeats 1000000 in
theorem w_pcloneW (v:Value) (rows:List (List Value)) (w:World) (h:SlC 5 w v rows) (h1:∀r∈rows,∀u∈r,u.oneCell'=true) (hb:rows.length*64≤140737488355328):
  Calls Tryz.prog 55 #[v] w fun e w'=>∃v',e= .returned v'∧w'.ownsRow w.heap.size 59 5 v' rows.length rows.flatten∧Below w.heap.size w w':=by
 obtain ⟨i0,hi,hz0,hz1,hz2⟩:=info_parts infoWd9
 obtain ⟨ao,cap,rfl,hc,hn,hx⟩:=h.form
 cases ao with
 |none=>
  have hc0:=hn rfl
  have hl:rows=[]:=List.eq_nil_of_length_eq_zero (by omega)
  subst hl
  subst hc0
  show Calls _ _ #[.slice none 0 0] _ _
  have q:=Lib.run_eql_slice_nil (P:=Tryz.prog) w 24 59 none 0 0 0 0 Tryz.underlying24
  go_enter Tryz.func55,Tryz.ntmps55
  go_wp2_with fail
  go_ret
  exact ⟨_,rfl,World.ownsRow_nil _ _ _ _,Below.refl _ _⟩
 |some a=>
  have q:=Lib.run_eql_slice_nil (P:=Tryz.prog) w 24 59 (some a) rows.length cap 0 0 Tryz.underlying24
  have ha:=h.below (box_below w (.cells #[] 59))
  go_enter Tryz.func55,Tryz.ntmps55
  go_wp2_with (at_builtin;refine wpList_append_rows rfl _ _ 24 rfl w.heap.size 59 i0 _ 5 64 Tryz.underlying24 hi hz0 hz1 hz2 rfl (by decide) _ 0 [] rfl (World.ownsRow_made w #[] 0 (Nat.le_refl _) (Nat.zero_le _) rfl) _ rows rfl ha h1 (by unfold maxLen;omega) (by omega) (by simp) ?_;intro v5 w5 ho5 hg5)
  go_ret
  exact ⟨v5,rfl,by simpa using ho5,below_grown (box_below w _) hg5 (fun k hk=>by simp[Value.ownBlock,Act.eval] at hk;omega)⟩
set_option maxHeartbeats 1000000 in
theorem w_pcloneO (v:Value) (rows:List (List Value)) (w:World) (h:SlC 2 w v rows) (h1:∀r∈rows,∀u∈r,u.oneCell'=true) (hb:rows.length*16≤140737488355328):
  Calls Tryz.prog 56 #[v] w fun e w'=>∃v',e= .returned v'∧w'.ownsRow w.heap.size 47 2 v' rows.length rows.flatten∧Below w.heap.size w w':=by
 obtain ⟨i0,hi,hz0,hz1,hz2⟩:=info_parts infoOp9
 obtain ⟨ao,cap,rfl,hc,hn,hx⟩:=h.form
 cases ao with
 |none=>
  have hc0:=hn rfl
  have hl:rows=[]:=List.eq_nil_of_length_eq_zero (by omega)
  subst hl
  subst hc0
  show Calls _ _ #[.slice none 0 0] _ _
  have q:=Lib.run_eql_slice_nil (P:=Tryz.prog) w 50 47 none 0 0 0 0 Tryz.underlying50
  go_enter Tryz.func56,Tryz.ntmps56
  go_wp2_with fail
  go_ret
  exact ⟨_,rfl,World.ownsRow_nil _ _ _ _,Below.refl _ _⟩
 |some a=>
  have q:=Lib.run_eql_slice_nil (P:=Tryz.prog) w 50 47 (some a) rows.length cap 0 0 Tryz.underlying50
  have ha:=h.below (box_below w (.cells #[] 47))
  go_enter Tryz.func56,Tryz.ntmps56
  go_wp2_with (at_builtin;refine wpList_append_rows rfl _ _ 50 rfl w.heap.size 47 i0 _ 2 16 Tryz.underlying50 hi hz0 hz1 hz2 rfl (by decide) _ 0 [] rfl (World.ownsRow_made w #[] 0 (Nat.le_refl _) (Nat.zero_le _) rfl) _ rows rfl ha h1 (by unfold maxLen;omega) (by omega) (by simp) ?_;intro v5 w5 ho5 hg5)
  go_ret
  exact ⟨v5,rfl,by simpa using ho5,below_grown (box_below w _) hg5 (fun k hk=>by simp[Value.ownBlock,Act.eval] at hk;omega)⟩
set_option maxHeartbeats 1000000 in
theorem w_pcloneI (v:Value) (rows:List (List Value)) (w:World) (h:SlC 4 w v rows) (h1:∀r∈rows,∀u∈r,u.oneCell'=true) (hb:rows.length*56≤140737488355328):
  Calls Tryz.prog 59 #[v] w fun e w'=>∃v',e= .returned v'∧w'.ownsRow w.heap.size 62 4 v' rows.length rows.flatten∧Below w.heap.size w w':=by
 obtain ⟨i0,hi,hz0,hz1,hz2⟩:=info_parts infoIz9
 obtain ⟨ao,cap,rfl,hc,hn,hx⟩:=h.form
 cases ao with
 |none=>
  have hc0:=hn rfl
  have hl:rows=[]:=List.eq_nil_of_length_eq_zero (by omega)
  subst hl
  subst hc0
  show Calls _ _ #[.slice none 0 0] _ _
  have q:=Lib.run_eql_slice_nil (P:=Tryz.prog) w 28 62 none 0 0 0 0 Tryz.underlying28
  go_enter Tryz.func59,Tryz.ntmps59
  go_wp2_with fail
  go_ret
  exact ⟨_,rfl,World.ownsRow_nil _ _ _ _,Below.refl _ _⟩
 |some a=>
  have q:=Lib.run_eql_slice_nil (P:=Tryz.prog) w 28 62 (some a) rows.length cap 0 0 Tryz.underlying28
  have ha:=h.below (box_below w (.cells #[] 62))
  go_enter Tryz.func59,Tryz.ntmps59
  go_wp2_with (at_builtin;refine wpList_append_rows rfl _ _ 28 rfl w.heap.size 62 i0 _ 4 56 Tryz.underlying28 hi hz0 hz1 hz2 rfl (by decide) _ 0 [] rfl (World.ownsRow_made w #[] 0 (Nat.le_refl _) (Nat.zero_le _) rfl) _ rows rfl ha h1 (by unfold maxLen;omega) (by omega) (by simp) ?_;intro v5 w5 ho5 hg5)
  go_ret
  exact ⟨v5,rfl,by simpa using ho5,below_grown (box_below w _) hg5 (fun k hk=>by simp[Value.ownBlock,Act.eval] at hk;omega)⟩
set_option maxHeartbeats 1000000 in
theorem w_pcloneJ (v:Value) (xs:List Int) (w:World) (h:Rd .i64 w v xs) (hb:xs.length*8≤140737488355328):
  Calls Tryz.prog 57 #[v] w fun e w'=>∃v',e= .returned v'∧w'.ownsRow w.heap.size 3 1 v' xs.length (xs.map (Value.int .i64))∧Below w.heap.size w w':=by
 obtain ⟨i0,hi,hz0,hz1,hz2⟩:=info_parts infoI64
 obtain ⟨ao,cap,rfl,hc,hn,hx⟩:=rd_form h
 cases ao with
 |none=>
  have hc0:=hn rfl
  have hl:xs=[]:=List.eq_nil_of_length_eq_zero (by omega)
  subst hl
  subst hc0
  show Calls _ _ #[.slice none 0 0] _ _
  have q:=Lib.run_eql_slice_nil (P:=Tryz.prog) w 25 3 none 0 0 0 0 Tryz.underlying25
  go_enter Tryz.func57,Tryz.ntmps57
  go_wp2_with fail
  go_ret
  exact ⟨_,rfl,World.ownsRow_nil _ _ _ _,Below.refl _ _⟩
 |some a=>
  have q:=Lib.run_eql_slice_nil (P:=Tryz.prog) w 25 3 (some a) xs.length cap 0 0 Tryz.underlying25
  have ha:=h.below (box_below w (.cells #[] 3))
  go_enter Tryz.func57,Tryz.ntmps57
  go_wp2_with (at_builtin;refine wpList_append_rd (k:= .i64) rfl _ _ 25 rfl w.heap.size 3 i0 8 Tryz.underlying25 hi hz0 hz1 hz2 _ [] rfl (World.ownsRow_made w #[] 0 (Nat.le_refl _) (Nat.zero_le _) rfl) _ xs rfl ha (by unfold maxLen;simp;omega) (by simp;omega) (by simp) ?_;intro v5 w5 ho5 hg5)
  go_ret
  exact ⟨v5,rfl,by simpa using ho5,below_grown (box_below w _) hg5 (fun k hk=>by simp[Value.ownBlock,Act.eval] at hk;omega)⟩
set_option maxHeartbeats 20000000 in
set_option maxRecDepth 1000000 in
theorem w_p9primsO (w:World):
  Calls Tryz.prog 104 #[] w fun e w'=>∃v,e= .returned v∧OwnR 83 2 prmR w.heap.size w' v prmL∧Below w.heap.size w w':=by
 go_enter Tryz.func104,Tryz.ntmps104
 refine wp_seq (wp_region_list (wpList_runL _ _ _ _ _ rfl ?_))
 simp only[Exit.then]
 refine wp_seq (wp_region_runL (t:=0) (v:= .slice (some ⟨w.heap.size,0,none⟩) 111 111) (w':=w.alloc (.cells (prmL.map prmV).flatten.toArray 83)) (by kernel_rfl) ?_)
 intro a' h1 h2
 simp only[Exit.then]
 refine wp_ret ?_
 refine bodyPost_ret (results_tmp rfl _ _ _) h2 ?_
 rw[h1]
 exact ⟨_,rfl,prm_own w,box_below w _⟩
set_option maxHeartbeats 1000000 in
theorem w_pbelow (X c:Int) (w:World) (h0:0≤X) (h1:X < 4294967296):
  Calls Tryz.prog 174 #[.int .u32 X, .int .i64 c] w fun e w'=>e= .returned (.bool (decide (X < c)))∧w'=w:=by
 have hw:=u32_i64 X h0 h1
 go_enter Tryz.func174,Tryz.ntmps174
 go_wp2_with fail
 go_ret
 exact ⟨rfl,rfl⟩
set_option maxHeartbeats 1000000 in
theorem w_pnob (n c:Int) (w:World):
  Calls Tryz.prog 71 #[.int .i64 n, .int .i64 c] w fun e w'=>e= .returned (.bool (decide (-1≤n∧n < c)))∧w'=w:=by
 by_cases h: -1≤n
 ·have e:decide (-1≤n∧n < c)=decide (n < c):=by rw[decide_eq_decide];omega
  rw[e]
  clear e
  go_enter Tryz.func71,Tryz.ntmps71
  go_wp2_with fail
  go_ret
  exact ⟨rfl,rfl⟩
 ·have e:decide (-1≤n∧n < c)=false:=by rw[decide_eq_false_iff_not];omega
  rw[e]
  clear e
  go_enter Tryz.func71,Tryz.ntmps71
  go_wp2_with fail
  go_ret
  exact ⟨rfl,rfl⟩
set_option maxHeartbeats 2000000 in
set_option maxRecDepth 100000 in
theorem w_p9named' (s:ByteArray) (w:World) (hs:s.size≤maxLen):
  Calls Tryz.prog 172 #[.string s] w fun e w'=>e= .returned (.bool (namF (L s)))∧w'=w:=by
 have hs2:=hs
 unfold maxLen at hs2
 by_cases h0:s=⟨#[]⟩
 ·have hf:Hid (namF (L s)=false):=by show _=_;subst h0;decide+kernel
  have q0:(s.toList==(⟨#[]⟩:ByteArray).toList)=true:=by subst h0;decide+kernel
  have q1:s.toList.isEmpty=true:=by subst h0;decide+kernel
  clear h0
  go_enter Tryz.func172,Tryz.ntmps172
  go_wp2_with fail
  go_ret
  exact ⟨ret_b hf.out.symm,rfl⟩
 ·have q0:(s.toList==(⟨#[]⟩:ByteArray).toList)=false:=by rw[str_beq];exact decide_eq_false h0
  have q1:s.toList.isEmpty=false:=emp_no h0
  by_cases h31:(31:Int) < s.size
  ·have hf:Hid (namF (L s)=false):=by
    show _=_
    unfold namF
    rw[L_len,Bool.and_eq_false_iff]
    right
    rw[decide_eq_false_iff_not]
    omega
   clear h0
   go_enter Tryz.func172,Tryz.ntmps172
   go_wp2_with fail
   go_ret
   exact ⟨ret_b hf.out.symm,rfl⟩
  ·have hsz:Hid (1≤s.size∧s.size≤31):=by
    show _∧_
    refine ⟨?_,by omega⟩
    apply Classical.byContradiction
    intro g
    apply h0
    apply ByteArray.ext
    apply Array.ext
    ·show s.size=0
     omega
    ·intro i hi
     have:i < s.size:=hi
     omega
   have h31b:decide ((31:Int) < s.size)=false:=decide_eq_false h31
   clear h0
   go_enter Tryz.func172,Tryz.ntmps172
   go_wp2_with fail
   go_loopw [14] (fun I wx=>∃(k:Nat),(k:Int)≤s.size∧I= .int .i64 k∧Hid (((L s).take k).all okC=true)∧wx=w) (fun I _=>(s.size - intOf I).toNat)
   case atStart=>exact ⟨0,by omega,rfl,hid rfl,rfl⟩
   case round=>
    obtain ⟨k,hk,rfl,ha,hb⟩:=hrel
    obtain rfl:=hb.symm
    by_cases hlt:(k:Int) < s.size
    ·have hkk:k < s.size:=by omega
     obtain ⟨c,hc⟩:∃c,(s[k].toNat:Int)=c:=⟨_,rfl⟩
     have hcb:=L_bd s k hkk
     rw[hc] at hcb
     obtain ⟨c0,c1⟩:=hcb
     have hLt:Hid ((L s).take (k+1)=(L s).take k++[c]):=by show _=_;rw[←hc];exact L_take s k hkk
     have hLd:Hid (L s=(L s).take k++c::(L s).drop (k+1)):=by
      show _=_
      rw[←hc,←L_drop s k hkk,List.take_append_drop]
     have hrun:=fun W=>run_at (w:=W) s k hkk hs
     simp only[hc] at hrun
     cases hcc:okC c
     ·have hf:Hid (namF (L s)=false):=by
       show _=_
       unfold namF
       rw[hLd.out,List.all_append,List.all_cons,hcc]
       simp
      have hcs:c < 33∨126 < c∨(65≤c∧c≤90):=by simp[okC] at hcc;omega
      clear hcc hLd hLt hc
      rcases hcs with h|h|h
      ·go_wp2_with fail
       go_ret
       exact ⟨ret_b hf.out.symm,rfl⟩
      ·go_wp2_with fail
       go_ret
       exact ⟨ret_b hf.out.symm,rfl⟩
      ·obtain ⟨h,h'⟩:=h
       go_wp2_with fail
       go_ret
       exact ⟨ret_b hf.out.symm,rfl⟩
     ·have ha2:Hid (((L s).take (k+1)).all okC=true):=by
       show _=_
       rw[hLt.out,List.all_append,ha.out]
       simp[hcc]
      have hcs:33≤c∧c≤126∧(c < 65∨90 < c):=by simp[okC] at hcc;omega
      obtain ⟨q1,q2,q3⟩:=hcs
      clear hcc hLd hLt hc
      rcases q3 with hq|hq
      all_goals go_wp2_with fail
      all_goals go_roundw
      case rel=>exact ⟨k+1,by omega,by go_num,ha2,trivial⟩
      case measure=>simp[intOf];omega
      case rel=>exact ⟨k+1,by omega,by go_num,ha2,trivial⟩
      case measure=>simp[intOf];omega
    ·have hf:Hid (namF (L s)=true):=by
      show _=_
      have:=ha.out
      rw[List.take_of_length_le (by rw[L_len];omega)] at this
      unfold namF
      rw[this,L_len,decide_eq_true hsz.out]
      rfl
     go_wp2_with fail
     go_ret
     exact ⟨ret_b hf.out.symm,rfl⟩
set_option maxHeartbeats 2000000 in
set_option maxRecDepth 100000 in
theorem w_popsound (K X words:Int) (n:Nat) (w:World) (u0:0≤X) (u1:X < 4294967296) (hn:n≤256):
  Calls Tryz.prog 238 #[.agg #[.int .i64 K, .int .u32 X], .int .i64 words, .int .i64 n] w fun e w'=>e= .returned (.bool (okO n words (K,X)))∧Below w.heap.size w w':=by
 have hok:okO n words (K,X)=decide (K=1∨(K=2∨K=13)∧X < words∨(K=11∨K=12)∧X=0∨3≤K∧K≤10∧X≤n):=rfl
 have st:=stands_new w #[.int .i64 K, .int .u32 X] 47
 have bx:=box_below w (.cells #[.int .i64 K, .int .u32 X] 47)
 have z0:=st.cell 0 _ rfl
 have z1:=st.cell 1 _ rfl
 have cw:=fun W=>w_pbelow X words W u0 u1
 have cn:=fun W=>w_pbelow X ((n:Int)+1) W u0 u1
 have hcs:K=1∨K=2∨K=3∨K=4∨K=5∨K=6∨K=7∨K=8∨K=9∨K=10∨K=11∨K=12∨K=13∨K < 1∨13 < K:=by omega
 rcases hcs with rfl|rfl|rfl|rfl|rfl|rfl|rfl|rfl|rfl|rfl|rfl|rfl|rfl|hcs
 ·skip
  have hf:Hid (okO n words (1,X)=true):=by show _=_;rw[hok];simp
  clear hok
  go_enter Tryz.func238,Tryz.ntmps238
  go_wp2_with fail
  go_ret
  exact ⟨ret_b hf.out.symm,bx⟩
 ·skip
  have hf:Hid (okO n words (2,X)=decide (X < words)):=by show _=_;rw[hok,decide_eq_decide];omega
  clear hok
  go_enter Tryz.func238,Tryz.ntmps238
  go_wp2_with (go_at_call 174;refine (cw _).mono ?_;rintro e w1 ⟨rfl,hw1⟩;obtain rfl:=hw1.symm)
  go_ret
  exact ⟨ret_b hf.out.symm,bx⟩
 ·skip
  have hf:Hid (okO n words (3,X)=decide (X < (n:Int)+1)):=by show _=_;rw[hok,decide_eq_decide];omega
  clear hok
  go_enter Tryz.func238,Tryz.ntmps238
  go_wp2_with (go_at_call 174;refine (cn _).mono ?_;rintro e w1 ⟨rfl,hw1⟩;obtain rfl:=hw1.symm)
  go_ret
  exact ⟨ret_b hf.out.symm,bx⟩
 ·skip
  have hf:Hid (okO n words (4,X)=decide (X < (n:Int)+1)):=by show _=_;rw[hok,decide_eq_decide];omega
  clear hok
  go_enter Tryz.func238,Tryz.ntmps238
  go_wp2_with (go_at_call 174;refine (cn _).mono ?_;rintro e w1 ⟨rfl,hw1⟩;obtain rfl:=hw1.symm)
  go_ret
  exact ⟨ret_b hf.out.symm,bx⟩
 ·skip
  have hf:Hid (okO n words (5,X)=decide (X < (n:Int)+1)):=by show _=_;rw[hok,decide_eq_decide];omega
  clear hok
  go_enter Tryz.func238,Tryz.ntmps238
  go_wp2_with (go_at_call 174;refine (cn _).mono ?_;rintro e w1 ⟨rfl,hw1⟩;obtain rfl:=hw1.symm)
  go_ret
  exact ⟨ret_b hf.out.symm,bx⟩
 ·skip
  have hf:Hid (okO n words (6,X)=decide (X < (n:Int)+1)):=by show _=_;rw[hok,decide_eq_decide];omega
  clear hok
  go_enter Tryz.func238,Tryz.ntmps238
  go_wp2_with (go_at_call 174;refine (cn _).mono ?_;rintro e w1 ⟨rfl,hw1⟩;obtain rfl:=hw1.symm)
  go_ret
  exact ⟨ret_b hf.out.symm,bx⟩
 ·skip
  have hf:Hid (okO n words (7,X)=decide (X < (n:Int)+1)):=by show _=_;rw[hok,decide_eq_decide];omega
  clear hok
  go_enter Tryz.func238,Tryz.ntmps238
  go_wp2_with (go_at_call 174;refine (cn _).mono ?_;rintro e w1 ⟨rfl,hw1⟩;obtain rfl:=hw1.symm)
  go_ret
  exact ⟨ret_b hf.out.symm,bx⟩
 ·skip
  have hf:Hid (okO n words (8,X)=decide (X < (n:Int)+1)):=by show _=_;rw[hok,decide_eq_decide];omega
  clear hok
  go_enter Tryz.func238,Tryz.ntmps238
  go_wp2_with (go_at_call 174;refine (cn _).mono ?_;rintro e w1 ⟨rfl,hw1⟩;obtain rfl:=hw1.symm)
  go_ret
  exact ⟨ret_b hf.out.symm,bx⟩
 ·skip
  have hf:Hid (okO n words (9,X)=decide (X < (n:Int)+1)):=by show _=_;rw[hok,decide_eq_decide];omega
  clear hok
  go_enter Tryz.func238,Tryz.ntmps238
  go_wp2_with (go_at_call 174;refine (cn _).mono ?_;rintro e w1 ⟨rfl,hw1⟩;obtain rfl:=hw1.symm)
  go_ret
  exact ⟨ret_b hf.out.symm,bx⟩
 ·skip
  have hf:Hid (okO n words (10,X)=decide (X < (n:Int)+1)):=by show _=_;rw[hok,decide_eq_decide];omega
  clear hok
  go_enter Tryz.func238,Tryz.ntmps238
  go_wp2_with (go_at_call 174;refine (cn _).mono ?_;rintro e w1 ⟨rfl,hw1⟩;obtain rfl:=hw1.symm)
  go_ret
  exact ⟨ret_b hf.out.symm,bx⟩
 ·skip
  have hf:Hid (okO n words (11,X)=(X==0)):=by show _=_;rw[hok,Bool.eq_iff_iff,decide_eq_true_eq,beq_iff_eq];omega
  clear hok
  go_enter Tryz.func238,Tryz.ntmps238
  go_wp2_with fail
  go_ret
  exact ⟨ret_b hf.out.symm,bx⟩
 ·skip
  have hf:Hid (okO n words (12,X)=(X==0)):=by show _=_;rw[hok,Bool.eq_iff_iff,decide_eq_true_eq,beq_iff_eq];omega
  clear hok
  go_enter Tryz.func238,Tryz.ntmps238
  go_wp2_with fail
  go_ret
  exact ⟨ret_b hf.out.symm,bx⟩
 ·skip
  have hf:Hid (okO n words (13,X)=decide (X < words)):=by show _=_;rw[hok,decide_eq_decide];omega
  clear hok
  go_enter Tryz.func238,Tryz.ntmps238
  go_wp2_with (go_at_call 174;refine (cw _).mono ?_;rintro e w1 ⟨rfl,hw1⟩;obtain rfl:=hw1.symm)
  go_ret
  exact ⟨ret_b hf.out.symm,bx⟩
 ·skip
  have hf:Hid (okO n words (K,X)=false):=by show _=_;rw[hok,decide_eq_false_iff_not];omega
  have y1:(K==1)=false:=by rw[beq_eq_false_iff_ne];omega
  have y2:(K==2)=false:=by rw[beq_eq_false_iff_ne];omega
  have y3:(K==3)=false:=by rw[beq_eq_false_iff_ne];omega
  have y4:(K==4)=false:=by rw[beq_eq_false_iff_ne];omega
  have y5:(K==5)=false:=by rw[beq_eq_false_iff_ne];omega
  have y6:(K==6)=false:=by rw[beq_eq_false_iff_ne];omega
  have y7:(K==7)=false:=by rw[beq_eq_false_iff_ne];omega
  have y8:(K==8)=false:=by rw[beq_eq_false_iff_ne];omega
  have y9:(K==9)=false:=by rw[beq_eq_false_iff_ne];omega
  have y10:(K==10)=false:=by rw[beq_eq_false_iff_ne];omega
  have y11:(K==11)=false:=by rw[beq_eq_false_iff_ne];omega
  have y12:(K==12)=false:=by rw[beq_eq_false_iff_ne];omega
  have y13:(K==13)=false:=by rw[beq_eq_false_iff_ne];omega
  clear hok hcs
  go_enter Tryz.func238,Tryz.ntmps238
  go_wp2_with fail
  go_ret
  exact ⟨ret_b hf.out.symm,bx⟩
set_option maxHeartbeats 2000000 in
set_option maxRecDepth 100000 in
theorem w_p9sound' (v:Value) (l:List Opd) (words:Int) (w:World) (h:RdO w v l) (hu:∀x∈l,0≤x.2∧x.2 < 4294967296):
  Calls Tryz.prog 173 #[v, .int .i64 words] w fun e w'=>e= .returned (.bool (sndF l words))∧Below w.heap.size w w':=by
 have hla:=slr_len h uO (P:=Tryz.prog)
 have hm:=slr_max h
 unfold maxLen at hm
 by_cases h256:(256:Int) < l.length
 ·have hf:Hid (sndF l words=false):=by show _=_;unfold sndF;rw[decide_eq_false (by omega)];simp
  go_enter Tryz.func173,Tryz.ntmps173
  go_wp2_with fail
  go_ret
  exact ⟨ret_b hf.out.symm,Below.refl _ _⟩
 ·go_enter Tryz.func173,Tryz.ntmps173
  go_wp2_with fail
  go_loopw [12] (fun I wx=>∃(k:Nat),(k:Int)≤l.length∧I= .int .i64 k∧Hid ((l.take k).all (okO l.length words)=true)∧Below w.heap.size w wx) (fun I _=>(l.length - intOf I).toNat)
  case atStart=>exact ⟨0,by omega,rfl,hid rfl,Below.refl _ _⟩
  case round=>
   obtain ⟨k,hk,rfl,ha,hb⟩:=hrel
   by_cases hlt:(k:Int) < l.length
   ·have hkl:k < l.length:=by omega
    obtain ⟨b1,o1,r1,f0,f1⟩:=op_at (RdO.below h hb) k hkl
    have hub:=hu _ (List.getElem_mem hkl)
    have yes:=fun hx=>snd_step (words:=words) hkl ha.out hx
    have no:=fun hx=>snd_no (l:=l) (words:=words) (k:=k) hkl hx
    have hok:okO l.length words l[k]=okO l.length words (l[k].1,l[k].2):=rfl
    obtain ⟨K,hK⟩:∃K,l[k].1=K:=⟨_,rfl⟩
    obtain ⟨X,hX⟩:∃X,l[k].2=X:=⟨_,rfl⟩
    rw[hK,hX] at hok
    rw[hK] at f0
    rw[hX] at f1 hub
    obtain ⟨u0,u1⟩:=hub
    have bx:=box_below wr (.cells #[.int .i64 K, .int .u32 X] 47)
    have co:=fun W=>w_popsound K X words l.length W u0 u1 (by omega)
    cases hc:okO l.length words (K,X)
    ·have hf:=hid (no (by rw[hok,hc]))
     simp only[hc] at co
     clear yes no hok hK hX ha hc
     go_wp2_with (go_at_call 238;refine (co _).mono ?_;rintro e w1 ⟨rfl,d1⟩)
     go_ret
     exact ⟨ret_b hf.out.symm,below_trans hb (below_trans bx d1)⟩
    ·have hx:=hid (yes (by rw[hok,hc]))
     simp only[hc] at co
     clear yes no hok hK hX ha hc
     go_wp2_with (go_at_call 238;refine (co _).mono ?_;rintro e w1 ⟨rfl,d1⟩)
     go_roundw
     case rel=>exact ⟨k+1,by omega,by go_num,hx,below_trans hb (below_trans bx d1)⟩
     case measure=>simp[intOf];omega
   ·have hf:Hid (sndF l words=true):=by
     show _=_
     have:=ha.out
     rw[List.take_of_length_le (by omega)] at this
     unfold sndF
     rw[this,decide_eq_true (by omega)]
     rfl
    go_wp2_with fail
    go_ret
    exact ⟨ret_b hf.out.symm,hb⟩
def CC (c:Int):Prop:=c=25∨c=32
def aX (x:Int):Prop:=x=0∨x=5∨111≤x
def isC:Fm→Prop
 | .colon _ wd _=>111≤wd
 |_=>False
structure Cls (W:List Wd):Prop where
 w0:(W.getD 0 ([],0,0,0,[])).2.2.1=1∧(W.getD 0 ([],0,0,0,[])).2.2.2.1=25
 w5:(W.getD 5 ([],0,0,0,[])).2.2.1=1∧(W.getD 5 ([],0,0,0,[])).2.2.2.1=32
 wc:∀k:Nat,111≤k→k < W.length→(W.getD k ([],0,0,0,[])).2.2.1=2∧∀o∈(W.getD k ([],0,0,0,[])).2.2.2.2,¬o.1=13∧(o.1=2→aX o.2)
def Acc (W:List Wd) (fs:List Fm):Prop:=Cls W∧∀f∈fs,isC f
theorem iSwp_words (s:Rs) (k:Nat) (l:List Int):(iSwp s k l).1.m.words=s.m.words:=by
 unfold iSwp
 split
 ·rfl
 ·split <;> rfl
theorem iLop_words (s:Rs) (o:Opd):(iLop s o).1.m.words=s.m.words:=by
 have q:=iSwp_words s 1 []
 unfold iLop
 dsimp only
 repeat' split
 all_goals first|rfl|exact q
theorem iOp_words (s:Rs) (o:Opd) (h:1≤o.1∧o.1≤12) (h2:¬o.1=2) (h12:¬o.1=12):(iOp s o).1.m.words=s.m.words:=by
 have q:=iSwp_words s 2 []
 unfold iOp
 dsimp only
 by_cases c:o.1=11
 ·rw[if_neg (by omega),if_neg (by omega),if_neg (by omega),if_neg (by omega),if_neg (by omega),if_neg (by omega),if_pos c]
  exact iSwp_words _ _ _
 repeat' split
 all_goals first|rfl|exact iSwp_words _ _ _|exact q|exact iLop_words _ _|(exfalso;omega)
theorem iP_words {c:Int} (hc:CC c) (s:Rs):(iP c s).1.m.words=s.m.words:=by
 rcases hc with rfl|rfl
 ·have a:iAr 25 s=none:=by
   unfold iAr
   simp[Cel.unE,Cel.binE]
  unfold iP
  rw[a]
  dsimp only
  split
  ·split <;> rfl
  ·rw[if_neg (by omega),if_pos (by omega)]
   unfold iRet
   dsimp only
   rw[if_neg (by omega),if_neg (by omega),if_neg (by omega)]
   split
   ·rfl
   ·split
    ·exact iSwp_words _ _ _
    ·exact iSwp_words _ _ _
 ·obtain ⟨f,hf⟩:∃f,iAr 32 s=some (iWith s 2 f)∧∀l,(f l).1.m.words=s.m.words:=by
   unfold iAr
   rw[if_neg (by simp[Cel.unE]),if_pos (by simp[Cel.binE])]
   refine ⟨_,rfl,fun l=> ?_⟩
   split
   ·rfl
   ·exact iSwp_words _ _ _
  unfold iP
  rw[hf.1]
  dsimp only
  unfold iWith
  split
  ·rfl
  ·exact hf.2 _
theorem acc_prim {W:List Wd} {fs:List Fm} {xt:Int} (h:Acc W fs) (hx:aX xt) (x0:0≤xt) (k1:(W.getD xt.toNat ([],0,0,0,[])).2.2.1=1) (x1:xt < W.length):CC (W.getD xt.toNat ([],0,0,0,[])).2.2.2.1:=by
 rcases hx with rfl|rfl|hx
 ·exact Or.inl h.1.w0.2
 ·exact Or.inr h.1.w5.2
 ·have:=(h.1.wc xt.toNat (by omega) (by omega)).1
  omega
theorem acc_beg {m:Mc} {ret:List Int} {fs:List Fm} {thr xt:Int} {o:Ot} (h:Acc m.words fs) (hx:aX xt) (x0:0≤xt) (x1:xt < m.words.length) (ho:begO xt (mkR m ret fs thr) fs=o):
  (o.e=0→Acc o.m.words o.fs∧(o.nxt= -1∨aX o.nxt))∧(¬o.e=0→Acc m.words o.fs):=by
 have ew:iWd (mkR m ret fs thr) xt=m.words.getD xt.toNat ([],0,0,0,[]):=rfl
 unfold begO at ho
 dsimp only at ho
 rw[ew] at ho
 by_cases k1:(m.words.getD xt.toNat ([],0,0,0,[])).2.2.1=1
 ·rw[if_pos k1] at ho
  have hc:=acc_prim h hx x0 k1 x1
  have hw:=iP_words hc (mkR m ret fs thr)
  have ep:iPrm iP (m.words.getD xt.toNat ([],0,0,0,[])).2.2.2.1 (mkR m ret fs thr)= .done (iP (m.words.getD xt.toNat ([],0,0,0,[])).2.2.2.1 (mkR m ret fs thr)).1 (iP (m.words.getD xt.toNat ([],0,0,0,[])).2.2.2.1 (mkR m ret fs thr)).2:=by
   unfold iPrm
   have:∀c,CC c→¬(c=29∨c=535)∧¬c=526:=fun c hc=>by rcases hc with rfl|rfl <;> omega
   rw[if_neg (this _ hc).1,if_neg (this _ hc).2]
  rw[ep] at ho
  subst ho
  refine ⟨fun _=>⟨⟨?_,h.2⟩,Or.inl rfl⟩,fun _=>h⟩
  show Cls (iP _ _).1.m.words
  rw[hw]
  exact h.1
 ·rw[if_neg k1] at ho
  rcases hx with rfl|rfl|hx
  ·exact absurd h.1.w0.1 k1
  ·exact absurd h.1.w5.1 k1
  ·have k2:=(h.1.wc xt.toNat (by omega) (by omega)).1
   rw[if_pos k2] at ho
   split at ho
   ·subst ho
    exact ⟨fun he=>by simp at he,fun _=>h⟩
   ·subst ho
    refine ⟨fun _=>⟨⟨h.1,fun f hf=> ?_⟩,Or.inl rfl⟩,fun he=>absurd rfl he⟩
    rcases List.mem_cons.1 hf with rfl|hf
    ·exact hx
    ·exact h.2 f hf
theorem acc_ins {m:Mc} {ret:List Int} {b wd at_:Int} {r:List Fm} {thr:Int} {x:Opd} {o:Ot} (h:Acc m.words (.colon b wd at_::r)) (w1:wd < m.words.length) (hx:(m.words.getD wd.toNat ([],0,0,0,[])).2.2.2.2[at_.toNat]? =some x) (hk:1≤x.1∧x.1≤13) (ho:opO x (mkR m ret (.colon b wd at_::r) thr) b wd (at_+1) r=o):
  (o.e=0→Acc o.m.words o.fs∧(o.nxt= -1∨aX o.nxt))∧(¬o.e=0→Acc m.words o.fs):=by
 have w0:111≤wd:=h.2 _ (List.mem_cons_self ..)
 have q:=(h.1.wc wd.toNat (by omega) (by omega)).2 x (List.mem_of_getElem? hx)
 have fr:∀a,∀f∈(Fm.colon b wd a::r),isC f:=fun a f hf=>by
  rcases List.mem_cons.1 hf with rfl|hf
  ·exact w0
  ·exact h.2 f (List.mem_cons_of_mem _ hf)
 unfold opO at ho
 by_cases c12:x.1=12
 ·rw[if_pos c12] at ho
  split at ho
  ·subst ho
   exact ⟨fun _=>⟨⟨h.1,fun f hf=>h.2 f (List.mem_cons_of_mem _ hf)⟩,Or.inl rfl⟩,fun he=>absurd rfl he⟩
  ·subst ho
   exact ⟨fun he=>by simp at he,fun _=>⟨h.1,fr _⟩⟩
 rw[if_neg c12] at ho
 by_cases c2:x.1=2
 ·rw[if_pos c2] at ho
  subst ho
  exact ⟨fun _=>⟨⟨h.1,fr _⟩,Or.inr (q.2 c2)⟩,fun he=>absurd rfl he⟩
 rw[if_neg c2] at ho
 subst ho
 have hw:=iOp_words (mkR m ret (.colon b wd at_::r) thr) x (by omega) c2 c12
 refine ⟨fun _=>⟨⟨?_,fr _⟩,Or.inl rfl⟩,fun _=>⟨h.1,fr _⟩⟩
 show Cls (iOp _ _).1.m.words
 rw[hw]
 exact h.1
theorem acc_tail {W:List Wd} {f:Fm} {r:List Fm} (h:Acc W (f::r)):Acc W r:=⟨h.1,fun g hg=>h.2 g (List.mem_cons_of_mem _ hg)⟩
theorem acc_swp {s:Rs} {k:Nat} {l:List Int} {fs:List Fm} (h:Acc s.m.words fs):Acc (iSwp s k l).1.m.words fs:=by
 unfold Acc
 rw[iSwp_words]
 exact h
theorem acc_fail {e thr:Int}:∀{fs:List Fm} {m:Mc} {ret:List Int} {m':Mc} {ret':List Int} {r:List Fm},Acc m.words fs→catO e thr fs m ret=some (m',ret',r)→Acc m'.words r
 |[],m,ret,m',ret',r,h,hc=>by simp[catO] at hc
 | .colon b wd at_::q,m,ret,m',ret',r,h,hc=>acc_fail (acc_tail h) (by simpa [catO] using hc)
 | .meth b sl::q,m,ret,m',ret',r,h,hc=>absurd (h.2 _ (List.mem_cons_self ..)) id
 | .catch b hh sl::q,m,ret,m',ret',r,h,hc=>absurd (h.2 _ (List.mem_cons_self ..)) id
theorem w_firstC {B:Nat} {D:Nat→Prop} {w:World} {q:Nat} {s b:Sv} {vf:Value} {fs:List Fm} {fuel thr:Int} (h:RunL B D w q s b vf fs (-1) fuel thr) (ok:Okr (toR s fs thr)) (hl:fs.length≤1000000) (hb0:0≤bsF fs) (c:Int) (hc:c∈prmL.map (·.2)) (hcc:CC c):
  Calls Tryz.prog 82 #[.pointer (some ⟨q,0,none⟩), .int .i64 c] w (NxP B D q s b fs fuel w (iPrm iP c (toR s fs thr)) (fun E=> .returned (.int .i64 E))):=by
 rcases hcc with rfl|rfl
 ·exact f_25 h ok hl hb0
 ·exact f_32 h ok hl hb0
theorem RunL.pushC {B:Nat} {D:Nat→Prop} {w W w9:World} {q:Nat} {s b:Sv} {vf v9:Value} {fs:List Fm} {nxt fuel thr:Int} (h:RunL B D w q s b vf fs nxt fuel thr) (g1:w.grownBy W (some q)) (stW:Stands W q (rnC s b vf (dpF fs+1) nxt fuel thr) 67) (f:Fm) (hf:dpF (f::fs)=dpF fs+1) (ho:w9.ownsRow B 122 6 v9 (fs.length+1) ((fmR fs).flatten++fmC f)) (hg:W.grownBy w9 vf.ownBlock):
  RunL B D (w9.setCell ⟨q,22,none⟩ v9) q s b v9 (f::fs) nxt fuel thr∧Below B w (w9.setCell ⟨q,22,none⟩ v9)∧w9.cell? ⟨q,22,none⟩=some vf∧w9.frozen? ⟨q,22,none⟩=false∧Stands w9 q (rnC s b vf (dpF fs+1) nxt fuel thr) 67:=by
 have k0:=Kept.stands h.st g1
 have a0:Agr kR D w W:=h.agr g1
 have frW:=own_kept k0 (by decide) h.fr
 have hBW:B≤W.heap.size:=Nat.le_trans h.hB g1.size
 have k:=Kept.own frW hg
 have st9:=stands_kept k (by decide) stW
 have g2:w9.grownBy (w9.setCell ⟨q,22,none⟩ v9) (some q):=gb_set (gb_refl _ _) 22 _
 have k2:=Kept.stands st9 g2
 have a1:Agr kR D W w9:=Agr.kept k rfl
 have a2:Agr kR D w9 (w9.setCell ⟨q,22,none⟩ v9):=Agr.kept k2 rfl
 have bel9:Below B w w9:=(h.low g1).grown hg hBW (fun j hj=>(frW.lt j hj).1)
 have bel:Below B w (w9.setCell ⟨q,22,none⟩ v9):=Below.trans bel9 (gb_below' g2 h.hq (Nat.le_trans hBW hg.size))
 refine ⟨⟨?_,((h.hs.agr a0).agr a1).agr a2,((h.wd.kept k0 a0 (by decide)).kept k a1 (by decide)).kept k2 a2 (by decide),((h.ins.kept k0 a0 (by decide)).kept k a1 (by decide)).kept k2 a2 (by decide),((h.hb.agr a0).agr a1).agr a2,h.bw,h.bi, ?_,h.hq,Nat.le_trans h.hB bel.size,fun j hj=>⟨(h.hD j hj).1,Nat.lt_of_lt_of_le (h.hD j hj).2 bel.size⟩,fun w2 b2=>h.tab w2 (Below.trans bel b2)⟩,bel,st9.cell 22 _ rfl,st9.free 22,st9⟩
 ·rw[hf]
  exact st9.set 22 v9
 ·rw[fmR_cons,List.flatten_append]
  simp only[List.flatten_cons,List.flatten_nil,List.append_nil]
  exact own_kept k2 (by decide) ho
theorem w_openColonE {B:Nat} {D:Nat→Prop} {w:World} {q:Nat} {s b:Sv} {vf:Value} {fs:List Fm} {nxt fuel thr:Int} (h:RunL B D w q s b vf fs nxt fuel thr) (xt:Int) (hd0:dpF fs=32):
  Calls Tryz.prog 81 #[.pointer (some ⟨q,0,none⟩), .int .i64 xt] w fun e w'=>e= .returned (.int .i64 12)∧w'=w:=by
 have k23:=h.c23
 rw[hd0] at k23
 clear h
 go_enter Tryz.func81,Tryz.ntmps81
 go_wp2_with fail
 go_ret
 exact ⟨rfl,rfl⟩
set_option maxHeartbeats 4000000 in
theorem w_openColonK {B:Nat} {D:Nat→Prop} {w:World} {q:Nat} {s b:Sv} {vf:Value} {fs:List Fm} {nxt fuel thr:Int} (h:RunL B D w q s b vf fs nxt fuel thr) (hl:fs.length≤1000000) (xt:Int) (hd0:dpF fs < 32) (hrl:s.ret.length≤64):
  Calls Tryz.prog 81 #[.pointer (some ⟨q,0,none⟩), .int .i64 xt] w fun e w'=>e= .returned (.int .i64 0)∧Below B w w'∧∃vf',RunL B D w' q s b vf' (.colon s.ret.length xt 0::fs) nxt fuel thr:=by
 obtain ⟨i0,hi0,hz0,hz1,hz2⟩:=info_parts infoFrame
 have hd00:=dpF_0 fs
 have k23:=h.c23
 have kf:=h.st.free 23
 have hne:(dpF fs==32)=false:=beq_eq_false_iff_ne.2 (by omega)
 have hw:IntKind.i64.wrap (dpF fs+1)=dpF fs+1:=by rw[IntKind.wrap_i64];omega
 have HH:=hid h
 obtain ⟨RL,hRL⟩:∃n:Int,(s.ret.length:Int)=n:=⟨_,rfl⟩
 rw[hRL]
 have hr:∀ty w',(Builtin.len_ #[22] ty #[s.vr]).run Tryz.prog w'= .ok (.int .i64 RL) w':=fun ty w'=>by rw[←hRL];exact rd_len h.hs.ret.now Tryz.underlying22 ty w'
 obtain ⟨F,hF⟩:∃F,Fm.colon RL xt 0=F:=⟨_,rfl⟩
 have eF:fmC F=[.int .i64 0, .int .i64 RL, .int .i64 xt, .int .i64 0, .int .i64 0, .int .i64 0]:=by rw[←hF];rfl
 have hFd:dpF (F::fs)=dpF fs+1:=by rw[←hF];rfl
 have g0:w.grownBy (w.setCell ⟨q,23,none⟩ (.int .i64 (dpF fs+1))) (some q):=gb_set (gb_refl _ _) 23 _
 have st1:Stands (w.setCell ⟨q,23,none⟩ (.int .i64 (dpF fs+1))) q (rnC s b vf (dpF fs+1) nxt fuel thr) 67:=h.st.set 23 _
 have bd:Hid (Below (w.setCell ⟨q,23,none⟩ (.int .i64 (dpF fs+1))).heap.size (w.setCell ⟨q,23,none⟩ (.int .i64 (dpF fs+1))) (w.setCell ⟨q,23,none⟩ (.int .i64 (dpF fs+1))).drew):=below_drewN (Below.refl _ _) 1
 have bb:Hid (Below (w.setCell ⟨q,23,none⟩ (.int .i64 (dpF fs+1))).heap.size (w.setCell ⟨q,23,none⟩ (.int .i64 (dpF fs+1))) ((w.setCell ⟨q,23,none⟩ (.int .i64 (dpF fs+1))).alloc (.cells #[.int .i64 0, .int .i64 RL, .int .i64 xt, .int .i64 0, .int .i64 0, .int .i64 0] 122)).drew):=below_trans (box_below _ _) (below_drewN (Below.refl _ _) 1)
 have GB:Hid (w.grownBy ((w.setCell ⟨q,23,none⟩ (.int .i64 (dpF fs+1))).alloc (.cells #[.int .i64 0, .int .i64 RL, .int .i64 xt, .int .i64 0, .int .i64 0, .int .i64 0] 122)).drew (some q)):=hid (gb_trans g0 (gb_of bb.out))
 have STW:=hid (st1.below bb.out)
 have FR:=hid (own_kept (Kept.stands h.st GB.out) (by decide) h.fr)
 have HBs:Hid (B≤((w.setCell ⟨q,23,none⟩ (.int .i64 (dpF fs+1))).alloc (.cells #[.int .i64 0, .int .i64 RL, .int .i64 xt, .int .i64 0, .int .i64 0, .int .i64 0] 122)).drew.heap.size):=hid (Nat.le_trans h.hB GB.out.size)
 have SC:Hid (SlC 6 ((w.setCell ⟨q,23,none⟩ (.int .i64 (dpF fs+1))).alloc (.cells #[.int .i64 0, .int .i64 RL, .int .i64 xt, .int .i64 0, .int .i64 0, .int .i64 0] 122)).drew (.slice (some ⟨(w.setCell ⟨q,23,none⟩ (.int .i64 (dpF fs+1))).heap.size,0,none⟩) 1 1) [fmC F]):=by
  rw[eF]
  exact slc_one (w.setCell ⟨q,23,none⟩ (.int .i64 (dpF fs+1))) _ _ 6 rfl
 have k1:(w.setCell ⟨q,23,none⟩ (.int .i64 (dpF fs+1))).drew.cell? ⟨q,22,none⟩=some vf:=(st1.below bd.out).cell 22 _ rfl
 have k2:((w.setCell ⟨q,23,none⟩ (.int .i64 (dpF fs+1))).alloc (.cells #[.int .i64 0, .int .i64 RL, .int .i64 xt, .int .i64 0, .int .i64 0, .int .i64 0] 122)).drew.cell? ⟨q,22,none⟩=some vf:=STW.out.cell 22 _ rfl
 have K1:Hid ((w.setCell ⟨q,23,none⟩ (.int .i64 (dpF fs+1))).drew.cell? ⟨q,10,none⟩=some s.vr):=hid ((st1.below bd.out).cell 10 _ rfl)
 have KB:Hid (((w.setCell ⟨q,23,none⟩ (.int .i64 (dpF fs+1))).alloc (.cells #[.int .i64 0, .int .i64 RL, .int .i64 xt, .int .i64 0, .int .i64 0, .int .i64 0] 122)).drew.cell? ⟨q,10,none⟩=some s.vr):=hid (STW.out.cell 10 _ rfl)
 have HF:=hid hF
 clear h hF eF hRL g0 st1
 go_enter Tryz.func81,Tryz.ntmps81
 go_upto_region 4 with fail
 generalize hW:(w.setCell ⟨q,23,none⟩ (.int .i64 (dpF fs+1)))=w1 at*
 clear hW k23 kf
 go_wp2_with fail
 refine wp_region_held_drew (S:=fun W=>W.cell? ⟨q,10,none⟩=some s.vr) (by kernel_rfl) (K1.out) (fun hHeld=> ?_)
 refine wpAnyH_take (i:=0) (v:= ?v1) rfl (by kernel_rfl) (by kernel_rfl) (by kernel_rfl) (fun _ _ _ h=>h) (Or.inl ⟨by kernel_rfl, ?h1⟩) hHeld ?r1
 case h1=>intro W hSw;(try dsimp only at hSw);obtain s0:=hSw;go_simp;try with_reducible rfl
 simp only[Act.put,List.setIfInBounds_toArray,List.set_cons_zero,List.set_cons_succ]
 refine wpAnyH_take (i:=1) (v:= ?v2) rfl (by kernel_rfl) (by kernel_rfl) (by kernel_rfl) (fun _ _ _ h=>h) (Or.inl ⟨by kernel_rfl, ?h2⟩) hHeld ?r2
 case h2=>intro W hSw;(try dsimp only at hSw);obtain s0:=hSw;go_simp;try with_reducible rfl
 simp only[Act.put,List.setIfInBounds_toArray,List.set_cons_zero,List.set_cons_succ]
 refine wpAnyH_take (i:=2) (v:= ?v3) rfl (by kernel_rfl) (by kernel_rfl) (by kernel_rfl) (fun _ _ _ h=>h) (Or.inl ⟨by kernel_rfl, ?h3⟩) hHeld ?r3
 case h3=>intro W hSw;(try dsimp only at hSw);obtain s0:=hSw;go_simp;try with_reducible rfl
 simp only[Act.put,List.setIfInBounds_toArray,List.set_cons_zero,List.set_cons_succ]
 refine wpAnyH_take (i:=3) (v:= ?v4) rfl (by kernel_rfl) (by kernel_rfl) (by kernel_rfl) (fun _ _ _ h=>h) (Or.inl ⟨by kernel_rfl, ?h4⟩) hHeld ?r4
 case h4=>intro W hSw;(try dsimp only at hSw);obtain s0:=hSw;go_simp;try with_reducible rfl
 simp only[Act.put,List.setIfInBounds_toArray,List.set_cons_zero,List.set_cons_succ]
 refine wpAnyH_take (i:=5) (v:= ?v5) rfl (by kernel_rfl) (by kernel_rfl) (by kernel_rfl) (fun _ _ _ h=>h) (Or.inl ⟨by kernel_rfl, ?h5⟩) hHeld ?r5
 case h5=>intro W hSw;(try dsimp only at hSw);obtain s0:=hSw;go_simp;try with_reducible rfl
 simp only[Act.put,List.setIfInBounds_toArray,List.set_cons_zero,List.set_cons_succ]
 refine wpAnyH_take (i:=6) (v:= ?v6) rfl (by kernel_rfl) (by kernel_rfl) (by kernel_rfl) (fun _ _ _ h=>h) (Or.inl ⟨by kernel_rfl, ?h6⟩) hHeld ?r6
 case h6=>intro W hSw;(try dsimp only at hSw);obtain s0:=hSw;go_simp;try with_reducible rfl
 simp only[Act.put,List.setIfInBounds_toArray,List.set_cons_zero,List.set_cons_succ]
 refine wpAnyH_take (i:=7) (v:= ?v7) rfl (by kernel_rfl) (by kernel_rfl) (by kernel_rfl) (fun _ _ _ h=>h) (Or.inl ⟨by kernel_rfl, ?h7⟩) hHeld ?r7
 case h7=>intro W hSw;(try dsimp only at hSw);obtain s0:=hSw;go_simp;try with_reducible rfl
 simp only[Act.put,List.setIfInBounds_toArray,List.set_cons_zero,List.set_cons_succ]
 refine wpAnyH_take (i:=8) (v:= ?v8) rfl (by kernel_rfl) (by kernel_rfl) (by kernel_rfl) (fun _ _ _ h=>h) (Or.inl ⟨by kernel_rfl, ?h8⟩) hHeld ?r8
 case h8=>intro W hSw;(try dsimp only at hSw);obtain s0:=hSw;go_simp;try with_reducible rfl
 simp only[Act.put,List.setIfInBounds_toArray,List.set_cons_zero,List.set_cons_succ]
 refine wpAnyH_take (i:=9) (v:= ?v9) rfl (by kernel_rfl) (by kernel_rfl) (by kernel_rfl) (fun _ _ _ h=>h) (Or.inl ⟨by kernel_rfl, ?h9⟩) hHeld ?r9
 case h9=>intro W hSw;(try dsimp only at hSw);obtain s0:=hSw;go_simp;try with_reducible rfl
 simp only[Act.put,List.setIfInBounds_toArray,List.set_cons_zero,List.set_cons_succ]
 refine wpAnyH_take (i:=10) (v:= ?v10) rfl (by kernel_rfl) (by kernel_rfl) (by kernel_rfl) (fun _ _ _ h=>h) (Or.inl ⟨by kernel_rfl, ?h10⟩) hHeld ?r10
 case h10=>intro W hSw;(try dsimp only at hSw);obtain s0:=hSw;go_simp;try with_reducible rfl
 simp only[Act.put,List.setIfInBounds_toArray,List.set_cons_zero,List.set_cons_succ]
 refine wpAnyH_take (i:=11) (v:= ?v11) rfl (by kernel_rfl) (by kernel_rfl) (by kernel_rfl) (fun _ _ _ h=>h) (Or.inl ⟨by kernel_rfl, ?h11⟩) hHeld ?r11
 case h11=>intro W hSw;(try dsimp only at hSw);obtain s0:=hSw;go_simp;try with_reducible rfl
 simp only[Act.put,List.setIfInBounds_toArray,List.set_cons_zero,List.set_cons_succ]
 refine wpAnyH_take (i:=12) (v:= ?v12) rfl (by kernel_rfl) (by kernel_rfl) (by kernel_rfl) (fun _ _ _ h=>h) (Or.inl ⟨by kernel_rfl, ?h12⟩) hHeld ?r12
 case h12=>intro W hSw;(try dsimp only at hSw);obtain s0:=hSw;go_simp;try with_reducible rfl
 simp only[Act.put,List.setIfInBounds_toArray,List.set_cons_zero,List.set_cons_succ]
 refine wpAnyH_ready (rs:=[4,13]) (by kernel_rfl) (by simp) ?_
 refine AllReadyH.cons rfl (fun K hK=> ?_) (AllReadyH.cons rfl (fun K hK=> ?_) AllReadyH.nil)
 ·go_simp
  refine hK.out _ _ (K1.out) (fun hHeld=> ?_)
  clear hK K
  (try simp only[Act.put,List.setIfInBounds_toArray,List.set_cons_zero,List.set_cons_succ])
  refine wpAnyH_ready (rs:=[13]) (by kernel_rfl) (by simp) ?_
  refine AllReadyH.cons rfl (fun K hK=> ?_) AllReadyH.nil
  go_simp
  refine hK.out _ _ (KB.out) (fun hHeld=> ?_)
  clear hK K
  (try simp only[Act.put,List.setIfInBounds_toArray,List.set_cons_zero,List.set_cons_succ])
  refine wpAnyH_ready (rs:=[14]) (by kernel_rfl) (by simp) ?_
  refine AllReadyH.cons rfl (fun K hK=> ?_) AllReadyH.nil
  refine step_append_rows rfl _ _ 65 rfl B 122 i0 _ 6 48 Tryz.underlying65 hi0 hz0 hz1 hz2 rfl (by decide) vf fs.length _ rfl FR.out _ [fmC F] rfl SC.out (one6 F) (by unfold maxLen;simp only[List.length_singleton];omega) (by simp only[List.length_singleton];omega) HBs.out ?_
  intro v9 w9 ho9 hg9
  have o9:w9.ownsRow B 122 6 v9 (fs.length+1) ((fmR fs).flatten++fmC F):=by simpa using ho9
  have P9:=hid (HH.out.pushC GB.out STW.out F hFd o9 hg9)
  obtain ⟨a9,c9,rfl⟩:=own_form o9
  have y22:=P9.out.2.2.1
  have yf:=P9.out.2.2.2.1
  have K9:Hid (w9.cell? ⟨q,10,none⟩=some s.vr):=hid (P9.out.2.2.2.2.cell 10 _ rfl)
  have KZ:Hid ((w9.setCell ⟨q,22,none⟩ (.slice a9 (fs.length+1) c9)).cell? ⟨q,10,none⟩=some s.vr):=hid P9.out.1.c10
  refine hK.out _ _ (K9.out) (fun hHeld=> ?_)
  clear hK K
  (try simp only[Act.put,List.setIfInBounds_toArray,List.set_cons_zero,List.set_cons_succ])
  refine wpAnyH_take (i:=15) (v:= ?v13) rfl (by kernel_rfl) (by kernel_rfl) (by kernel_rfl) (fun _ _ _ h=>h) (Or.inl ⟨by kernel_rfl, ?h13⟩) hHeld ?r13
  case h13=>intro W hSw;(try dsimp only at hSw);obtain s0:=hSw;go_simp;try with_reducible rfl
  simp only[Act.put,List.setIfInBounds_toArray,List.set_cons_zero,List.set_cons_succ]
  refine wpAnyH_take (i:=16) (v:= ?v14) rfl (by kernel_rfl) (by kernel_rfl) (by kernel_rfl) (fun _ _ _ h=>h) (Or.inl ⟨by kernel_rfl, ?h14⟩) hHeld ?r14
  case h14=>intro W hSw;(try dsimp only at hSw);obtain s0:=hSw;go_simp;try with_reducible rfl
  simp only[Act.put,List.setIfInBounds_toArray,List.set_cons_zero,List.set_cons_succ]
  refine wpAnyH_ready (rs:=[17]) (by kernel_rfl) (by simp) ?_
  refine AllReadyH.cons rfl (fun K hK=> ?_) AllReadyH.nil
  go_simp
  refine hK.out _ _ (KZ.out) (fun hHeld=> ?_)
  clear hK K
  (try simp only[Act.put,List.setIfInBounds_toArray,List.set_cons_zero,List.set_cons_succ])
  refine wpAnyH_done (by kernel_rfl) ?_ _
  go_wp2_with fail
  go_ret
  exact ⟨rfl,P9.out.2.1,_,by rw[HF.out];exact P9.out.1⟩
 ·go_simp
  refine hK.out _ _ (KB.out) (fun hHeld=> ?_)
  clear hK K
  (try simp only[Act.put,List.setIfInBounds_toArray,List.set_cons_zero,List.set_cons_succ])
  refine wpAnyH_ready (rs:=[4]) (by kernel_rfl) (by simp) ?_
  refine AllReadyH.cons rfl (fun K hK=> ?_) AllReadyH.nil
  go_simp
  refine hK.out _ _ (KB.out) (fun hHeld=> ?_)
  clear hK K
  (try simp only[Act.put,List.setIfInBounds_toArray,List.set_cons_zero,List.set_cons_succ])
  refine wpAnyH_ready (rs:=[14]) (by kernel_rfl) (by simp) ?_
  refine AllReadyH.cons rfl (fun K hK=> ?_) AllReadyH.nil
  refine step_append_rows rfl _ _ 65 rfl B 122 i0 _ 6 48 Tryz.underlying65 hi0 hz0 hz1 hz2 rfl (by decide) vf fs.length _ rfl FR.out _ [fmC F] rfl SC.out (one6 F) (by unfold maxLen;simp only[List.length_singleton];omega) (by simp only[List.length_singleton];omega) HBs.out ?_
  intro v9 w9 ho9 hg9
  have o9:w9.ownsRow B 122 6 v9 (fs.length+1) ((fmR fs).flatten++fmC F):=by simpa using ho9
  have P9:=hid (HH.out.pushC GB.out STW.out F hFd o9 hg9)
  obtain ⟨a9,c9,rfl⟩:=own_form o9
  have y22:=P9.out.2.2.1
  have yf:=P9.out.2.2.2.1
  have K9:Hid (w9.cell? ⟨q,10,none⟩=some s.vr):=hid (P9.out.2.2.2.2.cell 10 _ rfl)
  have KZ:Hid ((w9.setCell ⟨q,22,none⟩ (.slice a9 (fs.length+1) c9)).cell? ⟨q,10,none⟩=some s.vr):=hid P9.out.1.c10
  refine hK.out _ _ (K9.out) (fun hHeld=> ?_)
  clear hK K
  (try simp only[Act.put,List.setIfInBounds_toArray,List.set_cons_zero,List.set_cons_succ])
  refine wpAnyH_take (i:=15) (v:= ?v15) rfl (by kernel_rfl) (by kernel_rfl) (by kernel_rfl) (fun _ _ _ h=>h) (Or.inl ⟨by kernel_rfl, ?h15⟩) hHeld ?r15
  case h15=>intro W hSw;(try dsimp only at hSw);obtain s0:=hSw;go_simp;try with_reducible rfl
  simp only[Act.put,List.setIfInBounds_toArray,List.set_cons_zero,List.set_cons_succ]
  refine wpAnyH_take (i:=16) (v:= ?v16) rfl (by kernel_rfl) (by kernel_rfl) (by kernel_rfl) (fun _ _ _ h=>h) (Or.inl ⟨by kernel_rfl, ?h16⟩) hHeld ?r16
  case h16=>intro W hSw;(try dsimp only at hSw);obtain s0:=hSw;go_simp;try with_reducible rfl
  simp only[Act.put,List.setIfInBounds_toArray,List.set_cons_zero,List.set_cons_succ]
  refine wpAnyH_ready (rs:=[17]) (by kernel_rfl) (by simp) ?_
  refine AllReadyH.cons rfl (fun K hK=> ?_) AllReadyH.nil
  go_simp
  refine hK.out _ _ (KZ.out) (fun hHeld=> ?_)
  clear hK K
  (try simp only[Act.put,List.setIfInBounds_toArray,List.set_cons_zero,List.set_cons_succ])
  refine wpAnyH_done (by kernel_rfl) ?_ _
  go_wp2_with fail
  go_ret
  exact ⟨rfl,P9.out.2.1,_,by rw[HF.out];exact P9.out.1⟩
end Go.Proofs.YtbamcchghecpeaaGreatDoor
