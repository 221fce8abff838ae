import Derived.Laws.IdiomCopy
import Derived.Test.YtlokhciaaepenaaGreatDoorB11
set_option linter.unusedVariables false
set_option linter.unusedSimpArgs false
set_option maxRecDepth 100000
namespace Go.Proofs.YtlokhciaaepenaaGreatDoor
open Go.ChangeShapes Go.WideShapes Go.ChangeAt Go.RowKit
theorem slr_take {α:Type} {P:Program} {R:World→List Value→α→Prop} {w:World} {v:Value} {xs:List α} {sz:Nat} (h:SlR sz R w v xs) {t:TypeId} (ht:P.underlying t=some (.slice (P.elem t))) (hs:∀w,(sizeOf (P.elem t)).run P w= .ok sz w) (n:Nat) (hn:n≤xs.length):
  ∃v',(∀w',(Instr.slice t v none (some (.int .i64 (n:Int))) none).run P w'= .ok v' w')∧SlR sz R w v' (xs.take n):=by
 obtain ⟨rows,h1,h2,h3⟩:=h
 obtain ⟨ao,cap,rfl,hc,hno,hx⟩:=h1.form
 refine ⟨sliced ao 0 n cap sz,fun w'=> ?_,rows.take n, ?_,by simp[h2],fun i hi=> ?_⟩
 ·rw[run_slice_h w' t ao rows.length cap ht .i64 (n:Int) (by omega) (by omega),hs]
  simp[Result.andThen]
 ·rcases Nat.eq_zero_or_pos n with h0|h0
  ·subst h0
   refine Or.inl ⟨if cap=0 then ao else ao.map (·.add (0*sz)),cap,by simp[sliced], ?_,by simp⟩
   intro he
   by_cases hc0:cap=0
   ·exact hc0
   ·rw[if_neg hc0] at he
    cases ao with
    |none=>exact hno rfl
    |some a=>cases he
  ·obtain ⟨hm,b,off,rfl,hcell⟩:=hx (by omega)
   have hl:(rows.take n).length=n:=by simp;omega
   refine Or.inr ⟨b,off,cap, ?_,by omega,by omega,hm,fun i hi=> ?_⟩
   ·rw[sliced,hl,if_neg (by omega)]
    simp[Addr.add]
   ·rw[hl] at hi
    have e:(rows.take n).getD i []=rows.getD i []:=by
     rw[List.getD_eq_getElem?_getD,List.getD_eq_getElem?_getD,List.getElem?_take,if_pos hi]
    rw[e]
    exact hcell i (by omega)
 ·have hi2:i < n:=by simp at hi;omega
  have e:(rows.take n).getD i []=rows.getD i []:=by
   rw[List.getD_eq_getElem?_getD,List.getD_eq_getElem?_getD,List.getElem?_take,if_pos hi2]
  rw[e,List.getElem_take]
  exact h3 i (by simp at hi;omega)
theorem shp_len (l:List Sp):l.length≤(shpT l).length:=by
 induction l with
 |nil=>simp[shpT]
 |cons x l ih=>simp only[shpT,List.length_cons,List.length_append];omega
def stoC (s:Sto):List Value:=[.int .i64 s.1, .string (strOfNums s.2)]
def stoR (_:World) (cs:List Value) (s:Sto):Prop:=cs=stoC s
theorem stoR_below {w w':World} (cs:List Value) (x:Sto) (h:stoR w cs x):stoR w' cs x:=h
theorem uSo:Tryz.prog.underlying 58=some (.slice (Tryz.prog.elem 58)):=by kernel_rfl
theorem eSo:Tryz.prog.elem 58=77:=by kernel_rfl
theorem zSo (w:World):(sizeOf (Tryz.prog.elem 58)).run Tryz.prog w= .ok 2 w:=by rw[eSo];exact Tryz.sizeOf77 w
theorem infoSo:(Tryz.prog.info? 77).map (fun i=>(i.zero,i.size,i.bytes))=some (some (.agg #[.int .i64 0, .string ⟨#[]⟩]),2,24):=by kernel_rfl
theorem info_so:∃i,Tryz.prog.info? 77=some i∧i.zero=some (.agg #[.int .i64 0, .string ⟨#[]⟩])∧i.size=2∧i.bytes=24:=by
 obtain ⟨i,h1,h2⟩:=Option.map_eq_some_iff.1 infoSo
 injection h2 with h2 h3
 injection h3 with h3 h4
 exact ⟨i,h1,h2,h3,h4⟩
def OwSo (base:Nat) (w:World) (v:Value) (out:List Sto):Prop:=w.ownsRow base 77 2 v out.length (out.flatMap stoC)
theorem OwSo.read {base:Nat} {w:World} {v:Value} {out:List Sto} (h:OwSo base w v out):SlR 2 stoR w v out:=
 slr_rows stoC (fun _ _=>rfl) (by decide) h (fun p hm=>rfl)
theorem so_one (A:Int) (s:ByteArray):∀u∈[Value.int .i64 A, .string s],u.oneCell'=true:=by
 intro u hu
 simp at hu
 rcases hu with rfl|rfl <;> rfl
theorem ownSo_nil (w:World) (base:Nat):OwSo base w (.slice none 0 0) []:=⟨rfl,Or.inl ⟨rfl,rfl⟩⟩
theorem own_belowSo {w w':World} {base:Nat} {v:Value} {out:List Sto} (h:OwSo base w v out) (g:Below w.heap.size w w'):OwSo base w' v out:=by
 obtain ⟨hl,h⟩:=h
 refine ⟨hl, ?_⟩
 rcases h with h|⟨b,cap,cur,rfl,hb,hg,hc,hm,hs,ht⟩
 ·exact Or.inl h
 ·refine Or.inr ⟨b,cap,cur,rfl,hb, ?_,hc,hm,hs,ht⟩
  rw[g.block b (Array.getElem?_eq_some_iff.1 hg).1]
  exact hg
def wayBad (t:List Nd) (p:List Sp×Int):Prop:=¬p.2=0∨p.1=[]∨∃k,k < p.1.length∧¬(finT t (p.1.take (k+1))).2=0
def wayOk (t:List Nd) (l:List Sp) (S:List Sto):Prop:=S.length=l.length∧∀i (h:i < l.length) (h2:i < S.length),finT t (l.take (i+1))=(S[i].1,0)∧S[i].2=l[i].2.2
theorem wayOk_snoc {t:List Nd} {l:List Sp} {S:List Sto} {k:Nat} (h:wayOk t (l.take k) S) (hk:k < l.length) {n:Int} (hf:finT t (l.take (k+1))=(n,0)):wayOk t (l.take (k+1)) (S++[(n,l[k].2.2)]):=by
 obtain ⟨h1,h2⟩:=h
 have hl:S.length=k:=by rw[h1,List.length_take];omega
 refine ⟨by rw[List.length_append,hl,List.length_take];simp;omega,fun i hi hi2=> ?_⟩
 rw[List.length_take] at hi
 have e1:(l.take (k+1)).take (i+1)=l.take (i+1):=by rw[List.take_take];congr 1;omega
 rw[e1]
 by_cases hik:i < k
 ·have g1:i < (l.take k).length:=by rw[List.length_take];omega
  have g2:i < S.length:=by omega
  obtain ⟨a,b⟩:=h2 i g1 g2
  have e2:(l.take k).take (i+1)=l.take (i+1):=by rw[List.take_take];congr 1;omega
  rw[e2] at a
  rw[List.getElem_append_left g2]
  refine ⟨a, ?_⟩
  rw[b,List.getElem_take,List.getElem_take]
 ·have:i=k:=by omega
  subst this
  rw[List.getElem_append_right (by omega)]
  simp only[hl,Nat.sub_self,List.getElem_singleton,List.getElem_take]
  exact ⟨hf,trivial⟩
set_option maxHeartbeats 2000000 in
set_option maxRecDepth 100000 in
theorem w_pway (v:Value) (t:List Nd) (s:ByteArray) (w:World) (hT:Tab w) (hs:s.size≤maxLen) (h:RdT w v t) (bt:∀x∈t,bytN x) (ls:∀x∈t,lenN x):
  Calls Tryz.prog 14 #[v, .string s] w fun e w'=>∃v' E,e= .returned (.tuple #[v', .int .i64 E])∧(¬E=0∧wayBad t (parF (L s))∨E=0∧(parF (L s)).2=0∧¬(parF (L s)).1=[]∧∃S,wayOk t (parF (L s)).1 S∧SlR 2 stoR w' v' S)∧Below w.heap.size w w':=by
 have cP:=w_ppath s w hs hT
 have hok:=par_ok (L s) (LB_bytes s)
 obtain ⟨⟨l,E⟩,hP⟩:∃x,parF (L s)=x:=⟨_,rfl⟩
 rw[hP] at cP hok ⊢
 simp only at cP hok ⊢
 clear hP
 by_cases hE:E=0
 ·subst hE
  have hok:=hok rfl
  by_cases hl0:l=[]
  ·subst hl0
   clear hok
   go_enter Tryz.func14,Tryz.ntmps14
   go_wp2_with (go_at_call 28;refine cP.mono ?_;rintro e w1 ⟨v1,rfl,r1,b1⟩;have hl1:∀ty w',(Builtin.len_ #[38] ty #[v1]).run Tryz.prog w'= .ok (.int .i64 0) w':=slr_len r1 uP (P:=Tryz.prog))
   go_ret2
   exact ⟨_,_,rfl,Or.inl ⟨by decide,Or.inr (Or.inl rfl)⟩,b1⟩
  ·obtain ⟨hx,hln,h256,_⟩:=hok
   have hlp:(0:Int) < l.length:=by cases l with|nil=>exact absurd rfl hl0|cons a b=>simp only[List.length_cons];omega
   have hq0:((l.length:Int)==0)=false:=by rw[beq_eq_false_iff_ne];omega
   have HL0:=hid hl0
   obtain ⟨i4,hi4,hz4,hs4,hb4⟩:=info_so
   have HB:=hid (show ∀x∈l,bytesL x.1∧bytesL x.2.2 from fun x hm=>⟨(hx x hm).2.2.1,(hx x hm).2.2.2⟩)
   have HN:=hid (show l.length≤256 from Nat.le_trans (shp_len l) (Nat.le_trans hln h256))
   clear hx hln h256 hl0
   go_enter Tryz.func14,Tryz.ntmps14
   go_wp2_with (first|(go_at_call 28;refine cP.mono ?_;rintro e w1 ⟨v1,rfl,r1,b1⟩;have hl1:=slr_len r1 uP (P:=Tryz.prog);have hm1:=slr_max r1)|fail)
   unfold maxLen at hm1
   have HR1:Hid (∀W,Below w1.heap.size w1 W→SlR 3 stpR W v1 l):=hid (fun W g=>r1.below g (stpR_below g))
   go_loopw [8,26] (fun O I wx=>∃(k:Nat) (S:List Sto),I= .int .i64 k∧(k:Int)≤l.length∧OwSo w1.heap.size wx O S∧Hid (wayOk t (l.take k) S)∧Below w1.heap.size w1 wx) (fun _ I _=>(l.length - intOf I).toNat)
   case atStart=>exact ⟨0,[],rfl,by omega,ownSo_nil _ _,hid ⟨rfl,fun i hi=>absurd hi (by simp)⟩,Below.refl _ _⟩
   case round=>
    obtain ⟨k,S,rfl,hk,ho,hw,hg⟩:=hrel
    by_cases hlt:(k:Int) < l.length
    ·have hkl:k < l.length:=by omega
     have hSl:S.length=k:=by rw[hw.out.1,List.length_take];omega
     have hk256:k < 256:=Nat.lt_of_lt_of_le hkl HN.out
     obtain ⟨bs,os,sn,sa,so,nU,sc,rs,s0,s1,s2,es,ea,hsu⟩:=stp_at (HR1.out wr hg) k hkl
     have hbx:=box_below wr (.cells #[.string sn, .slice so nU sc, .string sa] 47)
     have st:=stands_new wr #[.string sn, .slice so nU sc, .string sa] 47
     have y2:(wr.alloc (.cells #[.string sn, .slice so nU sc, .string sa] 47)).cell? ⟨wr.heap.size,2,none⟩=some (.string sa):=st.cell 2 _ rfl
     have hgb:=below_trans hg hbx
     obtain ⟨vt,ht1,ht2⟩:=slr_take (HR1.out _ hgb) uP zP (k+1) (by omega)
     have e1:IntKind.i64.wrap ((k:Int)+1)=(k:Int)+1:=by rw[IntKind.wrap_i64];omega
     have ht1':∀w',(Instr.slice 38 v1 none (some (.int .i64 ((k:Int)+1))) none).run Tryz.prog w'= .ok vt w':=ht1
     have cF:=w_p8find' v vt t (l.take (k+1)) _ (h.below (below_trans b1 hgb)) ht2 bt ls (fun x hx=>HB.out x (List.mem_of_mem_take hx))
     have hnx:=fun n hf=>hid (wayOk_snoc (n:=n) hw.out hkl hf)
     obtain ⟨⟨A,E⟩,hA⟩:∃x,finT t (l.take (k+1))=x:=⟨_,rfl⟩
     have HBAD:Hid (¬E=0→wayBad t (l,0)):=fun h=>Or.inr (Or.inr ⟨k,hkl,by rw[show ((l,(0:Int)).1:List Sp)=l from rfl,hA];exact h⟩)
     rw[hA] at cF hnx
     simp only at cF
     clear hA ht1
     by_cases hE:E=0
     ·subst hE
      have hnx:=hnx A rfl
      have hZc:Hid ([.int .i64 A, .string sa]=stoC (A,l[k].2.2)):=by show _=_;rw[stoC,ea]
      obtain ⟨Z,hZ⟩:∃Z,(A,l[k].2.2)=Z:=⟨_,rfl⟩
      rw[hZ] at hnx hZc
      clear hZ ea es hsu ht2 hw
      go_wp2_with (first
       |(go_at_call 29;refine cF.mono ?_;rintro e w2 ⟨rfl,b2⟩;have hg2:=below_trans hgb b2;have y2':=below_cell b2 y2;have oo:=own_belowSo (own_belowSo ho (below_trans hbx b2)) (box_below w2 (.cells #[.int .i64 A, .string sa] 77)))
       |(at_builtin;refine wpList_append_row rfl _ _ 58 rfl w1.heap.size 77 i4 _ 2 24 Tryz.underlying58 hi4 hz4 hs4 hb4 rfl (by decide) _ S.length _ rfl oo w2.heap.size [.int .i64 A, .string sa] rfl rfl (alloc_row w2 [.int .i64 A, .string sa] 77) (so_one A sa) (by unfold maxLen;omega) (by omega) (by have:=hg2.size;have:=(box_below w2 (.cells #[.int .i64 A, .string sa] 77)).size;omega) ?_;intro v8 w8 o8 g8;have h8:=below_grown (below_trans hg2 (box_below w2 (.cells #[.int .i64 A, .string sa] 77))) g8 (fun k hk=>(oo.lt k hk).1))
       |fail)
      go_roundw
      case rel=>exact ⟨k+1,S++[Z],by go_num,by omega,by rw[hZc.out] at o8;simpa [OwSo] using o8,hnx,h8⟩
      case measure=>simp[intOf];omega
     ·clear hnx ea es hsu ht2 hw
      go_wp2_with (first
       |(go_at_call 29;refine cF.mono ?_;rintro e w2 ⟨rfl,b2⟩;have hg2:=below_trans hgb b2)
       |fail)
      go_ret2
      exact ⟨_,_,rfl,Or.inl ⟨hE,HBAD.out hE⟩,below_trans b1 hg2⟩
    ·obtain rfl:k=l.length:=by omega
     have hww:=hw.out
     rw[List.take_length] at hww
     have HW:=hid hww
     clear hww
     go_wp2_with fail
     go_ret2
     exact ⟨_,_,rfl,Or.inr ⟨rfl,HL0.out,S,HW.out,ho.read⟩,below_trans b1 hg⟩
 ·clear hok
  go_enter Tryz.func14,Tryz.ntmps14
  go_wp2_with (go_at_call 28;refine cP.mono ?_;rintro e w1 ⟨v1,rfl,r1,b1⟩)
  go_ret2
  exact ⟨_,_,rfl,Or.inl ⟨hE,Or.inl hE⟩,b1⟩
def setL {α:Type} (cs:List α):Nat→List α→List α
 |_,[]=>cs
 |o,v::r=>setL (cs.set o v) (o+1) r
theorem setL_get {α:Type}:∀(news:List α) (cs:List α) (o:Nat),o+news.length≤cs.length→∀i,(setL cs o news)[i]? =if i < o then cs[i]? else if i < o+news.length then news[i - o]? else cs[i]?
 |[],cs,o,h,i=>by simp only[setL,List.length_nil,Nat.add_zero];split <;> (try split) <;> first|rfl|omega
 |v::r,cs,o,h,i=>by
  rw[setL,setL_get r (cs.set o v) (o+1) (by simp at h ⊢;omega) i]
  simp only[List.length_cons] at h ⊢
  by_cases h1:i < o
  ·rw[if_pos (by omega),if_pos h1,List.getElem?_set_ne (by omega)]
  ·rw[if_neg h1]
   by_cases h2:i=o
   ·subst h2
    rw[if_pos (by omega),if_pos (by omega),List.getElem?_set_self (by omega),Nat.sub_self]
    rfl
   ·rw[if_neg (by omega)]
    by_cases h3:i < o+(r.length+1)
    ·rw[if_pos (by omega),if_pos h3,show i - o=(i - (o+1))+1 by omega]
     rfl
    ·rw[if_neg (by omega),if_neg h3,List.getElem?_set_ne (by omega)]
theorem setL_eq {α:Type} (news cs:List α) (o:Nat) (h:o+news.length≤cs.length):setL cs o news=cs.take o++news++cs.drop (o+news.length):=by
 apply List.ext_getElem?
 intro i
 rw[setL_get news cs o h]
 by_cases h1:i < o
 ·rw[if_pos h1,List.append_assoc,List.getElem?_append_left (by simp;omega),List.getElem?_take,if_pos h1]
 ·rw[if_neg h1]
  by_cases h2:i < o+news.length
  ·rw[if_pos h2,List.getElem?_append_left (by simp;omega),List.getElem?_append_right (by simp;omega)]
   congr 1
   simp
   omega
  ·rw[if_neg h2,List.getElem?_append_right (by simp;omega),List.getElem?_drop]
   congr 1
   simp
   omega
theorem own_setCells {base:Nat} {e:TypeId} {sz g n cap:Nat}:∀(news:List Value) (w:World) (cs:List Value) (o:Nat),w.ownsRow base e sz (.slice (some ⟨g,0,none⟩) n cap) n cs→
  (w.setCells g o news).ownsRow base e sz (.slice (some ⟨g,0,none⟩) n cap) n (setL cs o news)∧w.grownBy (w.setCells g o news) (some g)
 |[],w,cs,o,h=>⟨h,⟨rfl,rfl,rfl,Nat.le_refl _,fun _ _ _=>rfl⟩⟩
 |v::r,w,cs,o,h=>by
  obtain ⟨h1,h2⟩:=h.stored o v
  obtain ⟨h3,h4⟩:=own_setCells r (w.setCell ⟨g,o,none⟩ v) (cs.set o v) (o+1) h1
  exact ⟨h3,h4.os.trans h2.os,h4.tape.trans h2.tape,h4.output.trans h2.output,Nat.le_trans h2.size h4.size,fun k hk hne=>(h4.block k (Nat.lt_of_lt_of_le hk h2.size) hne).trans (h2.block k hk hne)⟩
theorem flat_take {α:Type}:∀(rows:List (List α)) (sz j:Nat),(∀r∈rows,r.length=sz)→rows.flatten.take (j*sz)=(rows.take j).flatten
 |[],sz,j,h=>by simp
 |r::rows,sz,0,h=>by simp
 |r::rows,sz,j+1,h=>by
  have hr:=h r (by simp)
  have ih:=flat_take rows sz j (fun x hx=>h x (by simp[hx]))
  rw[List.flatten_cons,List.take_succ_cons,List.flatten_cons,List.take_append,hr,Nat.add_mul,Nat.one_mul,show j*sz+sz - sz=j*sz by omega,ih,List.take_of_length_le (by omega)]
theorem flat_drop {α:Type}:∀(rows:List (List α)) (sz j:Nat),(∀r∈rows,r.length=sz)→rows.flatten.drop (j*sz)=(rows.drop j).flatten
 |[],sz,j,h=>by simp
 |r::rows,sz,0,h=>by simp
 |r::rows,sz,j+1,h=>by
  have hr:=h r (by simp)
  have ih:=flat_drop rows sz j (fun x hx=>h x (by simp[hx]))
  rw[List.flatten_cons,List.drop_succ_cons,List.drop_append,hr,Nat.add_mul,Nat.one_mul,show j*sz+sz - sz=j*sz by omega,ih,List.drop_of_length_le (by omega),List.nil_append]
end Go.Proofs.YtlokhciaaepenaaGreatDoor
