import Derived.Test.YtlokhciaaepenaaGreatDoorB24
set_option linter.unusedVariables false
set_option linter.unusedSimpArgs false
set_option maxRecDepth 100000
namespace Go.Proofs.YtlokhciaaepenaaGreatDoor
open Go.ChangeShapes Go.WideShapes Go.ChangeAt Go.RowKit
theorem bod_args (x:Sp):x.2.2.length≤(bodT x).length:=by
 unfold bodT
 by_cases h:x.2.2=[]
 ·rw[h];simp
 ·rw[if_neg h]
  simp only[List.length_append,List.length_cons]
  omega
theorem shp_args:∀(l:List Sp) (x:Sp),x∈l→x.2.2.length≤(shpT l).length
 |y::l,x,h=>by
  simp only[shpT,List.length_cons,List.length_append]
  rcases List.mem_cons.1 h with rfl|h
  ·have:=bod_args x
   omega
  ·have:=shp_args l x h
   omega
theorem way_okSt {t:List Nd} {s:List Int} {S:List Sto} (hb:bytesL s) (hp:(parF s).2=0) (h:wayOk t (parF s).1 S):∀x∈S,okSt t x∧bytesL x.2:=by
 intro x hx
 obtain ⟨j,hj,hjl⟩:=way_stops h x hx
 obtain ⟨hx1,hln,h256,_⟩:=par_ok s hb hp
 obtain ⟨i,hi,rfl⟩:=List.getElem_of_mem hx
 have hil:i < (parF s).1.length:=by rw[←h.1];exact hi
 have e:=(h.2 i hil hi).2
 have hm:(parF s).1[i]∈(parF s).1:=List.getElem_mem hil
 obtain ⟨g1,g2,g3,g4⟩:=hx1 _ hm
 refine ⟨⟨by omega,by omega, ?_, ?_⟩,by rw[e];exact g4⟩
 ·rw[e]
  have:=shp_args _ _ hm
  omega
 ·rw[e]
  unfold okS at g1
  simp only[Bool.and_eq_true,List.all_eq_true,decide_eq_true_eq] at g1
  exact fun h=>g1.2.2 47 h rfl
theorem wfI {n:Int} (h0: -9223372036854775808≤n) (h1:n≤9223372036854775807):(Lit.int .i64 n).wf=true:=by
 simp[Lit.wf,IntKind.min,IntKind.max,IntKind.bits,IntKind.signed]
 omega
theorem cel_16 {t:List Nd} (hf:frmT t=true) {x:Nd} (hx:x∈t):x.2.2.2.2.length≤16:=by
 obtain ⟨g0,g1,g2,g3⟩:=(frm_iff t).1 hf
 obtain ⟨i,hi,rfl⟩:=List.getElem_of_mem hx
 have h:=g3 i hi
 unfold okN at h
 simp only[Bool.and_eq_true,Bool.or_eq_true,decide_eq_true_eq] at h
 exact h.2.2.1
structure Opd17 (m:Mc) (S:List Sto) (l2:List Iz) (ch:List Nat):Prop where
 cc:Chn m.tree m.insts S.reverse l2 ch
 frm:frmM {m with insts:=l2}=true
 gm:gM {m with insts:=l2}
 nd:ch.Nodup
 inb:∀i∈ch,i < l2.length
 lnk:∀j (hj:j < ch.length),∃x,l2[ch[j]]? =some x∧x.2.1=hdI (ch.drop (j+1))∧¬x.1= -1
 fre:∀j (hj:j < ch.length),∀x∈relI l2 ch j,¬x.2.1=(ch[j]:Nat)
 self:m.self= -1∨∃i:Nat,m.self=i∧∃x,(relI l2 ch ch.length)[i]? =some x∧¬x.1= -1
 len:ch.length=S.length
theorem opd_all {m:Mc} (g:gM m) (hF:frmM m=true) {s:List Int} (hb:bytesL s) (hp:(parF s).2=0) {S:List Sto} (hS:wayOk m.tree (parF s).1 S) {l2:List Iz} {ch:List Nat} (hop:opnS m.tree m.insts S.reverse=some (l2,ch)):Opd17 m S l2 ch:=by
 obtain ⟨p1,p2,p3,p4,p5,p6,p7⟩:=frm_parts hF
 have hst:=way_okSt hb hp hS
 have hl16:=(ins_parts p5).1
 have cc:=opn_chn m.tree m.insts hl16 S.reverse l2 ch (fun x hx=>(hst x (List.mem_reverse.1 hx)).1.1) hop
 have hin:=chn_formed cc p5 (fun x hx=>(hst x (List.mem_reverse.1 hx)).1)
 have hself:=frm_self hF
 have hs2:m.self= -1∨alvF l2 m.self=true:=hself.imp id (fun h=>(chn_alive cc h).1)
 have hlnk:∀j (hj:j < ch.length),∃x,l2[ch[j]]? =some x∧x.2.1=hdI (ch.drop (j+1))∧¬x.1= -1:=by
  intro j hj
  have hj2:j < S.reverse.length:=by rw[←cc.len];exact hj
  refine ⟨_,cc.lnk j hj hj2,rfl, ?_⟩
  have:=(hst _ (List.mem_reverse.1 (List.getElem_mem hj2))).1.1
  simp only
  omega
 refine ⟨cc, ?_, ?_,cc.nd,fun i hi=>(cc.inb i hi).1,hlnk,fun j hj=>rel_free cc p5 j hj, ?_,by rw[cc.len,List.length_reverse]⟩
 ·unfold frmM at hF ⊢
  simp only[Bool.and_eq_true,Bool.or_eq_true,decide_eq_true_eq] at hF ⊢
  exact ⟨hF.1,hF.2.1,hF.2.2.1,hin,hs2,hF.2.2.2.2.2⟩
 ·refine ⟨g.stack,g.stackZ,g.mem,g.memZ,g.words,g.wordsZ,g.codes,g.codesZ,g.base,g.tree,g.treeZ,g.node, ?_, ?_,g.self,g.out,g.outZ⟩
  ·intro x hx
   obtain ⟨i,hi,rfl⟩:=List.getElem_of_mem (show x∈l2 from hx)
   by_cases hm:i∈ch
   ·obtain ⟨j,hj,rfl⟩:=List.getElem_of_mem hm
    have hj2:j < S.reverse.length:=by rw[←cc.len];exact hj
    have e:=cc.lnk j hj hj2
    rw[List.getElem?_eq_getElem hi] at e
    injection e with e
    rw[e]
    obtain ⟨⟨o1,o2,o3,o4⟩,o5⟩:=hst _ (List.mem_reverse.1 (List.getElem_mem hj2))
    obtain ⟨jn,hjn⟩:∃k:Nat,(S.reverse[j]).1=k:=⟨(S.reverse[j]).1.toNat,by omega⟩
    have hjl:jn < m.tree.length:=by omega
    have h32:=(frm_siz p4).1
    have hc:=cel_at hjn hjl
    have h16:=cel_16 p4 (List.getElem_mem hjl)
    have hd: -1≤hdI (ch.drop (j+1))∧hdI (ch.drop (j+1)) < 16:=by
     cases hdr:ch.drop (j+1) with
     |nil=>simp[hdI]
     |cons a r=>
      have ha:a∈ch:=List.mem_of_mem_drop (by rw[hdr];simp)
      have h1:=(cc.inb a ha).1
      have h2:=cc.le
      simp only[hdI]
      omega
    refine ⟨wfI (by simp only;omega) (by simp only;omega),wfI (by simp only;omega) (by simp only;omega),o5,by unfold maxLen;simp only;omega, ?_, ?_⟩
    ·rw[hc]
     exact (g.tree _ (List.getElem_mem hjl)).2.2.2.2.1
    ·simp only
     rw[hc]
     omega
   ·obtain ⟨h1,h2⟩:=cc.out i hi hm
    rw[List.getElem?_eq_getElem hi,List.getElem?_eq_getElem h1] at h2
    injection h2 with h2
    rw[h2]
    exact g.insts _ (List.getElem_mem h1)
  ·have:=cc.le
   simp only
   omega
 ·rcases hself with h|h
  ·exact Or.inl h
  ·obtain ⟨i,hi,x,hx,hx1⟩:=alv_at h
   obtain ⟨_,h2,h3⟩:=chn_alive cc h
   refine Or.inr ⟨i,hi,x, ?_,hx1⟩
   rw[hi,Int.toNat_natCast] at h2 h3
   have hil:=(List.getElem?_eq_some_iff.1 (h2.trans hx)).1
   rw[rel_all cc p5 i hil,hx]
   rfl
end Go.Proofs.YtlokhciaaepenaaGreatDoor
