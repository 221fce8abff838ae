import Derived.Test.YtkkehbdahniiaaaGreatDoorB12
set_option linter.unusedVariables false
set_option linter.unusedSimpArgs false
set_option maxRecDepth 100000
namespace Go.Proofs.YtkkehbdahniiaaaGreatDoor
def bkF (w:List Int):Bool:=decide (w=[97,103,97,105,110]∨w=[117,110,116,105,108]∨w=[114,101,112,101,97,116])
theorem act_tab:∀x∈actW,∃l,tabF x.1=some l∧∀m,acM x.2 m=layF (bkF x.1) l m:=by
 intro x hx
 simp only[actW,List.mem_cons,List.not_mem_nil,or_false] at hx
 rcases hx with rfl|rfl|rfl|rfl|rfl|rfl|rfl|rfl|rfl|rfl|rfl|rfl|rfl|rfl|rfl|rfl|rfl <;> exact ⟨_,rfl,fun m=>rfl⟩
theorem act_sp:∀x∈actW,¬x.1=[58]∧¬x.1=[39]∧byF x.1=none∧¬x.1=[59]∧¬x.1=[101,120,105,116]∧¬x.1=[91,39,93]∧x.2≠[]∧x.2.length≤2∧∀a∈x.2,1≤a∧a≤15:=by decide+kernel
theorem act_find {w:List Int} (h:actL w≠[]):∃x∈actW,x.1=w∧actL w=x.2:=by
 unfold actL at h ⊢
 rcases hq:actW.find? (fun x=>decide (x.1=w)) with _|x
 ·rw[hq] at h;exact absurd rfl h
 ·have:=List.find?_some hq
  exact ⟨x,List.mem_of_find?_eq_some hq,by simpa using this,by rw[hq];rfl⟩
theorem tab_none {w:List Int} (h:actL w=[]):tabF w=none:=by
 have hk:∀x∈tabW,∃y∈actW,y.1=x.1∧y.2≠[]:=by decide+kernel
 unfold tabF
 rcases hq:tabW.find? (fun x=>decide (x.1=w)) with _|x
 ·rw[hq];rfl
 ·exfalso
  have hx:x.1=w:=by have:=List.find?_some hq;simpa using this
  obtain ⟨y,hy,e1,e2⟩:=hk x (List.mem_of_find?_eq_some hq)
  unfold actL at h
  rcases hz:actW.find? (fun x=>decide (x.1=w)) with _|z
  ·rw[List.find?_eq_none] at hz
   exact hz y hy (by simp[e1,hx])
  ·rw[hz] at h
   have:=(act_sp z (List.mem_of_find?_eq_some hz)).2.2.2.2.2.2.1
   exact this (by simpa using h)
def tokW (m:Mk) (w:List Int) (r:List Tk):(Mk×List Tk) ⊕ Int:=match specF m w r with
 |some y=>y
 |none=>otR m w r
theorem tok_word (m:Mk) (w:List Int) (p:Int) (r:List Tk):tok1F lit m (1,w,p) r=tokW m w r:=by
 unfold tok1F tokW otR
 rw[if_neg (by simp)]
 rfl
def outR (m:Mk) (w:List Int) (r:List Tk):(Mk×List Tk) ⊕ Int:=match mkF w with
 |some c=>mwR m c r
 |none=>if w=[58] then bgR m r else if w=[105,110,115,116,97,110,99,101] then miR m r else if w=[39] then wcR m 17 r else if w=[116,111] then wcR m 195 r
  else if w=[59]∨w=[101,120,105,116]∨w=[91,39,93] then .inr 13 else if actL w=[] then otR m w r else .inr 13
def insR (m:Mk) (w:List Int) (r:List Tk):(Mk×List Tk) ⊕ Int:=match mkF w with
 |some c=> .inr 13
 |none=>if w=[59] then fnR m r else if w=[58]∨w=[105,110,115,116,97,110,99,101]∨w=[39] then .inr 13 else if w=[101,120,105,116] then .inl (addT m 51 0 [],r)
  else if w=[91,39,93] then wcR m 17 r else if w=[116,111] then wcR m 195 r else if actL w=[] then otR m w r else acR m (actL w) r
theorem mk_sp:∀x∈mkW,¬x.1=[58]∧¬x.1=[39]∧¬x.1=[105,110,115,116,97,110,99,101]:=by decide+kernel
theorem mk_find {w:List Int} {c:Int} (h:mkF w=some c):¬w=[58]∧¬w=[39]∧¬w=[105,110,115,116,97,110,99,101]∧byF w=some c∧184≤c∧c≤189:=by
 have hb:∀x∈mkW,184≤x.2∧x.2≤189:=by decide+kernel
 have h0:=h
 unfold mkF at h
 rcases hq:mkW.find? (fun x=>decide (x.1=w)) with _|x
 ·rw[hq] at h;cases h
 ·rw[hq] at h
  injection h with h
  subst h
  have hx:x.1=w:=by have:=List.find?_some hq;simpa using this
  have hm:=List.mem_of_find?_eq_some hq
  obtain ⟨a1,a2,a3⟩:=mk_sp x hm
  rw[hx] at a1 a2 a3
  exact ⟨a1,a2,a3,by rw[mk_by,if_neg a3];exact h0,hb x hm⟩
theorem out_eq (m:Mk) (w:List Int) (r:List Tk) (ho:m.op=false):outR m w r=tokW m w r:=by
 have hno:¬m.op=true:=by rw[ho];simp
 unfold outR tokW
 rcases hm:mkF w with _|c
 ·simp only
  by_cases h1:w=[58]
  ·rw[if_pos h1];subst h1
   unfold specF bgR
   rw[if_pos (Or.inl rfl),if_neg hno,if_neg (by decide),if_pos rfl]
   rcases frshF m r with x|e <;> rfl
  rw[if_neg h1]
  by_cases h2:w=[105,110,115,116,97,110,99,101]
  ·rw[if_pos h2];subst h2
   have e:specF m [105,110,115,116,97,110,99,101] r=some (miR m r):=by
    unfold specF
    rw[if_pos (show _∨_∨(byF [105,110,115,116,97,110,99,101]).isSome=true from Or.inr (Or.inr rfl)),if_neg hno,if_neg (by decide),if_neg (by decide),if_pos rfl]
    unfold miR
    rcases nameF r with _|⟨s,l⟩
    ·rfl
    ·simp only
     by_cases hs:s=[118,97,108,117,101]
     ·rw[if_pos hs,if_pos hs]
      unfold mwR
      simp only
      rcases frshF (addT m 192 0 []) l with x|e <;> rfl
     ·rw[if_neg hs,if_neg hs]
   rw[e]
  rw[if_neg h2]
  have hby:byF w=none:=by rw[mk_by,if_neg h2];exact hm
  by_cases h3:w=[39]
  ·rw[if_pos h3];subst h3
   unfold specF wcR
   rw[if_pos (Or.inr (Or.inl rfl)),if_neg hno,if_pos rfl]
   rcases nameF r with _|⟨s,l⟩
   ·rfl
   ·simp only
    rcases fndN m.nm s with _|c <;> rfl
  rw[if_neg h3]
  have n1:¬(w=[58]∨w=[39]∨(byF w).isSome=true):=by rw[hby];simp[h1,h3]
  by_cases h4:w=[116,111]
  ·rw[if_pos h4];subst h4
   unfold specF wcR
   rw[if_neg n1,if_neg (by decide),if_pos rfl]
   rcases nameF r with _|⟨s,l⟩
   ·rfl
   ·simp only
    rcases fndN m.nm s with _|c <;> rfl
  rw[if_neg h4]
  by_cases h5:w=[59]∨w=[101,120,105,116]∨w=[91,39,93]
  ·rw[if_pos h5]
   have n2:w=[59]∨w=[101,120,105,116]∨w=[91,39,93]∨(tabF w).isSome=true:=by rcases h5 with h|h|h <;> simp[h]
   unfold specF
   rw[if_neg n1,if_pos n2,if_pos ho]
  rw[if_neg h5]
  by_cases h6:actL w=[]
  ·rw[if_pos h6]
   have n2:¬(w=[59]∨w=[101,120,105,116]∨w=[91,39,93]∨(tabF w).isSome=true):=by
    rw[tab_none h6]
    intro z
    rcases z with z|z|z|z
    ·exact h5 (Or.inl z)
    ·exact h5 (Or.inr (Or.inl z))
    ·exact h5 (Or.inr (Or.inr z))
    ·cases z
   unfold specF
   rw[if_neg n1,if_neg n2,if_neg h4]
  ·rw[if_neg h6]
   obtain ⟨x,hx,e1,e2⟩:=act_find h6
   obtain ⟨l,e3,e4⟩:=act_tab x hx
   have n2:w=[59]∨w=[101,120,105,116]∨w=[91,39,93]∨(tabF w).isSome=true:=by rw[←e1,e3];simp
   unfold specF
   rw[if_neg n1,if_pos n2,if_pos ho]
 ·simp only
  obtain ⟨a1,a2,a3,a4,a5⟩:=mk_find hm
  unfold specF mwR
  rw[if_pos (Or.inr (Or.inr (by rw[a4];rfl))),if_neg hno,if_neg a2,if_neg a1,if_neg a3]
  simp only[a4]
  rcases frshF m r with x|e <;> rfl
theorem ins_eq (m:Mk) (w:List Int) (r:List Tk) (ho:m.op=true):insR m w r=tokW m w r:=by
 have hno:¬m.op=false:=by rw[ho];simp
 unfold insR tokW
 rcases hm:mkF w with _|c
 ·simp only
  by_cases h1:w=[59]
  ·rw[if_pos h1];subst h1
   have e:specF m [59] r=some (fnR m r):=by
    unfold specF
    rw[if_neg (by decide),if_pos (Or.inl rfl),if_neg hno,if_pos rfl]
    unfold fnR
    by_cases hq:opnF m.fl=true
    ·rw[if_pos hq,if_pos hq]
    ·rw[if_neg hq,if_neg hq]
   rw[e]
  rw[if_neg h1]
  by_cases h2:w=[58]∨w=[105,110,115,116,97,110,99,101]∨w=[39]
  ·rw[if_pos h2]
   have n1:w=[58]∨w=[39]∨(byF w).isSome=true:=by
    rcases h2 with h|h|h
    ·exact Or.inl h
    ·exact Or.inr (Or.inr (by rw[mk_by,if_pos h];rfl))
    ·exact Or.inr (Or.inl h)
   unfold specF
   rw[if_pos n1,if_pos ho]
  rw[if_neg h2]
  have hby:byF w=none:=by rw[mk_by,if_neg (fun z=>h2 (Or.inr (Or.inl z)))];exact hm
  have n1:¬(w=[58]∨w=[39]∨(byF w).isSome=true):=by
   rw[hby]
   intro z
   rcases z with z|z|z
   ·exact h2 (Or.inl z)
   ·exact h2 (Or.inr (Or.inr z))
   ·cases z
  by_cases h3:w=[101,120,105,116]
  ·rw[if_pos h3];subst h3
   unfold specF
   rw[if_neg n1,if_pos (Or.inr (Or.inl rfl)),if_neg hno,if_neg (by decide),if_pos rfl]
  rw[if_neg h3]
  by_cases h4:w=[91,39,93]
  ·rw[if_pos h4];subst h4
   unfold specF wcR
   rw[if_neg n1,if_pos (Or.inr (Or.inr (Or.inl rfl))),if_neg hno,if_neg (by decide),if_neg (by decide),if_pos rfl]
   rcases nameF r with _|⟨s,l⟩
   ·rfl
   ·simp only
    rcases fndN m.nm s with _|c <;> rfl
  rw[if_neg h4]
  by_cases h5:w=[116,111]
  ·rw[if_pos h5];subst h5
   unfold specF wcR
   rw[if_neg n1,if_neg (by decide),if_pos rfl]
   rcases nameF r with _|⟨s,l⟩
   ·rfl
   ·simp only
    rcases fndN m.nm s with _|c <;> rfl
  rw[if_neg h5]
  by_cases h6:actL w=[]
  ·rw[if_pos h6]
   have n2:¬(w=[59]∨w=[101,120,105,116]∨w=[91,39,93]∨(tabF w).isSome=true):=by
    rw[tab_none h6]
    intro z
    rcases z with z|z|z|z
    ·exact h1 z
    ·exact h3 z
    ·exact h4 z
    ·cases z
   unfold specF
   rw[if_neg n1,if_neg n2,if_neg h5]
  ·rw[if_neg h6]
   obtain ⟨x,hx,e1,e2⟩:=act_find h6
   obtain ⟨l,e3,e4⟩:=act_tab x hx
   rw[e1] at e3 e4
   have n2:w=[59]∨w=[101,120,105,116]∨w=[91,39,93]∨(tabF w).isSome=true:=by rw[e3];simp
   have e:specF m w r=some (acR m (actL w) r):=by
    unfold specF acR
    rw[if_neg n1,if_pos n2,if_neg hno,if_neg h1,if_neg h3,if_neg h4,e3,e2,e4 m]
    have hb:decide (w=[97,103,97,105,110]∨w=[117,110,116,105,108]∨w=[114,101,112,101,97,116])=bkF w:=rfl
    rw[hb,Option.getD_some]
    cases layF (bkF w) l m <;> rfl
   rw[e]
 ·simp only
  obtain ⟨a1,a2,a3,a4,a5⟩:=mk_find hm
  unfold specF
  rw[if_pos (Or.inr (Or.inr (by rw[a4];rfl))),if_pos ho]
open Go.ChangeShapes Go.WideShapes Go.ChangeAt Go.RowKit Go.Maps
theorem rd_lt {w:World} {v:Value} {l:List Int} (h:Rd .i64 w v l) (hl:l≠[]) {k:Nat} (hk:v.ownBlock=some k):k < w.heap.size:=by
 rcases h with ⟨ao,cap,rfl,z1,z2⟩|⟨b,off,cap,rfl,z0,z1,z2,zc⟩
 ·exact absurd z2 hl
 ·have hk:some b=some k:=hk
  injection hk with hk
  subst hk
  have:=zc 0 z0
  unfold World.cell? at this
  simp only at this
  rcases hh:w.heap[b]? with _|o
  ·rw[hh] at this;cases this
  ·exact heap_lt' hh
theorem mk_ok {w:List Int} {c:Int} (h:mkF w=some c):okQ (cdT c) true=true:=by
 have hb:∀x∈mkW,okQ (cdT x.2) true=true:=by decide+kernel
 unfold mkF at h
 rcases hq:mkW.find? (fun x=>decide (x.1=w)) with _|x
 ·rw[hq] at h;cases h
 ·rw[hq] at h
  injection h with h
  subst h
  exact hb x (List.mem_of_find?_eq_some hq)
set_option maxHeartbeats 4000000 in
set_option maxRecDepth 100000 in
theorem fw_outside {base q B:Nat} {w:World} {V:Rv} {x6:Value} {m:Mk} {left:List Tk} {n:Int} (c:CmpM base q B w V x6 m left) (g:MkG m) (r:MkR m n) (hn:n≤16000) (tb:TkB left) (t:List Int) (hb:bytesL t) (hl5:t.length≤5000) (ho:m.op=false):
  Calls Tryz.prog 63 #[.pointer (some ⟨q,0,none⟩), .string (strOfNums t)] w (CmpQ base q B w (outR m t left)):=by
 have cm:=fun w=>fw_maker (strOfNums t) w
 have ca:=fw_acts0 (strOfNums t) w
 have hLS:LB (strOfNums t)=t:=LB_nums t hb
 have co:=fun W V (z:CmpM base q B W V x6 m left)=>fw_other z g r (by omega) t hb hl5 (lit_bd t hb)
 have hs:=hid c.row.hs
 have HC:=hid c
 rw[hLS] at cm ca
 unfold outR
 obtain ⟨S,hS⟩:∃S,strOfNums t=S:=⟨_,rfl⟩
 rw[hS] at cm ca co hLS ⊢
 rcases hm:mkF t with _|cc
 ·rw[hm] at cm
  simp only[Option.isSome_none,Option.getD_none] at cm ⊢
  by_cases h0:t=[58]
  ·rw[if_pos h0]
   have q0:=str_yes (s:=S) (l:=[58]) (by rw[hLS];exact h0)
   have c5:=fw_begin c g r (by omega) tb
   obtain ⟨R,hR⟩:∃R,bgR m left=R:=⟨_,rfl⟩
   rw[hR] at c5 ⊢
   clear c g r co hR ca
   go_enter Tryz.func63,Tryz.ntmps63
   go_wp2_with (first|(go_at_call 85;refine (cm _).mono ?_;rintro e w1 ⟨rfl,hw1⟩;subst hw1)|(go_at_call 92;refine c5.mono ?_;rintro e w5 P5;obtain rfl:=P5.ret)|fail)
   go_ret
   exact P5
  rw[if_neg h0]
  by_cases h1:t=[105,110,115,116,97,110,99,101]
  ·rw[if_pos h1]
   have q0:=str_not (s:=S) (l:=[58]) (by rw[hLS];exact h0)
   have q1:=str_yes (s:=S) (l:=[105,110,115,116,97,110,99,101]) (by rw[hLS];exact h1)
   have c5:=fw_inst c g r (by omega) tb
   obtain ⟨R,hR⟩:∃R,miR m left=R:=⟨_,rfl⟩
   rw[hR] at c5 ⊢
   clear c g r co hR ca
   go_enter Tryz.func63,Tryz.ntmps63
   go_wp2_with (first|(go_at_call 85;refine (cm _).mono ?_;rintro e w1 ⟨rfl,hw1⟩;subst hw1)|(go_at_call 93;refine c5.mono ?_;rintro e w5 P5;obtain rfl:=P5.ret)|fail)
   go_ret
   exact P5
  rw[if_neg h1]
  by_cases h2:t=[39]
  ·rw[if_pos h2]
   have q0:=str_not (s:=S) (l:=[58]) (by rw[hLS];exact h0)
   have q1:=str_not (s:=S) (l:=[105,110,115,116,97,110,99,101]) (by rw[hLS];exact h1)
   have q2:=str_yes (s:=S) (l:=[39]) (by rw[hLS];exact h2)
   have c5:=fw_with c g r (by omega) tb 17 (Or.inl rfl)
   obtain ⟨R,hR⟩:∃R,wcR m 17 left=R:=⟨_,rfl⟩
   rw[hR] at c5 ⊢
   clear c g r co hR ca
   go_enter Tryz.func63,Tryz.ntmps63
   go_wp2_with (first|(go_at_call 85;refine (cm _).mono ?_;rintro e w1 ⟨rfl,hw1⟩;subst hw1)|(go_at_call 87;refine c5.mono ?_;rintro e w5 P5;obtain rfl:=P5.ret)|fail)
   go_ret
   exact P5
  rw[if_neg h2]
  by_cases h3:t=[116,111]
  ·rw[if_pos h3]
   have q0:=str_not (s:=S) (l:=[58]) (by rw[hLS];exact h0)
   have q1:=str_not (s:=S) (l:=[105,110,115,116,97,110,99,101]) (by rw[hLS];exact h1)
   have q2:=str_not (s:=S) (l:=[39]) (by rw[hLS];exact h2)
   have q3:=str_yes (s:=S) (l:=[116,111]) (by rw[hLS];exact h3)
   have c5:=fw_with c g r (by omega) tb 195 (Or.inr rfl)
   obtain ⟨R,hR⟩:∃R,wcR m 195 left=R:=⟨_,rfl⟩
   rw[hR] at c5 ⊢
   clear c g r co hR ca
   go_enter Tryz.func63,Tryz.ntmps63
   go_wp2_with (first|(go_at_call 85;refine (cm _).mono ?_;rintro e w1 ⟨rfl,hw1⟩;subst hw1)|(go_at_call 87;refine c5.mono ?_;rintro e w5 P5;obtain rfl:=P5.ret)|fail)
   go_ret
   exact P5
  rw[if_neg h3]
  by_cases h4:t=[59]∨t=[101,120,105,116]∨t=[91,39,93]
  ·rw[if_pos h4]
   rcases h4 with z|z|z
   ·have q0:=str_not (s:=S) (l:=[58]) (by rw[hLS];exact h0)
    have q1:=str_not (s:=S) (l:=[105,110,115,116,97,110,99,101]) (by rw[hLS];exact h1)
    have q2:=str_not (s:=S) (l:=[39]) (by rw[hLS];exact h2)
    have q3:=str_not (s:=S) (l:=[116,111]) (by rw[hLS];exact h3)
    have p0:=str_yes (s:=S) (l:=[59]) (by rw[hLS,z];rfl)
    clear c g r co ca
    go_enter Tryz.func63,Tryz.ntmps63
    go_wp2_with (first|(go_at_call 85;refine (cm _).mono ?_;rintro e w1 ⟨rfl,hw1⟩;subst hw1)|fail)
    go_ret
    exact ⟨Below.refl _ _,rfl⟩
   ·have q0:=str_not (s:=S) (l:=[58]) (by rw[hLS];exact h0)
    have q1:=str_not (s:=S) (l:=[105,110,115,116,97,110,99,101]) (by rw[hLS];exact h1)
    have q2:=str_not (s:=S) (l:=[39]) (by rw[hLS];exact h2)
    have q3:=str_not (s:=S) (l:=[116,111]) (by rw[hLS];exact h3)
    have p0:=str_not (s:=S) (l:=[59]) (by rw[hLS,z];decide)
    have p1:=str_yes (s:=S) (l:=[101,120,105,116]) (by rw[hLS,z];rfl)
    clear c g r co ca
    go_enter Tryz.func63,Tryz.ntmps63
    go_wp2_with (first|(go_at_call 85;refine (cm _).mono ?_;rintro e w1 ⟨rfl,hw1⟩;subst hw1)|fail)
    go_ret
    exact ⟨Below.refl _ _,rfl⟩
   ·have q0:=str_not (s:=S) (l:=[58]) (by rw[hLS];exact h0)
    have q1:=str_not (s:=S) (l:=[105,110,115,116,97,110,99,101]) (by rw[hLS];exact h1)
    have q2:=str_not (s:=S) (l:=[39]) (by rw[hLS];exact h2)
    have q3:=str_not (s:=S) (l:=[116,111]) (by rw[hLS];exact h3)
    have p0:=str_not (s:=S) (l:=[59]) (by rw[hLS,z];decide)
    have p1:=str_not (s:=S) (l:=[101,120,105,116]) (by rw[hLS,z];decide)
    have p2:=str_yes (s:=S) (l:=[91,39,93]) (by rw[hLS,z];rfl)
    clear c g r co ca
    go_enter Tryz.func63,Tryz.ntmps63
    go_wp2_with (first|(go_at_call 85;refine (cm _).mono ?_;rintro e w1 ⟨rfl,hw1⟩;subst hw1)|fail)
    go_ret
    exact ⟨Below.refl _ _,rfl⟩
  rw[if_neg h4]
  by_cases h5:actL t=[]
  ·rw[if_pos h5]
   have q0:=str_not (s:=S) (l:=[58]) (by rw[hLS];exact h0)
   have q1:=str_not (s:=S) (l:=[105,110,115,116,97,110,99,101]) (by rw[hLS];exact h1)
   have q2:=str_not (s:=S) (l:=[39]) (by rw[hLS];exact h2)
   have q3:=str_not (s:=S) (l:=[116,111]) (by rw[hLS];exact h3)
   have q4:=str_not (s:=S) (l:=[59]) (by rw[hLS];exact (fun z=>h4 (Or.inl z)))
   have q5:=str_not (s:=S) (l:=[101,120,105,116]) (by rw[hLS];exact (fun z=>h4 (Or.inr (Or.inl z))))
   have q6:=str_not (s:=S) (l:=[91,39,93]) (by rw[hLS];exact (fun z=>h4 (Or.inr (Or.inr z))))
   rw[h5] at ca
   obtain ⟨R,hR⟩:∃R,otR m t left=R:=⟨_,rfl⟩
   rw[hR] at co ⊢
   clear c g r hR
   go_enter Tryz.func63,Tryz.ntmps63
   go_wp2_with (first|(go_at_call 85;refine (cm _).mono ?_;rintro e w1 ⟨rfl,hw1⟩;subst hw1)|(go_at_call 88;refine ca.mono ?_;rintro e w1 ⟨va,rfl,rda,nva,ba⟩;have hla:=rd_len rda uJf (P:=Tryz.prog);simp only[List.length_nil] at hla;have c5:=co w1 V (HC.out.below ba))|(go_at_call 90;refine c5.mono ?_;rintro e w5 P5;obtain rfl:=P5.ret)|fail)
   go_ret
   exact ⟨btr (ba.mono hs.out) P5.1,P5.2⟩
  ·rw[if_neg h5]
   have q0:=str_not (s:=S) (l:=[58]) (by rw[hLS];exact h0)
   have q1:=str_not (s:=S) (l:=[105,110,115,116,97,110,99,101]) (by rw[hLS];exact h1)
   have q2:=str_not (s:=S) (l:=[39]) (by rw[hLS];exact h2)
   have q3:=str_not (s:=S) (l:=[116,111]) (by rw[hLS];exact h3)
   have q4:=str_not (s:=S) (l:=[59]) (by rw[hLS];exact (fun z=>h4 (Or.inl z)))
   have q5:=str_not (s:=S) (l:=[101,120,105,116]) (by rw[hLS];exact (fun z=>h4 (Or.inr (Or.inl z))))
   have q6:=str_not (s:=S) (l:=[91,39,93]) (by rw[hLS];exact (fun z=>h4 (Or.inr (Or.inr z))))
   have hp:0 < (actL t).length:=List.length_pos_iff.2 h5
   obtain ⟨N,hN⟩:∃N:Int,((actL t).length:Int)=N:=⟨_,rfl⟩
   have hq:decide (0 < N)=true:=decide_eq_true (by omega)
   clear c g r co
   go_enter Tryz.func63,Tryz.ntmps63
   go_wp2_with (first|(go_at_call 85;refine (cm _).mono ?_;rintro e w1 ⟨rfl,hw1⟩;subst hw1)|(go_at_call 88;refine ca.mono ?_;rintro e w1 ⟨va,rfl,rda,nva,ba⟩;have hla:=rd_len rda uJf (P:=Tryz.prog);rw[hN] at hla)|fail)
   go_ret
   exact ⟨ba.mono hs.out,rfl⟩
 ·rw[hm] at cm
  simp only[Option.isSome_some,Option.getD_some] at cm ⊢
  have c5:=fw_make c g r (by omega) tb cc (mk_ok hm)
  obtain ⟨R,hR⟩:∃R,mwR m cc left=R:=⟨_,rfl⟩
  rw[hR] at c5 ⊢
  clear c g r co hR ca
  go_enter Tryz.func63,Tryz.ntmps63
  go_wp2_with (first|(go_at_call 85;refine (cm _).mono ?_;rintro e w1 ⟨rfl,hw1⟩;subst hw1)|(go_at_call 91;refine c5.mono ?_;rintro e w5 P5;obtain rfl:=P5.ret)|fail)
  go_ret
  exact P5
set_option maxHeartbeats 4000000 in
set_option maxRecDepth 100000 in
theorem fw_inside {base q B:Nat} {w:World} {V:Rv} {x6:Value} {m:Mk} {left:List Tk} {n:Int} (c:CmpM base q B w V x6 m left) (g:MkG m) (r:MkR m n) (hn:n≤16000) (tb:TkB left) (t:List Int) (hb:bytesL t) (hl5:t.length≤5000) (ho:m.op=true):
  Calls Tryz.prog 62 #[.pointer (some ⟨q,0,none⟩), .string (strOfNums t)] w (CmpQ base q B w (insR m t left)):=by
 have cm:=fun w=>fw_maker (strOfNums t) w
 have ca:=fw_acts0 (strOfNums t) w
 have hLS:LB (strOfNums t)=t:=LB_nums t hb
 have co:=fun W V (z:CmpM base q B W V x6 m left)=>fw_other z g r (by omega) t hb hl5 (lit_bd t hb)
 have hs:=hid c.row.hs
 have HC:=hid c
 rw[hLS] at cm ca
 unfold insR
 obtain ⟨S,hS⟩:∃S,strOfNums t=S:=⟨_,rfl⟩
 rw[hS] at cm ca co hLS ⊢
 rcases hm:mkF t with _|cc
 ·rw[hm] at cm
  simp only[Option.isSome_none,Option.getD_none] at cm ⊢
  by_cases h0:t=[59]
  ·rw[if_pos h0]
   have q0:=str_yes (s:=S) (l:=[59]) (by rw[hLS];exact h0)
   have c5:=fw_finish (left:=left) c g r (by omega) ho
   obtain ⟨R,hR⟩:∃R,fnR m left=R:=⟨_,rfl⟩
   rw[hR] at c5 ⊢
   clear c g r co hR ca
   go_enter Tryz.func62,Tryz.ntmps62
   go_wp2_with (first|(go_at_call 85;refine (cm _).mono ?_;rintro e w1 ⟨rfl,hw1⟩;subst hw1)|(go_at_call 86;refine c5.mono ?_;rintro e w5 P5;obtain rfl:=P5.ret)|fail)
   go_ret
   exact P5
  rw[if_neg h0]
  by_cases h1:t=[58]∨t=[105,110,115,116,97,110,99,101]∨t=[39]
  ·rw[if_pos h1]
   rcases h1 with z|z|z
   ·have q0:=str_not (s:=S) (l:=[59]) (by rw[hLS];exact h0)
    have p0:=str_yes (s:=S) (l:=[58]) (by rw[hLS,z];rfl)
    clear c g r co ca
    go_enter Tryz.func62,Tryz.ntmps62
    go_wp2_with (first|(go_at_call 85;refine (cm _).mono ?_;rintro e w1 ⟨rfl,hw1⟩;subst hw1)|fail)
    go_ret
    exact ⟨Below.refl _ _,rfl⟩
   ·have q0:=str_not (s:=S) (l:=[59]) (by rw[hLS];exact h0)
    have p0:=str_not (s:=S) (l:=[58]) (by rw[hLS,z];decide)
    have p1:=str_yes (s:=S) (l:=[105,110,115,116,97,110,99,101]) (by rw[hLS,z];rfl)
    clear c g r co ca
    go_enter Tryz.func62,Tryz.ntmps62
    go_wp2_with (first|(go_at_call 85;refine (cm _).mono ?_;rintro e w1 ⟨rfl,hw1⟩;subst hw1)|fail)
    go_ret
    exact ⟨Below.refl _ _,rfl⟩
   ·have q0:=str_not (s:=S) (l:=[59]) (by rw[hLS];exact h0)
    have p0:=str_not (s:=S) (l:=[58]) (by rw[hLS,z];decide)
    have p1:=str_not (s:=S) (l:=[105,110,115,116,97,110,99,101]) (by rw[hLS,z];decide)
    have p2:=str_yes (s:=S) (l:=[39]) (by rw[hLS,z];rfl)
    clear c g r co ca
    go_enter Tryz.func62,Tryz.ntmps62
    go_wp2_with (first|(go_at_call 85;refine (cm _).mono ?_;rintro e w1 ⟨rfl,hw1⟩;subst hw1)|fail)
    go_ret
    exact ⟨Below.refl _ _,rfl⟩
  rw[if_neg h1]
  by_cases h2:t=[101,120,105,116]
  ·rw[if_pos h2]
   have q0:=str_not (s:=S) (l:=[59]) (by rw[hLS];exact h0)
   have q1:=str_not (s:=S) (l:=[58]) (by rw[hLS];exact (fun z=>h1 (Or.inl z)))
   have q2:=str_not (s:=S) (l:=[105,110,115,116,97,110,99,101]) (by rw[hLS];exact (fun z=>h1 (Or.inr (Or.inl z))))
   have q3:=str_not (s:=S) (l:=[39]) (by rw[hLS];exact (fun z=>h1 (Or.inr (Or.inr z))))
   have q4:=str_yes (s:=S) (l:=[101,120,105,116]) (by rw[hLS];exact h2)
   have c5:=cm_codes c g.fl r (by omega) 51 (by decide+kernel)
   clear c g r co ca
   go_enter Tryz.func62,Tryz.ntmps62
   go_wp2_with (first|(go_at_call 85;refine (cm _).mono ?_;rintro e w1 ⟨rfl,hw1⟩;subst hw1)|(go_at_call 37;refine c5.mono ?_;rintro e w5 ⟨rfl,V5,d5,b5⟩)|fail)
   go_ret
   exact ⟨b5,rfl,_,_,d5⟩
  rw[if_neg h2]
  by_cases h3:t=[91,39,93]
  ·rw[if_pos h3]
   have q0:=str_not (s:=S) (l:=[59]) (by rw[hLS];exact h0)
   have q1:=str_not (s:=S) (l:=[58]) (by rw[hLS];exact (fun z=>h1 (Or.inl z)))
   have q2:=str_not (s:=S) (l:=[105,110,115,116,97,110,99,101]) (by rw[hLS];exact (fun z=>h1 (Or.inr (Or.inl z))))
   have q3:=str_not (s:=S) (l:=[39]) (by rw[hLS];exact (fun z=>h1 (Or.inr (Or.inr z))))
   have q4:=str_not (s:=S) (l:=[101,120,105,116]) (by rw[hLS];exact h2)
   have q5:=str_yes (s:=S) (l:=[91,39,93]) (by rw[hLS];exact h3)
   have c5:=fw_with c g r (by omega) tb 17 (Or.inl rfl)
   obtain ⟨R,hR⟩:∃R,wcR m 17 left=R:=⟨_,rfl⟩
   rw[hR] at c5 ⊢
   clear c g r co hR ca
   go_enter Tryz.func62,Tryz.ntmps62
   go_wp2_with (first|(go_at_call 85;refine (cm _).mono ?_;rintro e w1 ⟨rfl,hw1⟩;subst hw1)|(go_at_call 87;refine c5.mono ?_;rintro e w5 P5;obtain rfl:=P5.ret)|fail)
   go_ret
   exact P5
  rw[if_neg h3]
  by_cases h4:t=[116,111]
  ·rw[if_pos h4]
   have q0:=str_not (s:=S) (l:=[59]) (by rw[hLS];exact h0)
   have q1:=str_not (s:=S) (l:=[58]) (by rw[hLS];exact (fun z=>h1 (Or.inl z)))
   have q2:=str_not (s:=S) (l:=[105,110,115,116,97,110,99,101]) (by rw[hLS];exact (fun z=>h1 (Or.inr (Or.inl z))))
   have q3:=str_not (s:=S) (l:=[39]) (by rw[hLS];exact (fun z=>h1 (Or.inr (Or.inr z))))
   have q4:=str_not (s:=S) (l:=[101,120,105,116]) (by rw[hLS];exact h2)
   have q5:=str_not (s:=S) (l:=[91,39,93]) (by rw[hLS];exact h3)
   have q6:=str_yes (s:=S) (l:=[116,111]) (by rw[hLS];exact h4)
   have c5:=fw_with c g r (by omega) tb 195 (Or.inr rfl)
   obtain ⟨R,hR⟩:∃R,wcR m 195 left=R:=⟨_,rfl⟩
   rw[hR] at c5 ⊢
   clear c g r co hR ca
   go_enter Tryz.func62,Tryz.ntmps62
   go_wp2_with (first|(go_at_call 85;refine (cm _).mono ?_;rintro e w1 ⟨rfl,hw1⟩;subst hw1)|(go_at_call 87;refine c5.mono ?_;rintro e w5 P5;obtain rfl:=P5.ret)|fail)
   go_ret
   exact P5
  rw[if_neg h4]
  by_cases h5:actL t=[]
  ·rw[if_pos h5]
   have q0:=str_not (s:=S) (l:=[59]) (by rw[hLS];exact h0)
   have q1:=str_not (s:=S) (l:=[58]) (by rw[hLS];exact (fun z=>h1 (Or.inl z)))
   have q2:=str_not (s:=S) (l:=[105,110,115,116,97,110,99,101]) (by rw[hLS];exact (fun z=>h1 (Or.inr (Or.inl z))))
   have q3:=str_not (s:=S) (l:=[39]) (by rw[hLS];exact (fun z=>h1 (Or.inr (Or.inr z))))
   have q4:=str_not (s:=S) (l:=[101,120,105,116]) (by rw[hLS];exact h2)
   have q5:=str_not (s:=S) (l:=[91,39,93]) (by rw[hLS];exact h3)
   have q6:=str_not (s:=S) (l:=[116,111]) (by rw[hLS];exact h4)
   rw[h5] at ca
   obtain ⟨R,hR⟩:∃R,otR m t left=R:=⟨_,rfl⟩
   rw[hR] at co ⊢
   clear c g r hR
   go_enter Tryz.func62,Tryz.ntmps62
   go_wp2_with (first|(go_at_call 85;refine (cm _).mono ?_;rintro e w1 ⟨rfl,hw1⟩;subst hw1)|(go_at_call 88;refine ca.mono ?_;rintro e w1 ⟨va,rfl,rda,nva,ba⟩;have hla:=rd_len rda uJf (P:=Tryz.prog);simp only[List.length_nil] at hla;have c5:=co w1 V (HC.out.below ba))|(go_at_call 90;refine c5.mono ?_;rintro e w5 P5;obtain rfl:=P5.ret)|fail)
   go_ret
   exact ⟨btr (ba.mono hs.out) P5.1,P5.2⟩
  ·rw[if_neg h5]
   have q0:=str_not (s:=S) (l:=[59]) (by rw[hLS];exact h0)
   have q1:=str_not (s:=S) (l:=[58]) (by rw[hLS];exact (fun z=>h1 (Or.inl z)))
   have q2:=str_not (s:=S) (l:=[105,110,115,116,97,110,99,101]) (by rw[hLS];exact (fun z=>h1 (Or.inr (Or.inl z))))
   have q3:=str_not (s:=S) (l:=[39]) (by rw[hLS];exact (fun z=>h1 (Or.inr (Or.inr z))))
   have q4:=str_not (s:=S) (l:=[101,120,105,116]) (by rw[hLS];exact h2)
   have q5:=str_not (s:=S) (l:=[91,39,93]) (by rw[hLS];exact h3)
   have q6:=str_not (s:=S) (l:=[116,111]) (by rw[hLS];exact h4)
   have hp:0 < (actL t).length:=List.length_pos_iff.2 h5
   obtain ⟨x,hx,e1,e2⟩:=act_find h5
   have hsp:=act_sp x hx
   rw[←e2] at hsp
   have hl2:=hsp.2.2.2.2.2.2.2.1
   have ha2:=hsp.2.2.2.2.2.2.2.2
   obtain ⟨N,hN⟩:∃N:Int,((actL t).length:Int)=N:=⟨_,rfl⟩
   have hq:decide (0 < N)=true:=decide_eq_true (by omega)
   obtain ⟨R,hR⟩:∃R,acR m (actL t) left=R:=⟨_,rfl⟩
   rw[hR]
   have G:=hid g
   have RR:=hid r
   have HA:=hid ha2
   have HR:=hid hR
   clear c g r co hsp e1 e2 hx hR ha2
   go_enter Tryz.func62,Tryz.ntmps62
   go_wp2_with (first|(go_at_call 85;refine (cm _).mono ?_;rintro e w1 ⟨rfl,hw1⟩;subst hw1)|(go_at_call 88;refine ca.mono ?_;rintro e w1 ⟨va,rfl,rda,nva,ba⟩;have hla:=rd_len rda uJf (P:=Tryz.prog);rw[hN] at hla;have c1:=HC.out.below ba;have c5:=fw_actsL c1 G.out RR.out (by omega) ho va (actL t) rda (fun k hk=>⟨HC.out.row.new (nva k hk),rd_lt rda h5 hk⟩) hl2 HA.out;rw[HR.out] at c5)|(go_at_call 89;refine c5.mono ?_;rintro e w5 P5;obtain rfl:=P5.ret)|fail)
   go_ret
   exact ⟨btr (ba.mono hs.out) P5.1,P5.2⟩
 ·rw[hm] at cm
  simp only[Option.isSome_some,Option.getD_some] at cm ⊢
  clear c g r co ca
  go_enter Tryz.func62,Tryz.ntmps62
  go_wp2_with (first|(go_at_call 85;refine (cm _).mono ?_;rintro e w1 ⟨rfl,hw1⟩;subst hw1)|fail)
  go_ret
  exact ⟨Below.refl _ _,rfl⟩
theorem MkR.nma {m:Mk} {n:Int} (h:MkR m n) {t:List Int} {k:Int} (hb:bytesL t) (hl:m.nm.length+1≤m.out.length):MkR {m with nm:=m.nm++[(t,k)]} n:=
 ⟨h.lf,by show (m.nm++[(t,k)]).length≤m.out.length;simp;omega,h.ok,h.sz,h.nx,h.na,fun x hx=>by
  rcases List.mem_append.1 hx with z|z
  ·exact h.nb x z
  ·rw[List.mem_singleton] at z;subst z;exact hb⟩
def TkC (l:List Tk):Prop:=∀x∈l,bytesL x.2.1∧x.2.1.length≤5000∧(¬x.1=1→x.2.1.length≤255)∧(x.1=1→1≤x.2.1.length)
theorem TkC.tb {l:List Tk} (h:TkC l):TkB l:=fun x hx=>⟨(h x hx).1,(h x hx).2.1⟩
theorem TkC.tail {x:Tk} {l:List Tk} (h:TkC (x::l)):TkC l:=fun y hy=>h y (List.mem_cons_of_mem _ hy)
structure Stp (m:Mk) (n:Int) (W:Nat) (r:List Tk) (R:(Mk×List Tk) ⊕ Int):Prop where
 ok:∀m' q,R= .inl (m',q)→MkR m' (n+3*((W:Int) - wt q))∧q.length≤r.length∧TkC q∧wt q≤W
 er:∀E,R= .inr E→¬E=0
theorem Stp.err {m:Mk} {n:Int} {W:Nat} {r:List Tk} {e:Int} (he:¬e=0):Stp m n W r (.inr e) where
 ok:=fun _ _ h=>by cases h
 er:=fun E h=>by
  injection h with h
  rw[←h]
  exact he
theorem frsh_err {m:Mk} {l:List Tk} {e:Int} (h:frshF m l= .inr e):¬e=0:=by
 unfold frshF at h
 split at h
 ·injection h with h;omega
 ·split at h
  ·injection h with h;omega
  ·split at h
   ·injection h with h;omega
   ·cases h
theorem stp_frsh {m m':Mk} {n:Int} (r:MkR m n) (g:MkG m) {left l:List Tk} {t:List Int} {k:Int} (tb:TkC left) (e:frshF m left= .inl (m',t,k,l)):
  (bytesL t∧t.length≤31)∧MkR (addT m' 182 k t) (n+(t.length+4))∧m'.nm=m.nm∧(addT m' 182 k t).out.length=m.out.length+1∧wt left=t.length+1+wt l∧l.length≤left.length∧TkC l:=by
 obtain ⟨⟨hb,hl⟩,rfl,rfl,⟨k0,k1⟩,_,⟨p,hp⟩,r2⟩:=frsh_R r tb.tb g e
 obtain ⟨o1,o2⟩:=ok_name (c:=m.nx) (t:=t) hl k0 k1
 refine ⟨⟨hb,hl⟩,r2.add 182 m.nx t _ o1 ⟨by show 0≤m.nx;omega,by show m.nx < 4294967296;omega,hb⟩ (by rw[o2];exact Int.le_refl _),rfl,by unfold addT;simp,by rw[hp];rfl,by rw[hp];simp,by rw[hp] at tb;exact tb.tail⟩
theorem stp_mw {m:Mk} {n:Int} (r:MkR m n) (g:MkG m) {left:List Tk} (tb:TkC left) {k:Int} (ok:okQ (cdT k) true=true) (hb0:bhF k=0) {W:Nat} (hW:wt left+1≤W):Stp m n W left (mwR m k left):=by
 unfold mwR
 rcases hf:frshF m left with x|e
 ·refine ⟨fun m' q h=> ?_,fun E h=>by cases h⟩
  obtain ⟨m1,t,kc,l⟩:=x
  injection h with h
  injection h with h1 h2
  have h2:l=q:=h2
  subst h2
  simp only at h1
  obtain ⟨⟨hb,hl⟩,r1,e1,e2,e3,e4,e5⟩:=stp_frsh r g tb hf
  have r2:=r1.code k ok hb0
  have hn:=r.nml
  have r3:=r2.nma (t:=t) (k:=kc) hb (by show m1.nm.length+1≤(addT (addT m1 182 kc t) k 0 []).out.length;rw[e1];unfold addT at e2 ⊢;simp at e2 ⊢;omega)
  rw[←h1]
  refine ⟨?_,e4,e5,by omega⟩
  exact r3.le (by omega)
 ·exact Stp.err (frsh_err hf)
theorem stp_wc {m:Mk} {n:Int} (r:MkR m n) (g:MkG m) {left:List Tk} (tb:TkC left) {k:Int} (hk:k=17∨k=195) {W:Nat} (hW:wt left+1≤W):Stp m n W left (wcR m k left):=by
 unfold wcR
 rcases hnm:nameF left with _|⟨s,l⟩
 ·exact Stp.err (by decide)
 ·simp only
  rcases hf:fndN m.nm s with _|c
  ·exact Stp.err (by decide)
  ·refine ⟨fun m' q h=> ?_,fun E h=>by cases h⟩
   injection h with h
   injection h with h1 h2
   subst h1 h2
   obtain ⟨p,hp⟩:=name_mem hnm
   obtain ⟨o1,o2,o3,o4,o5⟩:=fnd_code (g.codes r) hf
   obtain ⟨q1,q2⟩:=ok_17 (c:=c) hk o2
   have hw:wt left=s.length+1+wt l:=by rw[hp];rfl
   refine ⟨(r.add k c [] 3 q1 ⟨o3,by show c < 4294967296;omega,fun x hx=>by cases hx⟩ q2).le (by omega),by rw[hp];simp,by rw[hp] at tb;exact tb.tail,by omega⟩
theorem stp_bg {m:Mk} {n:Int} (r:MkR m n) (g:MkG m) {left:List Tk} (tb:TkC left) {W:Nat} (hW:wt left+1≤W):Stp m n W left (bgR m left):=by
 unfold bgR
 rcases hf:frshF m left with x|e
 ·refine ⟨fun m' q h=> ?_,fun E h=>by cases h⟩
  obtain ⟨m1,t,kc,l⟩:=x
  injection h with h
  injection h with h1 h2
  have h2:l=q:=h2
  subst h2
  simp only at h1
  obtain ⟨⟨hb,hl⟩,r1,e1,e2,e3,e4,e5⟩:=stp_frsh r g tb hf
  have r2:=r1.code 183 (by decide+kernel) (by decide+kernel)
  rw[←h1]
  exact ⟨MkR.le ⟨r2.lf,r2.nml,r2.ok,r2.sz,r2.nx,⟨hb,hl⟩,r2.nb⟩ (by omega),e4,e5,by omega⟩
 ·exact Stp.err (frsh_err hf)
theorem stp_mi {m:Mk} {n:Int} (r:MkR m n) (g:MkG m) {left:List Tk} (tb:TkC left) {W:Nat} (hW:wt left+1≤W):Stp m n W left (miR m left):=by
 unfold miR
 rcases hnm:nameF left with _|⟨s,l⟩
 ·exact Stp.err (by decide)
 ·simp only
  obtain ⟨p,hp⟩:=name_mem hnm
  have hw:wt left=s.length+1+wt l:=by rw[hp];rfl
  by_cases hs:s=[118,97,108,117,101]
  ·rw[if_pos hs]
   have h0:=g.hx
   have g1:MkG (addT m 192 0 []):=g.add 192 0 [] (by decide+kernel) (fun q=>absurd q (by decide)) (by decide) (by omega)
   have r1:=r.code 192 (by decide+kernel) (by decide+kernel)
   have tb2:TkC l:=by rw[hp] at tb;exact tb.tail
   have hsl:s.length=5:=by rw[hs];rfl
   have S:=stp_mw r1 g1 tb2 (k:=184) (by decide+kernel) (by decide+kernel) (W:=wt l+1) (Nat.le_refl _)
   refine ⟨fun m' q h=> ?_,S.er⟩
   obtain ⟨a1,a2,a3,a4⟩:=S.ok m' q h
   refine ⟨a1.le (by push_cast;omega),Nat.le_trans a2 (by rw[hp];simp),a3,by omega⟩
  ·rw[if_neg hs]
   exact Stp.err (by decide)
theorem stp_fn {m:Mk} {n:Int} (r:MkR m n) {left:List Tk} (tb:TkC left) {W:Nat} (hW:wt left+1≤W):Stp m n W left (fnR m left):=by
 unfold fnR
 by_cases h:opnF m.fl=true
 ·rw[if_pos h];exact Stp.err (by decide)
 ·rw[if_neg h]
  refine ⟨fun m' q h=> ?_,fun E h=>by cases h⟩
  injection h with h
  injection h with h1 h2
  subst h1 h2
  have r2:=r.code 194 (by decide+kernel) (by decide+kernel)
  have hn:=r.nml
  have r3:=r2.nma (t:=m.na) (k:=m.co) r.na.1 (by show m.nm.length+1≤(addT m 194 0 []).out.length;unfold addT;simp;omega)
  exact ⟨MkR.le ⟨r3.lf,r3.nml,r3.ok,r3.sz,r3.nx,r3.na,r3.nb⟩ (by omega),Nat.le_refl _,tb,by omega⟩
theorem stp_ac {m:Mk} {n:Int} (r:MkR m n) {left:List Tk} (tb:TkC left) {w:List Int} (hw:actL w≠[]) {W:Nat} (hW:wt left+2≤W):Stp m n W left (acR m (actL w) left):=by
 obtain ⟨x,hx,e1,e2⟩:=act_find hw
 obtain ⟨l,e3,e4⟩:=act_tab x hx
 unfold acR
 rw[e2,e4 m]
 rcases hl:layF (bkF x.1) l m with _|m'
 ·exact Stp.err (by decide)
 ·refine ⟨fun m2 q h=> ?_,fun E h=>by cases h⟩
  injection h with h
  injection h with h1 h2
  subst h1 h2
  have hll:l.length≤2:=by
   have:∀y∈tabW,y.2.length≤2:=by decide+kernel
   unfold tabF at e3
   rcases hq:tabW.find? (fun z=>decide (z.1=x.1)) with _|y
   ·rw[hq] at e3;cases e3
   ·rw[hq] at e3
    injection e3 with e3
    subst e3
    exact this y (List.mem_of_find?_eq_some hq)
  exact ⟨(MkR.lay _ l (tabF_ok e3) r hl).le (by omega),Nat.le_refl _,tb,by omega⟩
theorem stp_ot {m:Mk} {n:Int} (r:MkR m n) (g:MkG m) {left:List Tk} (tb:TkC left) {w:List Int} (hb:bytesL w) {W:Nat} (hW:wt left+2≤W):Stp m n W left (otR m w left):=by
 unfold otR
 rcases hf:fndN m.nm w with _|c
 ·simp only
  by_cases hl:(lit w).2=true
  ·rw[if_pos hl]
   refine ⟨fun m' q h=> ?_,fun E h=>by cases h⟩
   injection h with h
   injection h with h1 h2
   subst h1 h2
   have hb2:=lit_bd w hb
   obtain ⟨o1,o2⟩:=ok_num (v:=(lit w).1)
   exact ⟨(r.add 16 (lit w).1 [] 5 o1 ⟨hb2.1,hb2.2,fun x hx=>by cases hx⟩ (by rw[o2];exact Int.le_refl _)).le (by omega),Nat.le_refl _,tb,by omega⟩
  ·rw[if_neg hl];exact Stp.err (by decide)
 ·refine ⟨fun m' q h=> ?_,fun E h=>by cases h⟩
  injection h with h
  injection h with h1 h2
  subst h1 h2
  obtain ⟨o1,o2,o3,o4,o5⟩:=fnd_code (g.codes r) hf
  exact ⟨(r.code c o1 o5).le (by omega),Nat.le_refl _,tb,by omega⟩
theorem stp_tok {m:Mk} {n:Int} (r:MkR m n) (g:MkG m) {x:Tk} {left:List Tk} (tb:TkC (x::left)):Stp m n (wt (x::left)) left (tok1F lit m x left):=by
 obtain ⟨k,w,p⟩:=x
 have tl:=tb.tail
 obtain ⟨hb,hl5,h255,h1⟩:=tb (k,w,p) List.mem_cons_self
 simp only at hb hl5 h255 h1
 have hW:wt ((k,w,p)::left)=w.length+1+wt left:=rfl
 by_cases hk:k=1
 ·subst hk
  have hp:=h1 rfl
  rw[tok_word]
  cases ho:m.op
  ·rw[←out_eq m w left ho]
   unfold outR
   rcases hm:mkF w with _|c
   ·simp only
    split
    ·exact stp_bg r g tl (by omega)
    ·split
     ·exact stp_mi r g tl (by omega)
     ·split
      ·exact stp_wc r g tl (Or.inl rfl) (by omega)
      ·split
       ·exact stp_wc r g tl (Or.inr rfl) (by omega)
       ·split
        ·exact Stp.err (by decide)
        ·split
         ·exact stp_ot r g tl hb (by omega)
         ·exact Stp.err (by decide)
   ·have hbk:∀y∈mkW,okQ (cdT y.2) true=true∧bhF y.2=0:=by decide+kernel
    simp only
    unfold mkF at hm
    rcases hq:mkW.find? (fun y=>decide (y.1=w)) with _|y
    ·rw[hq] at hm;cases hm
    ·rw[hq] at hm
     injection hm with hm
     subst hm
     obtain ⟨z1,z2⟩:=hbk y (List.mem_of_find?_eq_some hq)
     exact stp_mw r g tl z1 z2 (by omega)
  ·rw[←ins_eq m w left ho]
   unfold insR
   rcases hm:mkF w with _|c
   ·simp only
    split
    ·exact stp_fn r tl (by omega)
    ·split
     ·exact Stp.err (by decide)
     ·split
      ·refine ⟨fun m' q h=> ?_,fun E h=>by cases h⟩
       injection h with h
       injection h with h1 h2
       subst h1 h2
       exact ⟨(r.code 51 (by decide+kernel) (by decide+kernel)).le (by omega),Nat.le_refl _,tl,by omega⟩
      ·split
       ·exact stp_wc r g tl (Or.inl rfl) (by omega)
       ·split
        ·exact stp_wc r g tl (Or.inr rfl) (by omega)
        ·split
         ·exact stp_ot r g tl hb (by omega)
         ·rename_i h6
          exact stp_ac r tl h6 (by omega)
   ·exact Stp.err (by decide)
 ·have e:tok1F lit m (k,w,p) left= .inl (txM m k w,left):=by unfold tok1F txM;rw[if_pos hk]
  rw[e]
  have hl:=h255 hk
  obtain ⟨o1,o2⟩:=ok_text hl
  refine ⟨fun m' q h=> ?_,fun E h=>by cases h⟩
  injection h with h
  injection h with h1 h2
  subst h1 h2
  have r1:=r.add 18 0 w (w.length+2) o1 ⟨by show (0:Int)≤0;decide,by show (0:Int) < 4294967296;decide,hb⟩ (by rw[o2];exact Int.le_refl _)
  refine ⟨?_,Nat.le_refl _,tl,by omega⟩
  unfold txM
  split
  ·have s1:szT (cdT 144)=1:=by decide+kernel
   exact (r1.add 144 0 [] 1 (by decide+kernel) (gQ_cd 144) (by have:szT ⟨144,0,[],0⟩=1:=s1;omega)).le (by omega)
  ·exact r1.le (by omega)
theorem mak_cons (L:List Int→Int×Bool) (n:Nat) (m:Mk) (x:Tk) (r:List Tk):makG L (n+1) m (x::r)=(match tok1F L m x r with
  | .inr e=> .inr e
  | .inl y=>makG L n y.1 y.2):=by
 rw[makG]
 rcases tok1F L m x r with ⟨_,_⟩|_ <;> rfl
theorem mak_fuel:∀(k:Nat) (m:Mk) (l:List Tk) (n:Int) (a b:Nat),MkG m→MkR m n→TkC l→l.length≤k→l.length≤a→l.length≤b→makG lit a m l=makG lit b m l
 |k,m,[],n,a,b,_,_,_,_,_,_=>by cases a <;> cases b <;> rfl
 |0,m,x::r,n,a,b,_,_,_,h,_,_=>by simp at h
 |k+1,m,x::r,n,a+1,b+1,g,rr,tb,h0,h1,h2=>by
  rw[mak_cons,mak_cons]
  have S:=stp_tok rr g tb
  rcases ht:tok1F lit m x r with ⟨m',q⟩|e
  ·simp only
   obtain ⟨r5,q1,q2,q3⟩:=S.ok m' q ht
   simp only[List.length_cons] at h0 h1 h2
   exact mak_fuel k m' q _ a b (g.tok1 ht) r5 q2 (by omega) (by omega) (by omega)
  ·rfl
set_option maxHeartbeats 4000000 in
set_option maxRecDepth 100000 in
theorem fw_read {base q B:Nat} {w:World} {V:Rv} {x6:Value} {m:Mk} {left:List Tk} {n:Int} (c:CmpM base q B w V x6 m left) (g:MkG m) (r:MkR m n) (hn:n≤16000) (x:Tk) (tb:TkC (x::left)):
  Calls Tryz.prog 35 #[.pointer (some ⟨q,0,none⟩), .agg #[.int .i64 x.1, .string (strOfNums x.2.1), .int .i64 x.2.2]] w (CmpQ base q B w (tok1F lit m x left)):=by
 obtain ⟨k,t,p⟩:=x
 obtain ⟨hb,hl5,h255,h1⟩:=tb (k,t,p) List.mem_cons_self
 simp only at hb hl5 h255 h1 ⊢
 have tl:=tb.tail
 have bx:=box_below w (.cells #[.int .i64 k, .string (strOfNums t), .int .i64 p] 77)
 have st:=stands_new w #[.int .i64 k, .string (strOfNums t), .int .i64 p] 77
 have c0:=c.below bx
 have B0:=hid (c.bel bx)
 have s0:=st.cell 0 _ rfl
 have s1:=st.cell 1 _ rfl
 have s2:=st.cell 2 _ rfl
 by_cases hk:k=1
 ·subst hk
  rw[tok_word]
  have f9:=c0.c9
  cases ho:m.op
  ·rw[ho] at f9
   have c5:=fw_outside c0 g r hn tl.tb t hb hl5 ho
   rw[out_eq m t left ho] at c5
   obtain ⟨R,hR⟩:∃R,tokW m t left=R:=⟨_,rfl⟩
   rw[hR] at c5 ⊢
   obtain ⟨S,hS⟩:∃S,strOfNums t=S:=⟨_,rfl⟩
   rw[hS] at s1 c5 f9 B0 ⊢
   clear c c0 g r tb tl bx st hR hb h255 h1 ho
   simp only[hS] at s0 s2
   go_enter Tryz.func35,Tryz.ntmps35
   go_wp2_with (first|(go_at_call 63;refine c5.mono ?_;rintro e w5 P5;obtain rfl:=P5.ret)|fail)
   go_ret
   exact ⟨btr B0.out P5.1,P5.2⟩
  ·rw[ho] at f9
   have c5:=fw_inside c0 g r hn tl.tb t hb hl5 ho
   rw[ins_eq m t left ho] at c5
   obtain ⟨R,hR⟩:∃R,tokW m t left=R:=⟨_,rfl⟩
   rw[hR] at c5 ⊢
   obtain ⟨S,hS⟩:∃S,strOfNums t=S:=⟨_,rfl⟩
   rw[hS] at s1 c5 f9 B0 ⊢
   clear c c0 g r tb tl bx st hR hb h255 h1 ho
   simp only[hS] at s0 s2
   go_enter Tryz.func35,Tryz.ntmps35
   go_wp2_with (first|(go_at_call 62;refine c5.mono ?_;rintro e w5 P5;obtain rfl:=P5.ret)|fail)
   go_ret
   exact ⟨btr B0.out P5.1,P5.2⟩
 ·have e:tok1F lit m (k,t,p) left= .inl (txM m k t,left):=by unfold tok1F txM;rw[if_pos hk]
  rw[e]
  have c5:=fw_text c0 g r (by omega) k p t hb (h255 hk)
  have hk2:(k !=1)=true:=by simpa using hk
  have hk3:(k==1)=false:=by simpa using hk
  obtain ⟨S,hS⟩:∃S,strOfNums t=S:=⟨_,rfl⟩
  rw[hS] at s1 c5 B0 ⊢
  simp only[hS] at s0 s2
  clear c c0 g r tb tl bx st hb h255 h1 hk e
  go_enter Tryz.func35,Tryz.ntmps35
  go_wp2_with (first|(go_at_call 61;refine c5.mono ?_;rintro e w5 ⟨rfl,P5,b5⟩)|fail)
  go_ret
  exact ⟨btr B0.out b5,rfl,P5⟩
def leftQ (q:Nat) (w:World):Nat:=match w.cell? ⟨q,6,none⟩ with
 |some v=>lenOf v
 |none=>0
theorem left_len {base q B:Nat} {w:World} {V:Rv} {x6:Value} {m:Mk} {left:List Tk} (c:CmpM base q B w V x6 m left):leftQ q w=left.length:=by
 unfold leftQ
 rw[c.c6]
 obtain ⟨rows,h1,h2,h3⟩:=c.lf
 obtain ⟨ao,cap,rfl,_⟩:=h1.form
 simp[lenOf,h2]
def allR (base q B:Nat) (w:World) (R:Mk ⊕ Int) (e:Ending) (w':World):Prop:=Below base w w'∧match R with
 | .inr E=>e= .returned (.int .i64 E)∧¬E=0
 | .inl m=>if m.op=true then e= .returned (.int .i64 13) else e= .returned (.int .i64 0)∧CmpS base q B w' (addT m 0 0 []) []
set_option maxHeartbeats 4000000 in
set_option maxRecDepth 100000 in
theorem fw_all {base q B:Nat} {w:World} {V:Rv} {x6:Value} {m:Mk} {left:List Tk} (c:CmpM base q B w V x6 m left) (g:MkG m) (n:Int) (r:MkR m n) (hn:n+3*wt left≤12400) (tb:TkC left):
  Calls Tryz.prog 21 #[.pointer (some ⟨q,0,none⟩)] w (allR base q B w (makG lit left.length m left)):=by
 obtain ⟨R,hR⟩:∃R,makG lit left.length m left=R:=⟨_,rfl⟩
 rw[hR]
 have HR:=hid hR
 clear hR
 go_enter Tryz.func21,Tryz.ntmps21
 go_wp2_with fail
 go_loopw [3] (fun _ wx=>∃(mk:Mk) (lk:List Tk) (nk:Int) (Vk:Rv) (xk:Value),CmpM base q B wx Vk xk mk lk∧Hid (MkG mk∧MkR mk nk∧nk+3*(wt lk:Int)≤12400∧TkC lk∧makG lit left.length m left=makG lit lk.length mk lk∧Below base w wx)) (fun _ wx=>leftQ q wx)
 case atStart=>exact ⟨m,left,n,V,x6,c,hid ⟨g,r,hn,tb,rfl,Below.refl _ _⟩⟩
 case round=>
  obtain ⟨mk,lk,nk,Vk,xk,ck,HH⟩:=hrel
  obtain ⟨gk,rk,hnk,tbk,ek,bk⟩:=HH.out
  have f6:=ck.c6
  have hla:=slr_len ck.lf uT3 (P:=Tryz.prog)
  cases lk with
  |nil=>
   simp only[List.length_nil] at hla
   have f9:=ck.c9
   have eR:R= .inl mk:=by rw[←HR.out,ek];rfl
   cases ho:mk.op
   ·rw[ho] at f9
    have cl:=cm_codes ck gk.fl rk (by have:wt ([]:List Tk)=0:=rfl;omega) 0 (by decide+kernel)
    have BK:=hid bk
    have hoo:=hid ho
    clear ck gk rk tbk ek HH bk ho
    go_wp2_with (first|(go_at_call 37;refine cl.mono ?_;rintro e w5 ⟨rfl,V5,c5,b5⟩)|fail)
    go_ret
    refine ⟨btr BK.out b5, ?_⟩
    rw[eR]
    simp only
    rw[if_neg (by rw[hoo.out];simp)]
    exact ⟨rfl,_,_,c5⟩
   ·rw[ho] at f9
    have BK:=hid bk
    have hoo:=hid ho
    clear ck gk rk tbk ek HH bk ho
    go_wp2_with fail
    go_ret
    refine ⟨BK.out, ?_⟩
    rw[eR]
    simp only
    rw[if_pos hoo.out]
    rfl
  |cons x l=>
   obtain ⟨N,hN⟩:∃N:Int,((x::l).length:Int)=N:=⟨_,rfl⟩
   have hNp:0 < N:=by rw[←hN];simp <;> omega
   rw[hN] at hla
   have ct:=fw_taken ck
   have hwt:1≤wt (x::l):=by show 1≤x.2.1.length+1+wt l;omega
   have S:=stp_tok rk gk tbk
   have hG:∀m' q,tok1F lit mk x l= .inl (m',q)→MkG m':=fun m' q h=>gk.tok1 h
   have cr:=fun w1 V1 x1 (c1:CmpM base q B w1 V1 x1 mk l)=>fw_read c1 gk rk (by omega) x tbk
   have hL:leftQ q wr=l.length+1:=by rw[left_len ck];rfl
   have es:makG lit (x::l).length mk (x::l)=match tok1F lit mk x l with
    | .inr e=> .inr e
    | .inl y=>makG lit l.length y.1 y.2:=by
    exact mak_cons lit l.length mk x l
   rw[es] at ek
   obtain ⟨T,hT⟩:∃T,tok1F lit mk x l=T:=⟨_,rfl⟩
   rw[hT] at S hG ek cr
   have BK:=hid bk
   have HT:=hid hT
   obtain ⟨k,t,p⟩:=x
   simp only at ct cr
   obtain ⟨Sx,hSx⟩:∃S,strOfNums t=S:=⟨_,rfl⟩
   rw[hSx] at ct cr
   rcases T with ⟨m',l'⟩|E
   ·obtain ⟨r5,q1,q2,q3⟩:=S.ok m' l' rfl
    have g5:=hG m' l' rfl
    simp only at ek
    have ek2:makG lit left.length m left=makG lit l'.length m' l':=by
     rw[ek]
     exact mak_fuel l.length m' l' _ _ _ g5 r5 q2 q1 q1 (Nat.le_refl _)
    have KK:=hid (And.intro g5 (And.intro r5 (And.intro q2 ek2)))
    clear ck gk rk tbk ek HH bk hN S hG es hT ek2 g5 r5 q2
    go_wp2_with (first
     |(go_at_call 36;refine ct.mono ?_;rintro e w4 ⟨rfl,x4,c4,b4⟩;have c5:=cr w4 Vk x4 c4)
     |(go_at_call 35;refine c5.mono ?_;rintro e w5 ⟨b5,h5⟩;simp only at h5;obtain ⟨h5,V5,x5,d5⟩:=h5;subst h5)
     |fail)
    obtain ⟨z1,z2,z3,z4⟩:=KK.out
    go_roundw
    case rel=>exact ⟨m',l',_,V5,x5,d5,hid ⟨z1,z2,by omega,z3,z4,btr BK.out (btr b4 b5)⟩⟩
    case measure=>rw[left_len d5,hL];omega
   ·have hE:=S.er E rfl
    have hE1:(E !=0)=true:=by simpa using hE
    have hE2:(E==0)=false:=by simpa using hE
    have eR:R= .inr E:=by rw[←HR.out,ek]
    clear ck gk rk tbk ek HH bk hN S hG es hT
    go_wp2_with (first
     |(go_at_call 36;refine ct.mono ?_;rintro e w4 ⟨rfl,x4,c4,b4⟩;have c5:=cr w4 Vk x4 c4)
     |(go_at_call 35;refine c5.mono ?_;rintro e w5 ⟨b5,h5⟩;simp only at h5;subst h5)
     |fail)
    go_ret
    rw[eR]
    exact ⟨btr BK.out (btr b4 b5),rfl,hE⟩
theorem L_byt (s:ByteArray):bytesL (L s):=by
 intro x hx
 have:L s=LB s:=rfl
 rw[this] at hx
 unfold LB at hx
 obtain ⟨c,_,rfl⟩:=List.mem_map.1 hx
 have:=c.toNat_lt
 omega
theorem cut_TkC (s:ByteArray):TkC (cutF (L s)).1:=by
 intro x hx
 obtain ⟨h1,h2⟩:=cut_ok (L s) (L_byt s) x hx
 have h3:=wt_mem hx
 have h4:=cut_wt (L s)
 refine ⟨h2,by omega,fun hk=> ?_,fun hk=> ?_⟩
 ·unfold good at h1
  simp only[Bool.and_eq_true,decide_eq_true_eq] at h1
  rcases h1.1 with ⟨_,z⟩|⟨z,_⟩
  ·exact z
  ·exact absurd z hk
 ·unfold good at h1
  simp only[Bool.and_eq_true,decide_eq_true_eq] at h1
  rcases h1.1 with ⟨z,_⟩|⟨_,z,_⟩
  ·omega
  ·rcases hq:x.2.1 with _|⟨a,l⟩
   ·exact absurd hq z
   ·simp
def V0:Rv:=⟨.slice none 0 0, .slice none 0 0, .slice none 0 0, .slice none 0 0, .slice none 0 0,[]⟩
theorem V0_has (k:Nat):¬V0.has k:=by
 unfold Rv.has V0
 simp[Value.ownBlock]
theorem cmp0 {base B:Nat} {w:World} {v:Value} {l:List Tk} (hb:base≤w.heap.size) (hl:SlR 3 tokR w v l) (hB:MapM w B []) (h1:base≤B) (h2:l≠[]→∀k,v.ownBlock=some k→k≠B):
  CmpM base w.heap.size B (w.alloc (.cells #[.slice none 0 0, .int .i64 0, .slice none 0 0, .slice none 0 0, .slice none 0 0, .slice none 0 0,v, .map (some B), .int .i64 2048, .bool false, .string ⟨#[]⟩, .int .i64 0] 61)) V0 v mk0 l:=by
 have bx:=box_below w (.cells #[.slice none 0 0, .int .i64 0, .slice none 0 0, .slice none 0 0, .slice none 0 0, .slice none 0 0,v, .map (some B), .int .i64 2048, .bool false, .string ⟨#[]⟩, .int .i64 0] 61)
 refine ⟨⟨stands_new w _ _,World.ownsRow_nil _ _ _ _,World.ownsRow_nil _ _ _ _,World.ownsRow_nil _ _ _ _,World.ownsRow_nil _ _ _ _,rfl,World.ownsRow_nil _ _ _ _,(fun x hx=>by cases hx),by simp[V0],hb,Nat.le_trans hb bx.size⟩, ?_, ?_,h2, ?_, ?_,h1⟩
 ·exact slr_frm hl (Frm.below bx:Frm (fun _=>False) _ _) (fun _ _ _ z=>z)
 ·intro hne k hk hd
  rcases hd with e|z
  ·have:=slr_lt hl hne hk
   omega
  ·exact V0_has k z
 ·exact hB.frm (Frm.below bx:Frm (fun _=>False) _ _) (fun z=>z)
 ·rintro (e|z)
  ·have:=hB.lt
   omega
  ·exact V0_has B z
def TokQ (w:World) (s:ByteArray) (e:Ending) (w':World):Prop:=Below w.heap.size w w'∧∃v E,e= .returned (.tuple #[v, .int .i64 E])∧((cutF (L s)).2≠0→¬E=0∧v= .slice none 0 0)∧((cutF (L s)).2=0→E=(toksG lit (cutF (L s)).1).2∧OwQs w.heap.size w' v (toksG lit (cutF (L s)).1).1)
theorem errlike {E e:Int} (h:ErrLike E e):(e=0→E=0)∧(e≠0→¬E=0):=by
 rcases h with rfl|⟨rfl,h⟩
 ·exact ⟨id,id⟩
 ·exact ⟨fun z=>by omega,fun _=>by omega⟩
set_option maxHeartbeats 4000000 in
set_option maxRecDepth 100000 in
theorem fw_tokens (s:ByteArray) (w:World) (hs:s.size≤maxLen) (hT:Tab w):Calls Tryz.prog 8 #[.string s] w (TokQ w s):=by
 have cc:=w_pcutE s w hs hT
 have tc:=cut_TkC s
 have hw:=cut_wt (L s)
 unfold TokQ
 obtain ⟨⟨X,e⟩,hX⟩:∃x,cutF (L s)=x:=⟨_,rfl⟩
 rw[hX] at cc tc hw ⊢
 simp only at cc tc hw ⊢
 clear hX
 by_cases he:e=0
 ·subst he
  have HT':=hid tc
  rcases hm:makG lit X.length mk0 X with m|E
  ·cases ho:m.op
   ·have ht:toksG lit X=(offL (endsF 0 (addT m 0 0 []).out) m.fl.pr (addT m 0 0 []).out,0):=by unfold toksG;rw[hm];simp only;rw[if_neg (by rw[ho];simp)]
    rw[ht]
    simp only
    go_enter Tryz.func8,Tryz.ntmps8
    go_upto_region 4 with (first|(go_at_call 19;refine cc.mono ?_;rintro e w1 ⟨v,E0,rfl,h1,r1,b1⟩;obtain rfl:E0=0:=(errlike h1).1 rfl;obtain ⟨va,vc,rfl⟩:=slr_slice r1)|fail)
    have cf:=fw_first w1
    go_upto_region 5 with (first|(go_at_call 20;refine cf.mono ?_;rintro e w2 ⟨rfl,m2,b2⟩)|fail)
    have c3:=cmp0 (base:=w.heap.size) (Nat.le_trans b1.size b2.size) (slr_frm r1 (Frm.below b2:Frm (fun _=>False) _ _) (fun _ _ _ z=>z)) m2 b1.size (fun hne k hk e=>by have:=slr_lt r1 hne hk;omega)
    have b3:=box_below w2 (.cells #[.slice none 0 0, .int .i64 0, .slice none 0 0, .slice none 0 0, .slice none 0 0, .slice none 0 0, .slice va X.length vc, .map (some w1.heap.size), .int .i64 2048, .bool false, .string ⟨#[]⟩, .int .i64 0] 61)
    have B3:=hid (below_trans b1 (below_trans b2 b3))
    have ca:=fw_all c3 mk0_ok 0 mk0_R (by omega) HT'.out
    rw[hm] at ca
    unfold allR at ca
    simp only at ca
    generalize w2.alloc (.cells #[.slice none 0 0, .int .i64 0, .slice none 0 0, .slice none 0 0, .slice none 0 0, .slice none 0 0, .slice va X.length vc, .map (some w1.heap.size), .int .i64 2048, .bool false, .string ⟨#[]⟩, .int .i64 0] 61)=W3 at c3 ca B3 ⊢
    simp only[ho,Bool.false_eq_true,↓reduceIte] at ca
    go_upto_region 8 with (first|(go_at_call 21;refine ca.mono ?_;rintro e w4 ⟨b4,rfl,V4,x4,c4⟩)|fail)
    have f0:=c4.row.st.cell 0 _ rfl
    have B4:=hid (btr B3.out b4)
    have rd:=hid c4.row.tk
    obtain ⟨ta,tcp,hvt⟩:=own_form c4.row.tk
    rw[hvt] at f0 rd
    go_wp2_with fail
    go_ret2
    exact ⟨B4.out,_,_,rfl,fun z=>absurd rfl z,fun _=>⟨rfl,rd.out⟩⟩
   ·have ht:toksG lit X=([],13):=by unfold toksG;rw[hm];simp only;rw[if_pos ho]
    rw[ht]
    simp only
    go_enter Tryz.func8,Tryz.ntmps8
    go_upto_region 4 with (first|(go_at_call 19;refine cc.mono ?_;rintro e w1 ⟨v,E0,rfl,h1,r1,b1⟩;obtain rfl:E0=0:=(errlike h1).1 rfl;obtain ⟨va,vc,rfl⟩:=slr_slice r1)|fail)
    have cf:=fw_first w1
    go_upto_region 5 with (first|(go_at_call 20;refine cf.mono ?_;rintro e w2 ⟨rfl,m2,b2⟩)|fail)
    have c3:=cmp0 (base:=w.heap.size) (Nat.le_trans b1.size b2.size) (slr_frm r1 (Frm.below b2:Frm (fun _=>False) _ _) (fun _ _ _ z=>z)) m2 b1.size (fun hne k hk e=>by have:=slr_lt r1 hne hk;omega)
    have b3:=box_below w2 (.cells #[.slice none 0 0, .int .i64 0, .slice none 0 0, .slice none 0 0, .slice none 0 0, .slice none 0 0, .slice va X.length vc, .map (some w1.heap.size), .int .i64 2048, .bool false, .string ⟨#[]⟩, .int .i64 0] 61)
    have B3:=hid (below_trans b1 (below_trans b2 b3))
    have ca:=fw_all c3 mk0_ok 0 mk0_R (by omega) HT'.out
    rw[hm] at ca
    unfold allR at ca
    simp only at ca
    generalize w2.alloc (.cells #[.slice none 0 0, .int .i64 0, .slice none 0 0, .slice none 0 0, .slice none 0 0, .slice none 0 0, .slice va X.length vc, .map (some w1.heap.size), .int .i64 2048, .bool false, .string ⟨#[]⟩, .int .i64 0] 61)=W3 at c3 ca B3 ⊢
    simp only[ho,↓reduceIte] at ca
    go_wp2_with (first|(go_at_call 21;refine ca.mono ?_;rintro e w4 ⟨b4,rfl⟩)|fail)
    go_ret2
    exact ⟨btr B3.out b4,_,_,rfl,fun z=>absurd rfl z,fun _=>⟨rfl,World.ownsRow_nil _ _ _ _⟩⟩
  ·have ht:toksG lit X=([],E):=by unfold toksG;rw[hm]
   rw[ht]
   simp only
   go_enter Tryz.func8,Tryz.ntmps8
   go_upto_region 4 with (first|(go_at_call 19;refine cc.mono ?_;rintro e w1 ⟨v,E0,rfl,h1,r1,b1⟩;obtain rfl:E0=0:=(errlike h1).1 rfl;obtain ⟨va,vc,rfl⟩:=slr_slice r1)|fail)
   have cf:=fw_first w1
   go_upto_region 5 with (first|(go_at_call 20;refine cf.mono ?_;rintro e w2 ⟨rfl,m2,b2⟩)|fail)
   have c3:=cmp0 (base:=w.heap.size) (Nat.le_trans b1.size b2.size) (slr_frm r1 (Frm.below b2:Frm (fun _=>False) _ _) (fun _ _ _ z=>z)) m2 b1.size (fun hne k hk e=>by have:=slr_lt r1 hne hk;omega)
   have b3:=box_below w2 (.cells #[.slice none 0 0, .int .i64 0, .slice none 0 0, .slice none 0 0, .slice none 0 0, .slice none 0 0, .slice va X.length vc, .map (some w1.heap.size), .int .i64 2048, .bool false, .string ⟨#[]⟩, .int .i64 0] 61)
   have B3:=hid (below_trans b1 (below_trans b2 b3))
   have ca:=fw_all c3 mk0_ok 0 mk0_R (by omega) HT'.out
   rw[hm] at ca
   unfold allR at ca
   simp only at ca
   generalize w2.alloc (.cells #[.slice none 0 0, .int .i64 0, .slice none 0 0, .slice none 0 0, .slice none 0 0, .slice none 0 0, .slice va X.length vc, .map (some w1.heap.size), .int .i64 2048, .bool false, .string ⟨#[]⟩, .int .i64 0] 61)=W3 at c3 ca B3 ⊢
   go_wp2_with (first|(go_at_call 21;refine ca.mono ?_;rintro e w4 ⟨b4,rfl,hE⟩;have hE1:(E !=0)=true:=(by simpa using hE);have hE2:(E==0)=false:=(by simpa using hE))|fail)
   go_ret2
   exact ⟨btr B3.out b4,_,_,rfl,fun z=>absurd rfl z,fun _=>⟨rfl,World.ownsRow_nil _ _ _ _⟩⟩
 ·go_enter Tryz.func8,Tryz.ntmps8
  go_wp2_with (first|(go_at_call 19;refine cc.mono ?_;rintro e1 w1 ⟨v,E,rfl,h1,r1,b1⟩;have hE:=(errlike h1).2 he;have hE1:(E !=0)=true:=(by simpa using hE);have hE2:(E==0)=false:=(by simpa using hE))|fail)
  go_ret2
  exact ⟨b1,_,_,rfl,fun _=>⟨hE,rfl⟩,fun z=>absurd z he⟩
def unqE (X:List Int):Nat→Nat→List Int→List Int×Nat×Int
 |0,_,_=>([],0,15)
 |f+1,j,ys=>
  if X.length≤nxF X j 34 then ([],0,15)
  else if nxF X j 34+1 < X.length∧X.getD (nxF X j 34+1) 0=40 then
   if X.length≤nxF X (nxF X j 34+2) 41 then ([],0,15)
   else match hexG none (cutL X (nxF X j 34+2) (nxF X (nxF X j 34+2) 41)) with
    |none=>([],0,15)
    |some b=>unqE X f (nxF X (nxF X j 34+2) 41+1) (ys++cutL X j (nxF X j 34)++b)
  else (ys++cutL X j (nxF X j 34),nxF X j 34+1,0)
def UnR (X:List Int) (j:Nat) (ys:List Int) (R:List Int×Nat×Int):Prop:=∃f,X.length < f+j∧unqE X f j ys=R
theorem UnR.open {X:List Int} {j:Nat} {ys:List Int} {R} (h:UnR X j ys R) (hj:j≤X.length) (h1:nxF X j 34=X.length):R.2.2=15:=by
 obtain ⟨f,hf,rfl⟩:=h
 cases f with
 |zero=>omega
 |succ f=>rw[unqE,if_pos (by omega)]
theorem UnR.done {X:List Int} {j k:Nat} {ys:List Int} {R} (h:UnR X j ys R) (hj:j≤X.length) (h1:nxF X j 34=k) (hk:k < X.length) (h2:∀g:k+1 < X.length,¬X[k+1]=40):R=(ys++cutL X j k,k+1,0):=by
 obtain ⟨f,hf,rfl⟩:=h
 cases f with
 |zero=>omega
 |succ f=>
  rw[unqE,h1,if_neg (by omega),if_neg]
  rintro ⟨g,g2⟩
  rw[List.getD_eq_getElem?_getD,List.getElem?_eq_getElem g,Option.getD_some] at g2
  exact h2 g g2
theorem UnR.hopen {X:List Int} {j k:Nat} {ys:List Int} {R} (h:UnR X j ys R) (hj:j≤X.length) (h1:nxF X j 34=k) (hk:k+1 < X.length) (h2:X[k+1]=40) (h3:nxF X (k+2) 41=X.length):R.2.2=15:=by
 obtain ⟨f,hf,rfl⟩:=h
 cases f with
 |zero=>omega
 |succ f=>
  rw[unqE,h1,if_neg (by omega),if_pos ⟨hk,by rw[List.getD_eq_getElem?_getD,List.getElem?_eq_getElem hk,Option.getD_some];exact h2⟩,if_pos (by omega)]
theorem UnR.hbad {X:List Int} {j k m:Nat} {ys:List Int} {R} (h:UnR X j ys R) (hj:j≤X.length) (h1:nxF X j 34=k) (hk:k+1 < X.length) (h2:X[k+1]=40) (h3:nxF X (k+2) 41=m) (hm:m < X.length) (h4:hexG none (cutL X (k+2) m)=none):R.2.2=15:=by
 obtain ⟨f,hf,rfl⟩:=h
 cases f with
 |zero=>omega
 |succ f=>
  rw[unqE,h1,if_neg (by omega),if_pos ⟨hk,by rw[List.getD_eq_getElem?_getD,List.getElem?_eq_getElem hk,Option.getD_some];exact h2⟩,h3,if_neg (by omega),h4]
theorem UnR.hon {X:List Int} {j k m:Nat} {ys b:List Int} {R} (h:UnR X j ys R) (hj:j≤X.length) (hjk:j≤m) (h1:nxF X j 34=k) (hk:k+1 < X.length) (h2:X[k+1]=40) (h3:nxF X (k+2) 41=m) (hm:m < X.length) (h4:hexG none (cutL X (k+2) m)=some b):UnR X (m+1) (ys++cutL X j k++b) R:=by
 obtain ⟨f,hf,hR⟩:=h
 cases f with
 |zero=>omega
 |succ f=>
  rw[unqE,h1,if_neg (by omega),if_pos ⟨hk,by rw[List.getD_eq_getElem?_getD,List.getElem?_eq_getElem hk,Option.getD_some];exact h2⟩,h3,if_neg (by omega),h4] at hR
  exact ⟨f,by omega,hR⟩
def qtE (X:List Int) (i:Nat):Nat×Int:=
 if i=X.length then (0,15)
 else if ¬(unqE X (X.length+1) (i+1) []).2.2=0 then (0,(unqE X (X.length+1) (i+1) []).2.2)
 else if 255 < (unqE X (X.length+1) (i+1) []).1.length then (0,3)
 else if (unqE X (X.length+1) (i+1) []).2.1 < X.length∧¬X.getD (unqE X (X.length+1) (i+1) []).2.1 0≤32 then (0,15)
 else ((unqE X (X.length+1) (i+1) []).2.1,0)
def nxW (X:List Int) (n:Nat) (W:List Int):Nat×Int:=
 if W=[92] then (if nxF X n 10 < X.length then nxF X n 10+1 else X.length,0)
 else if W=[40] then (if nxF X n 41 < X.length then (nxF X n 41+1,0) else (0,15))
 else if W=[46,40] then (if n=X.length∨nxF X (n+1) 41=X.length then (0,15) else if 255 < nxF X (n+1) 41 - n - 1 then (0,3) else (nxF X (n+1) 41+1,0))
 else if W=[34]∨W=[46,34] then qtE X n
 else (n,0)
def nxE (X:List Int) (i:Nat):Nat×Int:=nxW X (fdF blC X i) (cutL X i (fdF blC X i))
theorem nxW_plain (X:List Int) (n:Nat) (W:List Int) (h:spec W=false):nxW X n W=(n,0):=by
 have h2:¬(W=[92]∨W=[40]∨W=[46,40]∨W=[34]∨W=[46,34]):=by
  intro h3
  have:spec W=true:=by rcases h3 with h|h|h|h|h <;> (subst h;decide)
  rw[h] at this;cases this
 unfold nxW
 rw[if_neg (fun a=>h2 (Or.inl a)),if_neg (fun a=>h2 (Or.inr (Or.inl a))),if_neg (fun a=>h2 (Or.inr (Or.inr (Or.inl a)))),if_neg (fun a=>h2 (Or.inr (Or.inr (Or.inr a))))]
theorem nxW_q (X:List Int) (n:Nat) (W:List Int) (h:W=[34]∨W=[46,34]):nxW X n W=qtE X n:=by
 unfold nxW
 rcases h with rfl|rfl
 ·rw[if_neg (by decide),if_neg (by decide),if_neg (by decide),if_pos (Or.inl rfl)]
 ·rw[if_neg (by decide),if_neg (by decide),if_neg (by decide),if_pos (Or.inr rfl)]
def EqE (P:Nat×Int) (b:Nat) (E:Int):Prop:=P.2=E∧(E=0→P.1=b)
def lcE (X:List Int):Nat→Nat→Int
 |0,_=>0
 |f+1,i=>if X.length≤i then 0 else if ¬(nxE X i).2=0 then (nxE X i).2 else lcE X f (fdF soC X (nxE X i).1)
def cutE (X:List Int):Int:=if 4096 < X.length then 3 else lcE X (X.length+1) (fdF soC X 0)
def LcR (X:List Int) (i:Nat) (R:Int):Prop:=∃f,X.length < f+i∧lcE X f i=R
theorem LcR.stop {X:List Int} {i b:Nat} {R E:Int} (h:LcR X i R) (hi:i < X.length) (h1:EqE (nxE X i) b E) (h2:¬E=0):R=E:=by
 obtain ⟨f,hf,rfl⟩:=h
 cases f with
 |zero=>omega
 |succ f=>rw[lcE,if_neg (by omega),h1.1,if_pos h2]
theorem LcR.on {X:List Int} {i b:Nat} {R:Int} (h:LcR X i R) (hi:i < X.length) (h1:EqE (nxE X i) b 0) (hb:i < fdF soC X b):LcR X (fdF soC X b) R:=by
 obtain ⟨f,hf,hR⟩:=h
 cases f with
 |zero=>omega
 |succ f=>
  rw[lcE,if_neg (by omega),h1.1,if_neg (by decide),h1.2 rfl] at hR
  exact ⟨f,by omega,hR⟩
theorem LcR.fin {X:List Int} {i:Nat} {R:Int} (h:LcR X i R) (hi:X.length≤i):R=0:=by
 obtain ⟨f,hf,rfl⟩:=h
 cases f with
 |zero=>rfl
 |succ f=>rw[lcE,if_pos hi]
end Go.Proofs.YtkkehbdahniiaaaGreatDoor
