import Derived.Maps.AppendAt
import Derived.Lib.Strings
import Derived.Test.YtkkehbdahniiaaaGreatDoorB1
set_option linter.unusedVariables false
set_option linter.unusedSimpArgs false
set_option maxRecDepth 100000
namespace Go.Proofs.YtkkehbdahniiaaaGreatDoor
open Go.ChangeShapes Go.WideShapes Go.ChangeAt Go.RowKit
set_option maxHeartbeats 4000000 in
set_option maxRecDepth 100000 in
theorem w_lay0 (base:Nat) (v:Value) (B:List Int) (c n o:Int) (S:ByteArray) (wide:Bool) (w:World) (hB:OwB base w v B) (hb:base≤w.heap.size) (hl:B.length≤8192) (n0:0≤n) (n1:n < 4294967296) (hs:S.size≤maxLen) (hc:cdd c=true) (hk:bhF c=0) (hok:okB 0 ⟨c,n,LB S,o⟩ wide=true):
  Calls Tryz.prog 47 #[v, .agg #[.int .i64 c, .int .u32 n, .string S, .int .i64 o], .bool wide] w fun e w'=>∃v',e= .returned v'∧OwB base w' v' (B++(cbF c++beQ 0 ⟨c,n,LB S,o⟩ wide))∧Lay base w w':=by
 obtain ⟨i0,hi,hz0,hz1,hz2⟩:=info_parts infoU8
 have cB:=fun w=>w_behind c w
 rw[hk] at cB
 have bw:=box_below w (.cells #[.int .i64 c, .int .u32 n, .string S, .int .i64 o] 40)
 have sw:=stands_new w #[.int .i64 c, .int .u32 n, .string S, .int .i64 o] 40
 have hw0:base≤(w.alloc (.cells #[.int .i64 c, .int .u32 n, .string S, .int .i64 o] 40)).heap.size:=by rw[size_al];omega
 have cC:=w_layCode base v B c _ (hB.below bw) hw0 (by omega) hc
 have lw:=Lay.new hb bw
 have hcl:(cbF c).length≤2:=by unfold cbF;split <;> simp
 clear hk hc
 obtain ⟨X,hX⟩:∃X,cbF c=X:=⟨_,rfl⟩
 rw[hX] at cC hcl ⊢
 clear hX
 go_enter Tryz.func47,Tryz.ntmps47
 go_wp2_with (first
  |(go_at_call 77;refine (cB _).mono ?_;rintro e q ⟨rfl,hw⟩;obtain rfl:=hw.symm)
  |(go_at_call 79;refine cC.mono ?_;rintro e w1 ⟨v1,rfl,o1,l1⟩;have st1:=sw.agr l1.agr rfl (fun h=>h);have f0:=st1.cell 0 _ rfl;have f1:=st1.cell 1 _ rfl;have f2:=st1.cell 2 _ rfl;have f3:=st1.cell 3 _ rfl;have ll:=lw.trans l1;have hs1:base≤w1.heap.size:=Nat.le_trans hb ll.below.size))
 go_ret
 refine ⟨v1,rfl, ?_,ll⟩
 have:=o1
 simpa [beQ] using this
set_option maxHeartbeats 4000000 in
set_option maxRecDepth 100000 in
theorem w_lay1 (base:Nat) (v:Value) (B:List Int) (c n o:Int) (S:ByteArray) (wide:Bool) (w:World) (hB:OwB base w v B) (hb:base≤w.heap.size) (hl:B.length≤8192) (n0:0≤n) (n1:n < 4294967296) (hs:S.size≤maxLen) (hc:cdd c=true) (hk:bhF c=1) (hok:okB 1 ⟨c,n,LB S,o⟩ wide=true):
  Calls Tryz.prog 47 #[v, .agg #[.int .i64 c, .int .u32 n, .string S, .int .i64 o], .bool wide] w fun e w'=>∃v',e= .returned v'∧OwB base w' v' (B++(cbF c++beQ 1 ⟨c,n,LB S,o⟩ wide))∧Lay base w w':=by
 obtain ⟨i0,hi,hz0,hz1,hz2⟩:=info_parts infoU8
 have cB:=fun w=>w_behind c w
 rw[hk] at cB
 have bw:=box_below w (.cells #[.int .i64 c, .int .u32 n, .string S, .int .i64 o] 40)
 have sw:=stands_new w #[.int .i64 c, .int .u32 n, .string S, .int .i64 o] 40
 have hw0:base≤(w.alloc (.cells #[.int .i64 c, .int .u32 n, .string S, .int .i64 o] 40)).heap.size:=by rw[size_al];omega
 have cC:=w_layCode base v B c _ (hB.below bw) hw0 (by omega) hc
 have lw:=Lay.new hb bw
 have hcl:(cbF c).length≤2:=by unfold cbF;split <;> simp
 clear hk hc
 obtain ⟨X,hX⟩:∃X,cbF c=X:=⟨_,rfl⟩
 rw[hX] at cC hcl ⊢
 clear hX
 have e4:n / 16777216%256=n / 16777216:=by omega
 go_enter Tryz.func47,Tryz.ntmps47
 go_wp2_with (first
  |(at_builtin;refine wpList_append_rd (k:= .u8) rfl _ _ 29 rfl base 5 i0 1 Tryz.underlying29 hi hz0 hz1 hz2 v1 (B++X) rfl (OwB.below o1 (box_below w1 _)) _ [n / 16777216,n / 65536%256,n / 256%256,n%256] rfl (rd_lit w1 [n / 16777216,n / 65536%256,n / 256%256,n%256] 5 (by simp) (by simp[maxLen])) (by unfold maxLen;simp[LB_len];omega) (by simp[LB_len];omega) (by rw[size_al];omega) ?_;intro v2 w2 p2 g2;have o2:OwB base w2 v2 (B++X++[n / 16777216,n / 65536%256,n / 256%256,n%256]):=p2;have l2:=ll.trans ((Lay.new hs1 (box_below w1 _)).trans (Lay.app (OwB.below o1 (box_below w1 _)) (by rw[size_al];omega) g2)))
  |(go_at_call 77;refine (cB _).mono ?_;rintro e q ⟨rfl,hw⟩;obtain rfl:=hw.symm)
  |(go_at_call 79;refine cC.mono ?_;rintro e w1 ⟨v1,rfl,o1,l1⟩;have st1:=sw.agr l1.agr rfl (fun h=>h);have f0:=st1.cell 0 _ rfl;have f1:=st1.cell 1 _ rfl;have f2:=st1.cell 2 _ rfl;have f3:=st1.cell 3 _ rfl;have ll:=lw.trans l1;have hs1:base≤w1.heap.size:=Nat.le_trans hb ll.below.size))
 go_ret
 refine ⟨v2,rfl, ?_,l2⟩
 have:=o2
 rw[List.append_assoc] at this;simp only[beQ];rw[e4];exact this
set_option maxHeartbeats 4000000 in
set_option maxRecDepth 100000 in
theorem w_lay2 (base:Nat) (v:Value) (B:List Int) (c n o:Int) (S:ByteArray) (wide:Bool) (w:World) (hB:OwB base w v B) (hb:base≤w.heap.size) (hl:B.length≤8192) (n0:0≤n) (n1:n < 4294967296) (hs:S.size≤maxLen) (hc:cdd c=true) (hk:bhF c=2) (hok:okB 2 ⟨c,n,LB S,o⟩ wide=true):
  Calls Tryz.prog 47 #[v, .agg #[.int .i64 c, .int .u32 n, .string S, .int .i64 o], .bool wide] w fun e w'=>∃v',e= .returned v'∧OwB base w' v' (B++(cbF c++beQ 2 ⟨c,n,LB S,o⟩ wide))∧Lay base w w':=by
 obtain ⟨i0,hi,hz0,hz1,hz2⟩:=info_parts infoU8
 have cB:=fun w=>w_behind c w
 rw[hk] at cB
 have bw:=box_below w (.cells #[.int .i64 c, .int .u32 n, .string S, .int .i64 o] 40)
 have sw:=stands_new w #[.int .i64 c, .int .u32 n, .string S, .int .i64 o] 40
 have hw0:base≤(w.alloc (.cells #[.int .i64 c, .int .u32 n, .string S, .int .i64 o] 40)).heap.size:=by rw[size_al];omega
 have cC:=w_layCode base v B c _ (hB.below bw) hw0 (by omega) hc
 have lw:=Lay.new hb bw
 have hcl:(cbF c).length≤2:=by unfold cbF;split <;> simp
 clear hk hc
 obtain ⟨X,hX⟩:∃X,cbF c=X:=⟨_,rfl⟩
 rw[hX] at cC hcl ⊢
 clear hX
 simp only[okB,Bool.and_eq_true,decide_eq_true_eq] at hok
 have hN:=hok.2
 clear hok
 go_enter Tryz.func47,Tryz.ntmps47
 go_wp2_with (first
  |(go_at_call 79;refine (w_layCode base v1 (B++X) n _ o1 hs1 (by simp;omega) hN).mono ?_;rintro e w2 ⟨v2,rfl,o2,l2⟩)
  |(go_at_call 77;refine (cB _).mono ?_;rintro e q ⟨rfl,hw⟩;obtain rfl:=hw.symm)
  |(go_at_call 79;refine cC.mono ?_;rintro e w1 ⟨v1,rfl,o1,l1⟩;have st1:=sw.agr l1.agr rfl (fun h=>h);have f0:=st1.cell 0 _ rfl;have f1:=st1.cell 1 _ rfl;have f2:=st1.cell 2 _ rfl;have f3:=st1.cell 3 _ rfl;have ll:=lw.trans l1;have hs1:base≤w1.heap.size:=Nat.le_trans hb ll.below.size))
 go_ret
 refine ⟨v2,rfl, ?_,ll.trans l2⟩
 have:=o2
 rw[List.append_assoc] at this;exact this
set_option maxHeartbeats 4000000 in
set_option maxRecDepth 100000 in
theorem w_lay3 (base:Nat) (v:Value) (B:List Int) (c n o:Int) (S:ByteArray) (wide:Bool) (w:World) (hB:OwB base w v B) (hb:base≤w.heap.size) (hl:B.length≤8192) (n0:0≤n) (n1:n < 4294967296) (hs:S.size≤maxLen) (hc:cdd c=true) (hk:bhF c=3) (hok:okB 3 ⟨c,n,LB S,o⟩ wide=true):
  Calls Tryz.prog 47 #[v, .agg #[.int .i64 c, .int .u32 n, .string S, .int .i64 o], .bool wide] w fun e w'=>∃v',e= .returned v'∧OwB base w' v' (B++(cbF c++beQ 3 ⟨c,n,LB S,o⟩ wide))∧Lay base w w':=by
 obtain ⟨i0,hi,hz0,hz1,hz2⟩:=info_parts infoU8
 have cB:=fun w=>w_behind c w
 rw[hk] at cB
 have bw:=box_below w (.cells #[.int .i64 c, .int .u32 n, .string S, .int .i64 o] 40)
 have sw:=stands_new w #[.int .i64 c, .int .u32 n, .string S, .int .i64 o] 40
 have hw0:base≤(w.alloc (.cells #[.int .i64 c, .int .u32 n, .string S, .int .i64 o] 40)).heap.size:=by rw[size_al];omega
 have cC:=w_layCode base v B c _ (hB.below bw) hw0 (by omega) hc
 have lw:=Lay.new hb bw
 have hcl:(cbF c).length≤2:=by unfold cbF;split <;> simp
 clear hk hc
 obtain ⟨X,hX⟩:∃X,cbF c=X:=⟨_,rfl⟩
 rw[hX] at cC hcl ⊢
 clear hX
 simp only[okB,Bool.and_eq_true,decide_eq_true_eq,LB_len] at hok
 have hS:=hok.2
 clear hok
 go_enter Tryz.func47,Tryz.ntmps47
 go_wp2_with (first
  |(go_at_call 80;refine (w_layText base v1 (B++X) S _ o1 hs1 (by simp;omega) hS).mono ?_;rintro e w2 ⟨v2,rfl,o2,m2⟩;have st2:=st1.agr m2.agr rfl (fun h=>h);have e1:=st2.cell 1 _ rfl;have l2:=ll.trans m2;have hs2:base≤w2.heap.size:=Nat.le_trans hb l2.below.size)
  |(go_at_call 77;refine (cB _).mono ?_;rintro e q ⟨rfl,hw⟩;obtain rfl:=hw.symm)
  |(go_at_call 79;refine cC.mono ?_;rintro e w1 ⟨v1,rfl,o1,l1⟩;have st1:=sw.agr l1.agr rfl (fun h=>h);have f0:=st1.cell 0 _ rfl;have f1:=st1.cell 1 _ rfl;have f2:=st1.cell 2 _ rfl;have f3:=st1.cell 3 _ rfl;have ll:=lw.trans l1;have hs1:base≤w1.heap.size:=Nat.le_trans hb ll.below.size))
 go_ret
 refine ⟨v2,rfl, ?_,l2⟩
 have:=o2
 rw[List.append_assoc] at this;exact this
set_option maxHeartbeats 4000000 in
set_option maxRecDepth 100000 in
theorem w_lay4 (base:Nat) (v:Value) (B:List Int) (c n o:Int) (S:ByteArray) (wide:Bool) (w:World) (hB:OwB base w v B) (hb:base≤w.heap.size) (hl:B.length≤8192) (n0:0≤n) (n1:n < 4294967296) (hs:S.size≤maxLen) (hc:cdd c=true) (hk:bhF c=4) (hok:okB 4 ⟨c,n,LB S,o⟩ wide=true):
  Calls Tryz.prog 47 #[v, .agg #[.int .i64 c, .int .u32 n, .string S, .int .i64 o], .bool wide] w fun e w'=>∃v',e= .returned v'∧OwB base w' v' (B++(cbF c++beQ 4 ⟨c,n,LB S,o⟩ wide))∧Lay base w w':=by
 obtain ⟨i0,hi,hz0,hz1,hz2⟩:=info_parts infoU8
 have cB:=fun w=>w_behind c w
 rw[hk] at cB
 have bw:=box_below w (.cells #[.int .i64 c, .int .u32 n, .string S, .int .i64 o] 40)
 have sw:=stands_new w #[.int .i64 c, .int .u32 n, .string S, .int .i64 o] 40
 have hw0:base≤(w.alloc (.cells #[.int .i64 c, .int .u32 n, .string S, .int .i64 o] 40)).heap.size:=by rw[size_al];omega
 have cC:=w_layCode base v B c _ (hB.below bw) hw0 (by omega) hc
 have lw:=Lay.new hb bw
 have hcl:(cbF c).length≤2:=by unfold cbF;split <;> simp
 clear hk hc
 obtain ⟨X,hX⟩:∃X,cbF c=X:=⟨_,rfl⟩
 rw[hX] at cC hcl ⊢
 clear hX
 cases wide with
 |true=>
  go_enter Tryz.func47,Tryz.ntmps47
  go_wp2_with (first
   |(at_builtin;refine wpList_append_rd (k:= .u8) rfl _ _ 29 rfl base 5 i0 1 Tryz.underlying29 hi hz0 hz1 hz2 v2 (B++X++[o / 256%256]) rfl (OwB.below o2 (box_below w2 _)) _ [o%256] rfl (rd_one w2 _ _) (by unfold maxLen;simp[LB_len];omega) (by simp[LB_len];omega) (by rw[size_al];omega) ?_;intro v3 w3 p3 g3;have o3:OwB base w3 v3 (B++X++[o / 256%256]++[o%256]):=p3;have l3:=l2.trans ((Lay.new hs2 (box_below w2 _)).trans (Lay.app (OwB.below o2 (box_below w2 _)) (by rw[size_al];omega) g3)))
   |(at_builtin;refine wpList_append_rd (k:= .u8) rfl _ _ 29 rfl base 5 i0 1 Tryz.underlying29 hi hz0 hz1 hz2 v1 (B++X) rfl (OwB.below o1 (box_below w1 _)) _ [o / 256%256] rfl (rd_one w1 _ _) (by unfold maxLen;simp[LB_len];omega) (by simp[LB_len];omega) (by rw[size_al];omega) ?_;intro v2 w2 p2 g2;have o2:OwB base w2 v2 (B++X++[o / 256%256]):=p2;have l2:=ll.trans ((Lay.new hs1 (box_below w1 _)).trans (Lay.app (OwB.below o1 (box_below w1 _)) (by rw[size_al];omega) g2));have st2:=st1.agr ((Agr.below (box_below w1 _)).trans (Lay.app (OwB.below o1 (box_below w1 _)) (by rw[size_al];omega) g2).agr) rfl (fun h=>h);have e3:=st2.cell 3 _ rfl;have hs2:base≤w2.heap.size:=Nat.le_trans hb l2.below.size)
   |(go_at_call 77;refine (cB _).mono ?_;rintro e q ⟨rfl,hw⟩;obtain rfl:=hw.symm)
   |(go_at_call 79;refine cC.mono ?_;rintro e w1 ⟨v1,rfl,o1,l1⟩;have st1:=sw.agr l1.agr rfl (fun h=>h);have f0:=st1.cell 0 _ rfl;have f1:=st1.cell 1 _ rfl;have f2:=st1.cell 2 _ rfl;have f3:=st1.cell 3 _ rfl;have ll:=lw.trans l1;have hs1:base≤w1.heap.size:=Nat.le_trans hb ll.below.size))
  go_ret
  refine ⟨v3,rfl, ?_,l3⟩
  have:=o3
  rw[List.append_assoc,List.append_assoc] at this;exact this
 |false=>
  go_enter Tryz.func47,Tryz.ntmps47
  go_wp2_with (first
   |(at_builtin;refine wpList_append_rd (k:= .u8) rfl _ _ 29 rfl base 5 i0 1 Tryz.underlying29 hi hz0 hz1 hz2 v1 (B++X) rfl (OwB.below o1 (box_below w1 _)) _ [o%256] rfl (rd_one w1 _ _) (by unfold maxLen;simp[LB_len];omega) (by simp[LB_len];omega) (by rw[size_al];omega) ?_;intro v2 w2 p2 g2;have o2:OwB base w2 v2 (B++X++[o%256]):=p2;have l2:=ll.trans ((Lay.new hs1 (box_below w1 _)).trans (Lay.app (OwB.below o1 (box_below w1 _)) (by rw[size_al];omega) g2)))
   |(go_at_call 77;refine (cB _).mono ?_;rintro e q ⟨rfl,hw⟩;obtain rfl:=hw.symm)
   |(go_at_call 79;refine cC.mono ?_;rintro e w1 ⟨v1,rfl,o1,l1⟩;have st1:=sw.agr l1.agr rfl (fun h=>h);have f0:=st1.cell 0 _ rfl;have f1:=st1.cell 1 _ rfl;have f2:=st1.cell 2 _ rfl;have f3:=st1.cell 3 _ rfl;have ll:=lw.trans l1;have hs1:base≤w1.heap.size:=Nat.le_trans hb ll.below.size))
  go_ret
  refine ⟨v2,rfl, ?_,l2⟩
  have:=o2
  rw[List.append_assoc] at this;exact this
set_option maxHeartbeats 4000000 in
set_option maxRecDepth 100000 in
theorem w_lay5 (base:Nat) (v:Value) (B:List Int) (c n o:Int) (S:ByteArray) (wide:Bool) (w:World) (hB:OwB base w v B) (hb:base≤w.heap.size) (hl:B.length≤8192) (n0:0≤n) (n1:n < 4294967296) (hs:S.size≤maxLen) (hc:cdd c=true) (hk:bhF c=5) (hok:okB 5 ⟨c,n,LB S,o⟩ wide=true):
  Calls Tryz.prog 47 #[v, .agg #[.int .i64 c, .int .u32 n, .string S, .int .i64 o], .bool wide] w fun e w'=>∃v',e= .returned v'∧OwB base w' v' (B++(cbF c++beQ 5 ⟨c,n,LB S,o⟩ wide))∧Lay base w w':=by
 obtain ⟨i0,hi,hz0,hz1,hz2⟩:=info_parts infoU8
 have cB:=fun w=>w_behind c w
 rw[hk] at cB
 have bw:=box_below w (.cells #[.int .i64 c, .int .u32 n, .string S, .int .i64 o] 40)
 have sw:=stands_new w #[.int .i64 c, .int .u32 n, .string S, .int .i64 o] 40
 have hw0:base≤(w.alloc (.cells #[.int .i64 c, .int .u32 n, .string S, .int .i64 o] 40)).heap.size:=by rw[size_al];omega
 have cC:=w_layCode base v B c _ (hB.below bw) hw0 (by omega) hc
 have lw:=Lay.new hb bw
 have hcl:(cbF c).length≤2:=by unfold cbF;split <;> simp
 clear hk hc
 obtain ⟨X,hX⟩:∃X,cbF c=X:=⟨_,rfl⟩
 rw[hX] at cC hcl ⊢
 clear hX
 simp only[okB,nwF,Bool.and_eq_true,decide_eq_true_eq] at hok
 have h5:=hok.2.1
 have h6:=hok.2.2
 clear hok
 have e2:n / 256%256=n / 256:=by omega
 go_enter Tryz.func47,Tryz.ntmps47
 go_wp2_with (first
  |(at_builtin;refine wpList_append_rd (k:= .u8) rfl _ _ 29 rfl base 5 i0 1 Tryz.underlying29 hi hz0 hz1 hz2 v1 (B++X) rfl (OwB.below o1 (box_below w1 _)) _ [n / 256,n%256] rfl (rd_lit w1 [n / 256,n%256] 5 (by simp) (by simp[maxLen])) (by unfold maxLen;simp[LB_len];omega) (by simp[LB_len];omega) (by rw[size_al];omega) ?_;intro v2 w2 p2 g2;have o2:OwB base w2 v2 (B++X++[n / 256,n%256]):=p2;have l2:=ll.trans ((Lay.new hs1 (box_below w1 _)).trans (Lay.app (OwB.below o1 (box_below w1 _)) (by rw[size_al];omega) g2)))
  |(go_at_call 77;refine (cB _).mono ?_;rintro e q ⟨rfl,hw⟩;obtain rfl:=hw.symm)
  |(go_at_call 79;refine cC.mono ?_;rintro e w1 ⟨v1,rfl,o1,l1⟩;have st1:=sw.agr l1.agr rfl (fun h=>h);have f0:=st1.cell 0 _ rfl;have f1:=st1.cell 1 _ rfl;have f2:=st1.cell 2 _ rfl;have f3:=st1.cell 3 _ rfl;have ll:=lw.trans l1;have hs1:base≤w1.heap.size:=Nat.le_trans hb ll.below.size))
 go_ret
 refine ⟨v2,rfl, ?_,l2⟩
 have:=o2
 rw[List.append_assoc] at this;simp only[beQ];rw[e2];exact this
set_option maxHeartbeats 4000000 in
set_option maxRecDepth 100000 in
theorem w_lay6 (base:Nat) (v:Value) (B:List Int) (c n o:Int) (S:ByteArray) (wide:Bool) (w:World) (hB:OwB base w v B) (hb:base≤w.heap.size) (hl:B.length≤8192) (n0:0≤n) (n1:n < 4294967296) (hs:S.size≤maxLen) (hc:cdd c=true) (hk:bhF c=6) (hok:okB 6 ⟨c,n,LB S,o⟩ wide=true):
  Calls Tryz.prog 47 #[v, .agg #[.int .i64 c, .int .u32 n, .string S, .int .i64 o], .bool wide] w fun e w'=>∃v',e= .returned v'∧OwB base w' v' (B++(cbF c++beQ 6 ⟨c,n,LB S,o⟩ wide))∧Lay base w w':=by
 obtain ⟨i0,hi,hz0,hz1,hz2⟩:=info_parts infoU8
 have cB:=fun w=>w_behind c w
 rw[hk] at cB
 have bw:=box_below w (.cells #[.int .i64 c, .int .u32 n, .string S, .int .i64 o] 40)
 have sw:=stands_new w #[.int .i64 c, .int .u32 n, .string S, .int .i64 o] 40
 have hw0:base≤(w.alloc (.cells #[.int .i64 c, .int .u32 n, .string S, .int .i64 o] 40)).heap.size:=by rw[size_al];omega
 have cC:=w_layCode base v B c _ (hB.below bw) hw0 (by omega) hc
 have lw:=Lay.new hb bw
 have hcl:(cbF c).length≤2:=by unfold cbF;split <;> simp
 clear hk hc
 obtain ⟨X,hX⟩:∃X,cbF c=X:=⟨_,rfl⟩
 rw[hX] at cC hcl ⊢
 clear hX
 simp only[okB,nwF,Bool.and_eq_true,decide_eq_true_eq,LB_len] at hok
 have hS0:=hok.1.2
 have h5:=hok.2.1
 have h6:=hok.2.2
 clear hok
 have hS:S.size≤255:=by omega
 have e2:n / 256%256=n / 256:=by omega
 go_enter Tryz.func47,Tryz.ntmps47
 go_wp2_with (first
  |(at_builtin;refine wpList_append_rd (k:= .u8) rfl _ _ 29 rfl base 5 i0 1 Tryz.underlying29 hi hz0 hz1 hz2 v2 ((B++X)++((LB S).length:Int)::LB S) rfl (OwB.below o2 (box_below w2 _)) _ [n / 256,n%256] rfl (rd_lit w2 [n / 256,n%256] 5 (by simp) (by simp[maxLen])) (by unfold maxLen;simp[LB_len];omega) (by simp[LB_len];omega) (by rw[size_al];omega) ?_;intro v3 w3 p3 g3;have o3:OwB base w3 v3 ((B++X)++((LB S).length:Int)::LB S++[n / 256,n%256]):=p3;have l3:=l2.trans ((Lay.new hs2 (box_below w2 _)).trans (Lay.app (OwB.below o2 (box_below w2 _)) (by rw[size_al];omega) g3)))
  |(go_at_call 80;refine (w_layText base v1 (B++X) S _ o1 hs1 (by simp;omega) hS).mono ?_;rintro e w2 ⟨v2,rfl,o2,m2⟩;have st2:=st1.agr m2.agr rfl (fun h=>h);have e1:=st2.cell 1 _ rfl;have l2:=ll.trans m2;have hs2:base≤w2.heap.size:=Nat.le_trans hb l2.below.size)
  |(go_at_call 77;refine (cB _).mono ?_;rintro e q ⟨rfl,hw⟩;obtain rfl:=hw.symm)
  |(go_at_call 79;refine cC.mono ?_;rintro e w1 ⟨v1,rfl,o1,l1⟩;have st1:=sw.agr l1.agr rfl (fun h=>h);have f0:=st1.cell 0 _ rfl;have f1:=st1.cell 1 _ rfl;have f2:=st1.cell 2 _ rfl;have f3:=st1.cell 3 _ rfl;have ll:=lw.trans l1;have hs1:base≤w1.heap.size:=Nat.le_trans hb ll.below.size))
 go_ret
 refine ⟨v3,rfl, ?_,l3⟩
 have:=o3
 simp only[List.append_assoc,List.cons_append] at this;simp only[beQ];rw[e2];exact this
theorem w_lay (base:Nat) (v:Value) (B:List Int) (c n o:Int) (S:ByteArray) (wide:Bool) (w:World) (hB:OwB base w v B) (hb:base≤w.heap.size) (hl:B.length≤8192) (n0:0≤n) (n1:n < 4294967296) (hs:S.size≤maxLen) (hok:okQ ⟨c,n,LB S,o⟩ wide=true):
  Calls Tryz.prog 47 #[v, .agg #[.int .i64 c, .int .u32 n, .string S, .int .i64 o], .bool wide] w fun e w'=>∃v',e= .returned v'∧OwB base w' v' (B++byQ ⟨c,n,LB S,o⟩ wide)∧Lay base w w':=by
 simp only[okQ,Bool.and_eq_true] at hok
 obtain ⟨hc,hok⟩:=hok
 unfold byQ
 have hk:=bh_le c
 obtain ⟨k,hkk⟩:∃k,bhF c=k:=⟨_,rfl⟩
 rw[hkk] at hok
 simp only[hkk]
 rw[hkk] at hk
 match k,hk with
 |0,_=>exact w_lay0 base v B c n o S wide w hB hb hl n0 n1 hs hc hkk hok
 |1,_=>exact w_lay1 base v B c n o S wide w hB hb hl n0 n1 hs hc hkk hok
 |2,_=>exact w_lay2 base v B c n o S wide w hB hb hl n0 n1 hs hc hkk hok
 |3,_=>exact w_lay3 base v B c n o S wide w hB hb hl n0 n1 hs hc hkk hok
 |4,_=>exact w_lay4 base v B c n o S wide w hB hb hl n0 n1 hs hc hkk hok
 |5,_=>exact w_lay5 base v B c n o S wide w hB hb hl n0 n1 hs hc hkk hok
 |6,_=>exact w_lay6 base v B c n o S wide w hB hb hl n0 n1 hs hc hkk hok
theorem by_len (t:Tq) (w:Bool) (h:okQ t w=true):(byQ t w).length≤260:=by
 obtain ⟨c,n,s,o⟩:=t
 have hcb:∀c,(cbF c).length≤2:=by intro c;unfold cbF;split <;> simp
 simp only[okQ,Bool.and_eq_true] at h
 have h1:=hcb c
 have hk:=bh_le c
 have h2:=h.2
 simp only[byQ,List.length_append]
 revert h2
 generalize bhF c=k at hk
 intro h2
 match k,hk with
 |0,_=>simp only[beQ,List.length_nil];omega
 |1,_=>simp only[beQ,List.length_cons,List.length_nil];omega
 |2,_=>simp only[beQ];have:=hcb n;omega
 |3,_=>simp[okB] at h2;simp only[beQ,List.length_cons];omega
 |4,_=>simp only[beQ];split <;> simp only[List.length_cons,List.length_nil] <;> omega
 |5,_=>simp only[beQ,List.length_cons,List.length_nil];omega
 |6,_=>simp[okB] at h2;simp only[beQ,List.length_cons,List.length_append,List.length_nil];omega
def sizF (t:Tq) (w:Bool):Nat:=if okQ t w then (byQ t w).length else 0
set_option maxHeartbeats 4000000 in
set_option maxRecDepth 100000 in
theorem w_psize (c n o:Int) (S:ByteArray) (wide:Bool) (w:World) (n0:0≤n) (n1:n < 4294967296) (hs:S.size≤maxLen):
  Calls Tryz.prog 94 #[.agg #[.int .i64 c, .int .u32 n, .string S, .int .i64 o], .bool wide] w fun e w'=>e= .returned (.int .i64 (sizF ⟨c,n,LB S,o⟩ wide:Nat))∧Below w.heap.size w w':=by
 have cF:=fun w=>w_formed c n o S wide w n0 n1 hs
 have bw:=box_below w (.cells #[.int .i64 c, .int .u32 n, .string S, .int .i64 o] 40)
 have sw:=stands_new w #[.int .i64 c, .int .u32 n, .string S, .int .i64 o] 40
 cases hk:okQ ⟨c,n,LB S,o⟩ wide with
 |true=>
  have cL:=fun base v B w hB hb hl=>w_lay base v B c n o S wide w hB hb hl n0 n1 hs hk
  have hq:sizF ⟨c,n,LB S,o⟩ wide=(byQ ⟨c,n,LB S,o⟩ wide).length:=by simp[sizF,hk]
  rw[hq]
  rw[hk] at cF
  clear hq hk
  go_enter Tryz.func94,Tryz.ntmps94
  go_wp2_with (first
   |(go_at_call 46;refine (cF _).mono ?_;rintro e w1 ⟨rfl,b1⟩;have st1:=sw.below b1;have f0:=st1.cell 0 _ rfl;have f1:=st1.cell 1 _ rfl;have f2:=st1.cell 2 _ rfl;have f3:=st1.cell 3 _ rfl)
   |(go_at_call 47;refine (cL w1.heap.size _ [] _ (World.ownsRow_nil _ _ _ _) (Nat.le_refl _) (by simp)).mono ?_;rintro e w2 ⟨v2,rfl,o2,l2⟩;rw[List.nil_append] at o2;have hl2:=rd_len (Rd_own o2).1 uB (P:=Tryz.prog)))
  go_ret
  exact ⟨rfl,below_trans bw (below_trans b1 l2.below)⟩
 |false=>
  have hq:sizF ⟨c,n,LB S,o⟩ wide=0:=by simp[sizF,hk]
  rw[hq]
  rw[hk] at cF
  clear hq hk
  go_enter Tryz.func94,Tryz.ntmps94
  go_wp2_with (go_at_call 46;refine (cF _).mono ?_;rintro e w1 ⟨rfl,b1⟩)
  go_ret
  exact ⟨rfl,below_trans bw b1⟩
set_option maxHeartbeats 4000000 in
set_option maxRecDepth 100000 in
theorem w_penc (v:Value) (xs:List Tq) (wide:Bool) (w:World) (h:SlR 4 tqR w v xs) (g:∀t∈xs,gQ t) (gl:∀t∈xs,t.t.length≤maxLen):
  Calls Tryz.prog 25 #[v, .bool wide] w fun e w'=>∃v1,e= .returned (.tuple #[v1, .int .i64 (encF xs wide).2])∧Rd .u8 w' v1 (encF xs wide).1∧Below w.heap.size w w':=by
 have hla:=slr_len h uQ (P:=Tryz.prog)
 have hma:=slr_max h
 unfold maxLen at hma
 obtain ⟨A,E,hAE⟩:∃A E,encF xs wide=(A,E):=⟨_,_,rfl⟩
 have HAE:Hid (finF [] xs wide=(A,E)):=hid hAE
 rw[hAE]
 show Calls _ _ _ _ fun e w'=>∃v,e= .returned (.tuple #[v, .int .i64 E])∧Rd .u8 w' v A∧_
 clear hAE
 go_enter Tryz.func25,Tryz.ntmps25
 go_wp2_with fail
 go_loopw [1,6,11] (fun Wd U I wx=>∃(k:Nat) (B:List Int) (W:Bool),(k:Int)≤xs.length∧I= .int .i64 k∧Wd= .bool W∧OwB w.heap.size wx U B∧(B.length:Int)≤8452∧Hid (finF B (xs.drop k) W=(A,E))∧Below w.heap.size w wx) (fun _ _ I _=>(xs.length - intOf I).toNat)
 case atStart=>exact ⟨0,[],wide,by omega,rfl,rfl,World.ownsRow_nil _ _ _ _,by simp,HAE,Below.refl _ _⟩
 case round=>
  obtain ⟨k,B,W,hk,rfl,rfl,ho,hBl,hF,hb⟩:=hrel
  have hlo:=rd_len (Rd_own ho).1 uB (P:=Tryz.prog)
  by_cases hlt:(k:Int) < xs.length
  ·have hkk:k < xs.length:=by omega
   obtain ⟨b1,o1,C,N,O,T,r1,a0,a1,a2,a3,e0,e1,e2,e3⟩:=tq_at (h.below hb tqR_below) k hkk
   have hg:=g _ (List.getElem_mem hkk)
   have hgl:=gl _ (List.getElem_mem hkk)
   have hT:LB T=xs[k].t:=by rw[←e2];exact LB_nums _ hg.2.2
   have hx:xs[k]=⟨C,N,LB T,O⟩:=by rw[hT,←e0,←e1,←e3]
   have hdr:xs.drop k=xs[k]::xs.drop (k+1):=List.drop_eq_getElem_cons hkk
   rw[hx] at hdr
   have hF2:=hF.out
   rw[hdr] at hF2
   have N0:0≤N:=by rw[←e1];exact hg.1
   have N1:N < 4294967296:=by rw[←e1];exact hg.2.1
   have hTs:T.size≤maxLen:=by rw[←LB_len,hT];exact hgl
   clear hT hx hdr hg hgl e0 e1 e2 e3 hF
   have cF:=fun w=>w_formed C N O T W w N0 N1 hTs
   have cL:=fun base v B w hB hb hl hok=>w_lay base v B C N O T W w hB hb hl N0 N1 hTs hok
   have bw:=box_below wr (.cells #[.int .i64 C, .int .u32 N, .string T, .int .i64 O] 40)
   have sw:=stands_new wr #[.int .i64 C, .int .u32 N, .string T, .int .i64 O] 40
   have hwr:w.heap.size≤wr.heap.size:=hb.size
   cases hq:okQ ⟨C,N,LB T,O⟩ W with
   |false=>
    rw[fin_no _ _ _ _ hq] at hF2
    have HE:=hid hF2
    rw[hq] at cF
    clear hF2 hq cL
    go_wp2_with (go_at_call 46;refine (cF _).mono ?_;rintro e w1 ⟨rfl,q1⟩)
    go_ret2
    have:=HE.out
    injection this with h1 h2
    subst h1 h2
    exact ⟨_,rfl,Rd_nil,below_trans hb (below_trans bw q1)⟩
   |true=>
    rw[hq] at cF
    have hby:=by_len _ _ hq
    by_cases hlong:(B.length:Int)≤8192
    ·rw[fin_ok _ _ _ _ hq] at hF2
     have HF:=hid hF2
     have cL2:=fun base w v hB hb=>cL base v B w hB hb (by omega) hq
     clear hF2 hq cL
     cases W with
     |true=>
      go_wp2_with (first
       |(go_at_call 46;refine (cF _).mono ?_;rintro e w1 ⟨rfl,q1⟩;have st1:=sw.below q1;have f0:=st1.cell 0 _ rfl;have f1:=st1.cell 1 _ rfl;have f2:=st1.cell 2 _ rfl;have f3:=st1.cell 3 _ rfl;have hb1:=below_trans hb (below_trans bw q1))
       |(go_at_call 47;refine (cL2 _ _ _ (OwB.below ho (below_trans bw q1)) hb1.size).mono ?_;rintro e w2 ⟨v2,rfl,o2,l2⟩;have st2:=st1.agr l2.agr rfl (fun h=>h);have p0:=st2.cell 0 _ rfl))
      go_roundw
      case rel=>exact ⟨k+1,_,true,by omega,by go_num,rfl,o2,by rw[List.length_append];omega,HF,hb1.trans l2.below⟩
      case measure=>simp[intOf];omega
     |false=>
      go_wp2_with (first
       |(go_at_call 46;refine (cF _).mono ?_;rintro e w1 ⟨rfl,q1⟩;have st1:=sw.below q1;have f0:=st1.cell 0 _ rfl;have f1:=st1.cell 1 _ rfl;have f2:=st1.cell 2 _ rfl;have f3:=st1.cell 3 _ rfl;have hb1:=below_trans hb (below_trans bw q1))
       |(go_at_call 47;refine (cL2 _ _ _ (OwB.below ho (below_trans bw q1)) hb1.size).mono ?_;rintro e w2 ⟨v2,rfl,o2,l2⟩;have st2:=st1.agr l2.agr rfl (fun h=>h);have p0:=st2.cell 0 _ rfl))
      go_roundw
      case rel=>exact ⟨k+1,_,wdF false C,by omega,by go_num,rfl,o2,by rw[List.length_append];omega,HF,hb1.trans l2.below⟩
      case measure=>simp[intOf];omega
    ·rw[fin_long _ _ _ _ hq (by omega)] at hF2
     have HF:=hid hF2
     clear hF2 hq cL
     cases W with
     |true=>
      go_wp2_with (go_at_call 46;refine (cF _).mono ?_;rintro e w1 ⟨rfl,q1⟩;have st1:=sw.below q1;have f0:=st1.cell 0 _ rfl;have hb1:=below_trans hb (below_trans bw q1))
      go_roundw
      case rel=>exact ⟨k+1,B,true,by omega,by go_num,rfl,OwB.below ho (below_trans bw q1),hBl,HF,hb1⟩
      case measure=>simp[intOf];omega
     |false=>
      go_wp2_with (go_at_call 46;refine (cF _).mono ?_;rintro e w1 ⟨rfl,q1⟩;have st1:=sw.below q1;have f0:=st1.cell 0 _ rfl;have hb1:=below_trans hb (below_trans bw q1))
      go_roundw
      case rel=>exact ⟨k+1,B,wdF false C,by omega,by go_num,rfl,OwB.below ho (below_trans bw q1),hBl,HF,hb1⟩
      case measure=>simp[intOf];omega
  ·have hd:xs.drop k=[]:=List.drop_eq_nil_of_le (by omega)
   have hF2:=hF.out
   rw[hd,fin_end] at hF2
   by_cases hlong:(8192:Int) < B.length
   ·rw[if_pos (by omega)] at hF2
    have HE:=hid hF2
    clear hF2 hd hF
    go_wp2_with fail
    go_ret2
    have:=HE.out
    injection this with h1 h2
    subst h1 h2
    exact ⟨_,rfl,Rd_nil,hb⟩
   ·rw[if_neg (by omega)] at hF2
    have HE:=hid hF2
    clear hF2 hd hF
    go_wp2_with fail
    go_ret2
    have:=HE.out
    injection this with h1 h2
    subst h1 h2
    exact ⟨_,rfl,(Rd_own ho).1,hb⟩
theorem mem_at {w:World} {v:Value} {xs:List Int} (h:Rd .u8 w v xs) (hb:bytesL xs) (i:Int) (h0:0≤i) (h1:i < xs.length):
  ∃(ad:Addr) (b:Int),(∀w',(Instr.indexAt 29 v (.int .i64 i)).run Tryz.prog w'= .ok (.pointer (some ad)) w')∧w.cell? ad=some (.int .u8 b)∧0≤b∧b < 256∧xs.getD i.toNat 0=b:=by
 obtain ⟨ad,h2,h3⟩:=rd_idx h uB zB i h0 h1
 have hm:xs.getD i.toNat 0∈xs:=by
  rw[List.getD_eq_getElem?_getD,List.getElem?_eq_getElem (by omega)]
  simp
 exact ⟨ad,_,h2,h3,(hb _ hm).1,(hb _ hm).2,rfl⟩
theorem take_one (xs:List Int) (p:Nat) (h:p < xs.length):(xs.drop p).take 1=[xs.getD p 0]:=by
 rw[List.drop_eq_getElem_cons h,List.getD_eq_getElem?_getD,List.getElem?_eq_getElem h];rfl
theorem take_more (xs:List Int) (p n:Nat) (h:p < xs.length):(xs.drop p).take (n+1)=xs.getD p 0::(xs.drop (p+1)).take n:=by
 rw[List.drop_eq_getElem_cons h,List.getD_eq_getElem?_getD,List.getElem?_eq_getElem h];rfl
theorem set4 {w:World} {b:Nat} {z0 z1 z2 z3:Value} {T:TypeId} (h:Stands w b #[z0,z1,z2,z3] T) (a0 a1 a2 a3:Value):
  Stands ((((w.setCell ⟨b,0,none⟩ a0).setCell ⟨b,1,none⟩ a1).setCell ⟨b,2,none⟩ a2).setCell ⟨b,3,none⟩ a3) b #[a0,a1,a2,a3] T:=by
 have h4:=(((h.set 0 a0).set 1 a1).set 2 a2).set 3 a3
 simpa only[List.setIfInBounds_toArray,List.set_cons_zero,List.set_cons_succ] using h4
theorem tx_tl (b t r:List Int) (h:txP b=some (t,r)):t.length≤b.length:=by
 match b with
 |[]=>simp[txP] at h
 |k::s=>
  simp only[txP] at h
  split at h
  ·injection h with h;injection h with h1 h2
   subst h1
   simp
   omega
  ·cases h
theorem be_tl (k:Nat) (hk:k≤6) (c:Int) (wide:Bool) (b:List Int) (t:Tq) (r:List Int) (h:bePn k c wide b=some (t,r)):t.t.length≤b.length:=by
 match k,hk with
 |0,_=>simp only[bePn] at h;injection h with h;injection h with h1 h2;subst h1;simp
 |1,_=>simp only[bePn,Option.map_eq_some_iff] at h;obtain ⟨x,_,h2⟩:=h;injection h2 with h3 h4;subst h3;simp
 |2,_=>simp only[bePn,Option.map_eq_some_iff] at h;obtain ⟨x,_,h2⟩:=h;injection h2 with h3 h4;subst h3;simp
 |3,_=>simp only[bePn,Option.map_eq_some_iff] at h;obtain ⟨⟨x,y⟩,h1,h2⟩:=h;injection h2 with h3 h4;subst h3;exact tx_tl b x y h1
 |4,_=>simp only[bePn,Option.map_eq_some_iff] at h;obtain ⟨x,_,h2⟩:=h;injection h2 with h3 h4;subst h3;simp
 |5,_=>simp only[bePn,Option.map_eq_some_iff] at h;obtain ⟨x,_,h2⟩:=h;injection h2 with h3 h4;subst h3;simp
 |6,_=>simp only[bePn,Option.bind_eq_some_iff,Option.map_eq_some_iff] at h;obtain ⟨⟨x,y⟩,h1,z,_,h2⟩:=h;injection h2 with h3 h4;subst h3;exact tx_tl b x y h1
theorem oneP_g (b:List Int) (hb:bytesL b) (wide:Bool) (t:Tq) (r:List Int) (h:oneP b wide=some (t,r)):gQ t∧bytesL r∧t.t.length≤b.length∧r.length < b.length:=by
 simp only[oneP,Option.bind_eq_some_iff] at h
 obtain ⟨⟨c,s⟩,h1,h2⟩:=h
 obtain ⟨q1,q2⟩:=by_cd b hb c s h1
 have hs:bytesL s:=fun x hx=>hb x (by rw[q2];simp[hx])
 obtain ⟨p1,p2,p3⟩:=by_be _ (bh_le c) c wide s hs t r h2
 have hl:=be_tl _ (bh_le c) c wide s t r h2
 have hc:=cb_pos c
 refine ⟨p3,fun x hx=>hs x (by rw[p2];simp[hx]), ?_, ?_⟩
 ·rw[q2,List.length_append];omega
 ·have:=congrArg List.length p2
  rw[List.length_append] at this
  rw[q2,List.length_append]
  omega
theorem dec_nil (n:Nat) (w:Bool):decG n [] w=some []:=by cases n <;> rfl
theorem dec_one (b:List Int) (hb:bytesL b) (hne:0 < b.length) (w:Bool):decG b.length b w=(oneF b w).bind fun x=>(decG x.2.length x.2 (wdF w x.1.c)).map (x.1::·):=by
 match b with
 |[]=>simp at hne
 |a::s=>
  show decG (s.length+1) (a::s) w=_
  simp only[decG]
  cases h:oneF (a::s) w with
  |none=>rfl
  |some x=>
   obtain ⟨t,r⟩:=x
   have h1:=one_lt _ hb w t r h
   have h2:=(by_one _ hb w t r h).2.2.2
   simp only[List.length_cons] at h1
   simp only[Option.bind_some]
   rw[dec_fuel s.length r.length r _ h2 (by omega) (Nat.le_refl _)]
def OwQs (base:Nat) (w:World) (v:Value) (out:List Tq):Prop:=w.ownsRow base 40 4 v out.length (out.flatMap tqC)
theorem OwQs.read {base:Nat} {w:World} {v:Value} {out:List Tq} (h:OwQs base w v out):SlR 4 tqR w v out:=
 slr_rows tqC (fun _ _=>rfl) (by decide) h (fun _ _=>rfl)
def decE:Option (List Tq)→List Tq×Int
 |none=>([],16)
 |some l=>(l,0)
theorem dec_is (l:List Int) (w:Bool) (h:¬8192 < l.length):decF l w=decE (decG l.length l w):=by
 unfold decF
 rw[if_neg h]
 cases decG l.length l w <;> rfl
theorem own_belowQ {w w':World} {base:Nat} {v:Value} {out:List Tq} (h:OwQs base w v out) (g:Below w.heap.size w w'):OwQs base w' v out:=by
 obtain ⟨hl,h⟩:=h
 refine ⟨hl, ?_⟩
 rcases h with h|⟨b,cap,cur,rfl,hb,hg,hc,hm,hs,ht⟩
 ·exact Or.inl h
 ·refine Or.inr ⟨b,cap,cur,rfl,hb, ?_,hc,hm,hs,ht⟩
  rw[g.block b (Array.getElem?_eq_some_iff.1 hg).1]
  exact hg
theorem tq_one (t:Tq):∀u∈tqC t,u.oneCell'=true:=by
 intro u hu
 simp[tqC] at hu
 rcases hu with rfl|rfl|rfl|rfl <;> rfl
def AtLoc (w:World) (v v':Value):Prop:=v'.ownBlock=v.ownBlock∨v'.ownBlock=some w.heap.size
theorem wp_append_at {P:Program} {w:World} {o:Oper} {a:Act} {K:Act→World→Prop} {Q:Exit→Act→World→Prop} (s x:Operand) (t:TypeId)
  (ho:o.op= .call {callee:= .builtin .append,args:=#[s,x],argTypes:=#[t,t]})
  (base:Nat) (e:TypeId) (i:TypeInfo) (z:Value) (sz bytes:Nat) (ht:P.underlying t=some (.slice e)) (hi:P.info? e=some i) (hz:i.zero=some z) (hsize:i.size=sz) (hby:i.bytes=bytes) (hzs:z.cells.size=sz) (hsz:0 < sz)
  (v:Value) (n:Nat) (cs:List Value) (hs:a.eval s=v) (hown:w.ownsRow base e sz v n cs)
  (b m c:Nat) (news:List Value) (hx:a.eval x= .slice (some ⟨b,0,none⟩) m c) (hl:news.length=m*sz) (hnews:∀j u,news[j]? =some u→w.cell? ⟨b,j,none⟩=some u) (h1:∀u∈news,u.oneCell'=true)
  (h63:n+m≤maxLen) (hbytes:(n+m)*bytes≤140737488355328) (hbase:base≤w.heap.size)
  (h:∀v' w',w'.ownsRow base e sz v' (n+m) (cs++news)→w.grownBy w' v.ownBlock→AtLoc w v v'→K (a.put o.dst v') w'):o.wp P a w K Q:=by
 obtain ⟨v',w',hr,h2,h3,h4,h5⟩:=run_append_own_at (P:=P) w base t o.type e i z sz bytes ht hi hz hsize hby hzs hsz v n cs hown ⟨b,0,none⟩ m c news hl (fun j u hj=>by
  have:=hnews j u hj
  by_cases hz:j=0
  ·subst hz;simpa [Addr.add] using this
  ·simpa [Addr.add,hz] using this) h1 h63 hbytes hbase
 unfold Oper.wp execOp
 simp only[ho,resolve,invoke,builtin,Sem.run_bind,Sem.run_pure,Result.andThen_ok,List.map_toArray,List.map_cons,List.map_nil,hs,hx,hr]
 exact h v' w' h2 h3 h5
theorem wpList_append_at {P:Program} {w:World} {ops:Array Oper} {rest:List Oper} {o:Oper} {a:Act} {Q:Exit→Act→World→Prop} (hgd:o.guard=none) (s x:Operand) (t:TypeId)
  (ho:o.op= .call {callee:= .builtin .append,args:=#[s,x],argTypes:=#[t,t]})
  (base:Nat) (e:TypeId) (i:TypeInfo) (z:Value) (sz bytes:Nat) (ht:P.underlying t=some (.slice e)) (hi:P.info? e=some i) (hz:i.zero=some z) (hsize:i.size=sz) (hby:i.bytes=bytes) (hzs:z.cells.size=sz) (hsz:0 < sz)
  (v:Value) (n:Nat) (cs:List Value) (hs:a.eval s=v) (hown:w.ownsRow base e sz v n cs)
  (b m c:Nat) (news:List Value) (hx:a.eval x= .slice (some ⟨b,0,none⟩) m c) (hl:news.length=m*sz) (hnews:∀j u,news[j]? =some u→w.cell? ⟨b,j,none⟩=some u) (h1:∀u∈news,u.oneCell'=true)
  (h63:n+m≤maxLen) (hbytes:(n+m)*bytes≤140737488355328) (hbase:base≤w.heap.size)
  (h:∀v' w',w'.ownsRow base e sz v' (n+m) (cs++news)→w.grownBy w' v.ownBlock→AtLoc w v v'→wpList P ops Q rest (a.put o.dst v') w'):wpList P ops Q (o::rest) a w:=
 wpList_plain hgd fun _ hK=>wp_append_at s x t ho base e i z sz bytes ht hi hz hsize hby hzs hsz v n cs hs hown b m c news hx hl hnews h1 h63 hbytes hbase fun v' w' h2 h3 h4=>hK _ _ (h v' w' h2 h3 h4)
theorem step_append_at {P:Program} {ops:Array Oper} {w:World} {o:Oper} {a:Act} {K:Act→World→Prop} {Q:Exit→Act→World→Prop} {E:Prop} (hgd:o.guard=none) (s x:Operand) (t:TypeId)
  (ho:o.op= .call {callee:= .builtin .append,args:=#[s,x],argTypes:=#[t,t]})
  (base:Nat) (e:TypeId) (i:TypeInfo) (z:Value) (sz bytes:Nat) (ht:P.underlying t=some (.slice e)) (hi:P.info? e=some i) (hz:i.zero=some z) (hsize:i.size=sz) (hby:i.bytes=bytes) (hzs:z.cells.size=sz) (hsz:0 < sz)
  (v:Value) (n:Nat) (cs:List Value) (hs:a.eval s=v) (hown:w.ownsRow base e sz v n cs)
  (b m c:Nat) (news:List Value) (hx:a.eval x= .slice (some ⟨b,0,none⟩) m c) (hl:news.length=m*sz) (hnews:∀j u,news[j]? =some u→w.cell? ⟨b,j,none⟩=some u) (h1:∀u∈news,u.oneCell'=true)
  (h63:n+m≤maxLen) (hbytes:(n+m)*bytes≤140737488355328) (hbase:base≤w.heap.size)
  (h:∀v' w',w'.ownsRow base e sz v' (n+m) (cs++news)→w.grownBy w' v.ownBlock→AtLoc w v v'→K (a.put o.dst v') w'):
  if Region.wanted o (yielded ops a.tmps)=true then Oper.wp P o a w K Q else E:=by
 rw[if_pos (by simp[Region.wanted,hgd])]
 exact wp_append_at s x t ho base e i z sz bytes ht hi hz hsize hby hzs hsz v n cs hs hown b m c news hx hl hnews h1 h63 hbytes hbase h
theorem ret_i {k:IntKind} {a b:Int} (h:a=b):Ending.returned (.int k a)= .returned (.int k b):=by rw[h]
theorem ret_ii {k l:IntKind} {a b c d:Int} (h:a=b) (g:c=d):Ending.returned (.tuple #[.int k a, .int l c])= .returned (.tuple #[.int k b, .int l d]):=by rw[h,g]
theorem ret_ib {k:IntKind} {a b:Int} {c d:Bool} (h:a=b) (g:c=d):Ending.returned (.tuple #[.int k a, .bool c])= .returned (.tuple #[.int k b, .bool d]):=by rw[h,g]
abbrev Gr (w w':World):Prop:=Below w.heap.size w w'
theorem Gr.refl (w:World):Gr w w:=Below.refl _ _
theorem Gr.alloc {w w':World} (h:Gr w w') (c:Array Value) (t:TypeId):Gr w (w'.alloc (.cells c t)):=Below.alloc h h.size _
theorem grown_drewN {W w':World} (h:Gr W w') (n:Nat):Gr W (w'.drewN n):=below_drewN h n
def sm (c:Int):Int:=if 65≤c∧c≤90 then c+32 else c
def dv (c:Int):Int:=if 48≤c∧c≤57 then c - 48 else if 97≤c∧c≤122 then c - 87 else if 65≤c∧c≤90 then c - 55 else 99
def isD (c b:Int):Bool:=decide (2≤b∧b≤36∧dv c < b)
def vl (c b:Int):Int:=if isD c b=true then dv c else 0
theorem sm_bd (c:Int) (h0:0≤c) (h1:c < 256):0≤sm c∧sm c < 256:=by unfold sm;omega
theorem dv_bd (c:Int) (h0:0≤c) (h1:c < 256):0≤dv c∧dv c≤99:=by unfold dv;omega
theorem isD_unfit (c b:Int) (h:b < 2∨36 < b):isD c b=false∧vl c b=0:=by
 have d:isD c b=false:=by unfold isD;simp;omega
 exact ⟨d,by unfold vl;rw[if_neg (by rw[d];decide)]⟩
theorem vl_bd (c b:Int) (h0:0≤c) (h1:c < 256):0≤vl c b∧vl c b≤35:=by
 unfold vl isD
 have:=dv_bd c h0 h1
 split
 ·simp at*;omega
 ·omega
def L (s:ByteArray):List Int:=s.data.toList.map fun c=>(c.toNat:Int)
theorem L_len (s:ByteArray):(L s).length=s.size:=by simp[L]
theorem L_get (s:ByteArray) (k:Nat) (h:k < s.size):(L s)[k]'(by rw[L_len];exact h)=(s[k].toNat:Int):=by
 simp[L];rfl
theorem L_take (s:ByteArray) (k:Nat) (h:k < s.size):(L s).take (k+1)=(L s).take k++[(s[k].toNat:Int)]:=by
 rw[List.take_succ_eq_append_getElem (by rw[L_len];exact h),L_get s k h]
theorem L_drop (s:ByteArray) (k:Nat) (h:k < s.size):(L s).drop k=(s[k].toNat:Int)::(L s).drop (k+1):=by
 rw[List.drop_eq_getElem_cons (by rw[L_len];exact h),L_get s k h]
theorem L_bd (s:ByteArray) (k:Nat) (h:k < s.size):0≤(s[k].toNat:Int)∧(s[k].toNat:Int) < 256:=by
 have:=s[k].toNat_lt;omega
theorem L_extract (s:ByteArray) (a b:Nat) (h:b≤s.size):L (s.extract a b)=((L s).drop a).take (b - a):=by
 unfold L
 rw[Lib.extract_data]
 rw[←List.map_drop,←List.map_take]
theorem L_from (s:ByteArray) (a:Nat):L (s.extract a s.size)=(L s).drop a:=by
 rw[L_extract s a s.size (Nat.le_refl _)]
 exact List.take_of_length_le (by rw[List.length_drop,L_len];exact Nat.le_refl _)
def num (b:Int) (l:List Int):Int:=l.foldl (fun a c=>a*b+vl c b) 0
def allD (b:Int) (l:List Int):Bool:=l.all fun c=>isD c b
theorem num_snoc (b:Int) (l:List Int) (c:Int):num b (l++[c])=num b l*b+vl c b:=by simp[num]
theorem allD_snoc (b:Int) (l:List Int) (c:Int):allD b (l++[c])=(allD b l&&isD c b):=by simp[allD]
theorem allD_mid (b:Int) (l m:List Int) (c:Int) (h:isD c b=false):allD b (l++c::m)=false:=by simp[allD,h]
def prsT (neg:Bool) (l:List Int) (b:Int):Int×Int:=
 if l=[] then (0,15) else if allD b l=false then (0,15) else if 4294967296≤num b l then (0,4) else
 (if neg=true then (4294967296 - num b l)%4294967296 else num b l,0)
def prs (l:List Int) (b:Int):Int×Int:=
 if b < 2∨36 < b then (0,1) else if l.head? =some 45 then prsT true l.tail b else prsT false l b
theorem mul_b (n b:Int) (h0:0≤n) (h1:n < 4294967296) (b0:2≤b) (b1:b≤36):n*2≤n*b∧n*b≤n*36:=
 ⟨Int.mul_le_mul_of_nonneg_left b0 h0,Int.mul_le_mul_of_nonneg_left b1 h0⟩
theorem mul_ge (m b:Int) (h0:4294967296≤m) (b0:2≤b):4294967296≤m*b:=by
 have:m*2≤m*b:=Int.mul_le_mul_of_nonneg_left b0 (by omega)
 omega
def toB (l:List Int):ByteArray:=⟨(l.map fun x=>UInt8.ofNat x.toNat).toArray⟩
theorem toB_L (t:ByteArray):toB (L t)=t:=by
 obtain ⟨⟨l⟩⟩:=t
 simp[toB,L,Function.comp_def]
abbrev Tk:=Int×List Int×Int
inductive Sc
 |btw
 |wrd (w:List Int) (p:Int)
 |cmt
 |par
 |sho (t:List Int) (p:Int)
 |qt (k:Int) (t:List Int) (p:Int)
 |qq (k:Int) (t:List Int) (p:Int)
 |hx (k:Int) (t h:List Int) (p:Int)
 |ert
 |erl
def hexG:Option Int→List Int→Option (List Int)
 |none,[]=>some []
 |some _,[]=>none
 |o,c::r=>if c≤32 then hexG o r else if isD c 16=false then none else
  match o with
  |none=>hexG (some (vl c 16)) r
  |some n=>(hexG none r).map ((n*16+vl c 16)::·)
def spec (w:List Int):Bool:=decide (w=[92]∨w=[40]∨w=[46,40]∨w=[34]∨w=[46,34])
def wend (w:List Int) (p c:Int) (out:List Tk):Sc×List Tk:=
 if w=[92] then (if c=10 then .btw else .cmt,out) else if w=[40] then (.par,out) else if w=[46,40] then (.sho [] p,out)
 else if w=[34] then (.qt 2 [] p,out) else if w=[46,34] then (.qt 3 [] p,out) else (.btw,out++[(1,w.map sm,p)])
def fin (k:Int) (t:List Int) (p:Int) (out:List Tk):Sc×List Tk:=if 255 < t.length then (.erl,out) else (.btw,out++[(k,t,p)])
def step (i c:Int) (s:Sc) (out:List Tk):Sc×List Tk:=
 match s with
 | .btw=>if c≤32 then (.btw,out) else (.wrd [c] i,out)
 | .wrd w p=>if c≤32 then wend w p c out else (.wrd (w++[c]) p,out)
 | .cmt=>(if c=10 then .btw else .cmt,out)
 | .par=>(if c=41 then .btw else .par,out)
 | .sho t p=>if c=41 then fin 3 t p out else (.sho (t++[c]) p,out)
 | .qt k t p=>if c=34 then (.qq k t p,out) else (.qt k (t++[c]) p,out)
 | .qq k t p=>if c=40 then (.hx k t [] p,out) else if c≤32 then fin k t p out else (.ert,out)
 | .hx k t h p=>if c=41 then (match hexG none h with
   |none=>(.ert,out)
   |some b=>(.qt k (t++b) p,out)) else (.hx k t (h++[c]) p,out)
 | .ert=>(.ert,out)
 | .erl=>(.erl,out)
def run (i:Int):List Int→Sc×List Tk→Sc×List Tk
 |[],s=>s
 |c::l,s=>run (i+1) l (step i c s.1 s.2)
def eof (s:Sc×List Tk):List Tk×Int:=
 match s.1 with
 | .btw=>(s.2,0)
 | .cmt=>(s.2,0)
 | .wrd w p=>if w=[92] then (s.2,0) else if spec w=true then ([],15) else (s.2++[(1,w.map sm,p)],0)
 | .qq k t p=>if 255 < t.length then ([],3) else (s.2++[(k,t,p)],0)
 | .ert=>([],15)
 | .erl=>([],3)
 | .par=>([],15)
 | .sho _ _=>([],15)
 | .qt _ _ _=>([],15)
 | .hx _ _ _ _=>([],15)
def cutF (X:List Int):List Tk×Int:=if 4096 < X.length then ([],3) else eof (run 0 X (.btw,[]))
theorem run_app (a b:List Int):∀(i:Int) (s:Sc×List Tk),run i (a++b) s=run (i+a.length) b (run i a s):=by
 induction a with
 |nil=>intro i s;simp[run]
 |cons c a ih=>
  intro i s
  simp only[List.cons_append,run,ih,List.length_cons]
  congr 1
  omega
theorem run_ert (l:List Int) (out:List Tk):∀i,run i l (.ert,out)=(.ert,out):=by
 induction l with
 |nil=>intro i;rfl
 |cons c l ih=>intro i;simp only[run,step];exact ih _
theorem run_erl (l:List Int) (out:List Tk):∀i,run i l (.erl,out)=(.erl,out):=by
 induction l with
 |nil=>intro i;rfl
 |cons c l ih=>intro i;simp only[run,step];exact ih _
def shS (d:Int):Sc→Sc
 | .wrd w p=> .wrd w (p+d)
 | .sho t p=> .sho t (p+d)
 | .qt k t p=> .qt k t (p+d)
 | .qq k t p=> .qq k t (p+d)
 | .hx k t h p=> .hx k t h (p+d)
 | .btw=> .btw
 | .cmt=> .cmt
 | .par=> .par
 | .ert=> .ert
 | .erl=> .erl
def good (k:Int) (t:List Int):Bool:=decide ((k=2∨k=3)∧t.length≤255∨k=1∧t≠[]∧t.map sm=t∧(∀c∈t,32 < c))&& !(decide (k=1)&&spec t)
def pend (k:Int) (t:List Int) (p:Int):Sc:=if k=1 then .wrd t p else .qq k t p
theorem pend_blank (i:Int) (k:Int) (t:List Int) (p:Int) (out:List Tk) (hg:good k t=true):step i 32 (pend k t p) out=(.btw,out++[(k,t,p)]):=by
 simp[good] at hg
 obtain ⟨hg,hs⟩:=hg
 unfold pend
 rcases hg with ⟨hk,hl⟩|⟨rfl,hne,hsm,hbl⟩
 ·rw[if_neg (by omega)]
  simp only[step]
  rw[if_neg (by omega),if_pos (by omega)]
  unfold fin
  rw[if_neg (by omega)]
 ·rw[if_pos rfl]
  have hs2:spec t=false:=by simpa using hs
  simp[spec] at hs2
  simp only[step]
  rw[if_pos (by omega)]
  unfold wend
  rw[if_neg hs2.1,if_neg hs2.2.1,if_neg hs2.2.2.1,if_neg hs2.2.2.2.1,if_neg hs2.2.2.2.2,hsm]
def tkOk (x:Tk):Prop:=good x.1 x.2.1=true∧bytesL x.2.1
def scOk:Sc→Prop
 | .wrd w _=>w≠[]∧∀c∈w,32 < c∧c < 256
 | .sho t _=>bytesL t
 | .qt k t _=>(k=2∨k=3)∧bytesL t
 | .qq k t _=>(k=2∨k=3)∧bytesL t
 | .hx k t h _=>(k=2∨k=3)∧bytesL t∧bytesL h
 | .btw=>True
 | .cmt=>True
 | .par=>True
 | .ert=>True
 | .erl=>True
theorem snoc_ok {P:Int→Prop} {t:List Int} {c:Int} (h:∀x∈t,P x) (hc:P c):∀x∈t++[c],P x:=by
 intro x hx
 rw[List.mem_append] at hx
 rcases hx with hx|hx
 ·exact h x hx
 ·simp at hx;subst hx;exact hc
theorem bytes_join {a b:List Int} (h:bytesL a) (g:bytesL b):bytesL (a++b):=fun x hx=>(List.mem_append.1 hx).elim (h x) (g x)
theorem tks_ok {out:List Tk} {x:Tk} (h:∀y∈out,tkOk y) (hx:tkOk x):∀y∈out++[x],tkOk y:=by
 intro y hy
 rw[List.mem_append] at hy
 rcases hy with hy|hy
 ·exact h y hy
 ·simp at hy;subst hy;exact hx
theorem vl_16 (c:Int):0≤vl c 16∧vl c 16 < 16∨¬(0≤c∧c < 256):=by
 by_cases hc:0≤c∧c < 256
 ·left
  unfold vl
  split
  ·rename_i h
   have:=dv_bd c hc.1 hc.2
   unfold isD at h
   simp at h
   omega
  ·omega
 ·exact Or.inr hc
theorem hexG_bytes:∀(h:List Int) (o:Option Int) (b:List Int),bytesL h→(∀n,o=some n→0≤n∧n < 16)→hexG o h=some b→bytesL b
 |[],none,b,_,_,e=>by
  simp[hexG] at e
  subst e
  intro x hx
  simp at hx
 |[],some n,b,_,_,e=>by simp[hexG] at e
 |c::r,o,b,hb,ho,e=>by
  have hr:bytesL r:=fun x hx=>hb x (by simp[hx])
  have hc:=hb c (by simp)
  have hv:0≤vl c 16∧vl c 16 < 16:=by
   rcases vl_16 c with h|h
   ·exact h
   ·exact absurd hc h
  cases o with
  |none=>
   simp only[hexG] at e
   split at e
   ·exact hexG_bytes r none b hr ho e
   ·split at e
    ·cases e
    ·exact hexG_bytes r _ b hr (fun n hn=>by cases hn;exact hv) e
  |some n=>
   simp only[hexG] at e
   split at e
   ·exact hexG_bytes r _ b hr ho e
   ·split at e
    ·cases e
    ·have hn:=ho n rfl
     simp only[Option.map_eq_some_iff] at e
     obtain ⟨b',e1,rfl⟩:=e
     have i:=hexG_bytes r none b' hr (fun m hm=>by cases hm) e1
     intro x hx
     rw[List.mem_cons] at hx
     rcases hx with rfl|hx
     ·omega
     ·exact i x hx
theorem sm_sm (c:Int):sm (sm c)=sm c:=by unfold sm;omega
theorem sm_hi (c:Int) (h:32 < c):32 < sm c:=by unfold sm;omega
theorem sm_spec (w:List Int):spec (w.map sm)=spec w:=by
 have h:∀c k:Int,(k=92∨k=40∨k=46∨k=34)→(sm c=k↔c=k):=by intro c k hk;unfold sm;omega
 unfold spec
 congr 1
 have l1:∀k:Int,(k=92∨k=40∨k=46∨k=34)→(w.map sm=[k]↔w=[k]):=by
  intro k hk
  match w with
  |[]=>simp
  |[a]=>simp[h a k hk]
  |_::_::_=>simp
 have l2:∀k j:Int,(k=92∨k=40∨k=46∨k=34)→(j=92∨j=40∨j=46∨j=34)→(w.map sm=[k,j]↔w=[k,j]):=by
  intro k j hk hj
  match w with
  |[]=>simp
  |[a]=>simp
  |[a,b]=>simp[h a k hk,h b j hj]
  |_::_::_::_=>simp
 rw[l1 92 (by omega),l1 40 (by omega),l2 46 40 (by omega) (by omega),l1 34 (by omega),l2 46 34 (by omega) (by omega)]
theorem word_ok (w:List Int) (p:Int) (h1:w≠[]) (h2:∀c∈w,32 < c∧c < 256) (h3:spec w=false):tkOk (1,w.map sm,p):=by
 refine ⟨?_, ?_⟩
 ·simp only[good]
  rw[sm_spec,h3]
  simp[h1,sm_sm]
  intro c hc
  exact sm_hi c (h2 c hc).1
 ·intro x hx
  simp only[List.mem_map] at hx
  obtain ⟨c,hc,rfl⟩:=hx
  have:=h2 c hc
  exact sm_bd c (by omega) (by omega)
theorem text_ok (k:Int) (t:List Int) (p:Int) (hk:k=2∨k=3) (hb:bytesL t) (hl:¬255 < t.length):tkOk (k,t,p):=by
 refine ⟨?_,hb⟩
 have:¬k=1:=by omega
 simp[good,this,hk]
 omega
theorem step_ok (i c:Int) (h0:0≤c) (h1:c < 256) (s:Sc) (out:List Tk) (hs:scOk s) (ho:∀x∈out,tkOk x):scOk (step i c s out).1∧∀x∈(step i c s out).2,tkOk x:=by
 cases s with
 |btw=>
  simp only[step]
  split
  ·exact ⟨trivial,ho⟩
  ·exact ⟨⟨by simp,by simp;omega⟩,ho⟩
 |wrd w p=>
  simp only[step]
  split
  ·unfold wend
   split
   ·refine ⟨?_,ho⟩
    show scOk (if c=10 then Sc.btw else Sc.cmt)
    split <;> trivial
   ·split
    ·exact ⟨trivial,ho⟩
    ·split
     ·exact ⟨fun x hx=>by simp at hx,ho⟩
     ·split
      ·exact ⟨⟨Or.inl rfl,fun x hx=>by simp at hx⟩,ho⟩
      ·split
       ·exact ⟨⟨Or.inr rfl,fun x hx=>by simp at hx⟩,ho⟩
       ·rename_i n1 n2 n3 n4 n5
        exact ⟨trivial,tks_ok ho (word_ok w p hs.1 hs.2 (by simp[spec,n1,n2,n3,n4,n5]))⟩
  ·exact ⟨⟨by simp,snoc_ok hs.2 ⟨by omega,h1⟩⟩,ho⟩
 |cmt=>simp only[step];refine ⟨?_,ho⟩;split <;> trivial
 |par=>simp only[step];refine ⟨?_,ho⟩;split <;> trivial
 |sho t p=>
  simp only[step]
  split
  ·unfold fin
   split
   ·exact ⟨trivial,ho⟩
   ·rename_i hl
    exact ⟨trivial,tks_ok ho (text_ok 3 t p (Or.inr rfl) hs hl)⟩
  ·exact ⟨snoc_ok hs ⟨h0,h1⟩,ho⟩
 |qt k t p=>
  simp only[step]
  split
  ·exact ⟨hs,ho⟩
  ·exact ⟨⟨hs.1,snoc_ok hs.2 ⟨h0,h1⟩⟩,ho⟩
 |qq k t p=>
  simp only[step]
  split
  ·exact ⟨⟨hs.1,hs.2,fun x hx=>by simp at hx⟩,ho⟩
  ·split
   ·unfold fin
    split
    ·exact ⟨trivial,ho⟩
    ·rename_i hl
     exact ⟨trivial,tks_ok ho (text_ok k t p hs.1 hs.2 hl)⟩
   ·exact ⟨trivial,ho⟩
 |hx k t h p=>
  simp only[step]
  split
  ·cases hq:hexG none h with
   |none=>exact ⟨trivial,ho⟩
   |some b=>exact ⟨⟨hs.1,bytes_join hs.2.1 (hexG_bytes h none b hs.2.2 (fun n hn=>by cases hn) hq)⟩,ho⟩
  ·exact ⟨⟨hs.1,hs.2.1,snoc_ok hs.2.2 ⟨h0,h1⟩⟩,ho⟩
 |ert=>exact ⟨trivial,ho⟩
 |erl=>exact ⟨trivial,ho⟩
theorem run_ok (l:List Int) (hb:bytesL l):∀(i:Int) (s:Sc) (out:List Tk),scOk s→(∀x∈out,tkOk x)→scOk (run i l (s,out)).1∧∀x∈(run i l (s,out)).2,tkOk x:=by
 induction l with
 |nil=>intro i s out h1 h2;exact ⟨h1,h2⟩
 |cons c l ih=>
  intro i s out h1 h2
  have hc:=hb c (by simp)
  have h3:=step_ok i c hc.1 hc.2 s out h1 h2
  simp only[run]
  exact ih (fun x hx=>hb x (by simp[hx])) _ _ _ h3.1 h3.2
theorem eof_ok (s:Sc) (out x:List Tk) (hs:scOk s) (ho:∀x∈out,tkOk x) (h:(eof (s,out)).1=x):∀y∈x,tkOk y:=by
 subst h
 cases s with
 |btw=>exact ho
 |cmt=>exact ho
 |wrd w p=>
  simp only[eof]
  split
  ·exact ho
  ·split
   ·intro y hy;simp at hy
   ·rename_i h1 h2
    exact tks_ok ho (word_ok w p hs.1 hs.2 (by simpa using h2))
 |qq k t p=>
  simp only[eof]
  split
  ·intro y hy;simp at hy
  ·rename_i hl
   exact tks_ok ho (text_ok k t p hs.1 hs.2 hl)
 |par=>intro y hy;simp[eof] at hy
 |sho t p=>intro y hy;simp[eof] at hy
 |qt k t p=>intro y hy;simp[eof] at hy
 |hx k t h p=>intro y hy;simp[eof] at hy
 |ert=>intro y hy;simp[eof] at hy
 |erl=>intro y hy;simp[eof] at hy
theorem cut_ok (X:List Int) (hb:bytesL X):∀y∈(cutF X).1,tkOk y:=by
 unfold cutF
 split
 ·intro y hy;simp at hy
 ·have h:=run_ok X hb 0 .btw [] trivial (fun x hx=>by simp at hx)
  exact eof_ok _ _ _ h.1 h.2 rfl
def prmL:List (List Int×Int):=[([105],25),([106],26),([101,120,101,99,117,116,101],29),([43],30),([45],31),([42],32),([47],33),([109,111,100],34),([97,110,100],35),([111,114],36),([120,111,114],37),([105,110,118,101,114,116],38),([108,115,104,105,102,116],39),([114,115,104,105,102,116],40),([62,62,97],41),([47,109,111,100],42),([117,47,109,111,100],43),([110,101,103,97,116,101],44),([97,98,115],45),([109,105,110],46),([109,97,120],47),([62,114],48),([114,62],49),([114,64],50),([48,61],52),([48,60,62],53),([48,60],54),([48,60,61],55),([48,62],56),([48,62,61],57),([60],58),([62],59),([61],60),([60,62],61),([117,62],62),([117,60,61],63),([117,60],64),([117,62,61],65),([62,61],66),([60,61],67),([100,114,111,112],70),([100,117,112],71),([111,118,101,114],72),([115,119,97,112],73),([114,111,116],74),([45,114,111,116],75),([116,117,99,107],76),([110,105,112],77),([112,105,99,107],78),([114,111,108,108],79),([63,100,117,112],80),([100,101,112,116,104],81),([50,100,114,111,112],82),([50,100,117,112],83),([50,111,118,101,114],84),([50,115,119,97,112],85),([50,114,111,116],86),([50,47],87),([117,50,47],88),([50,42],89),([43,33],108),([64],109),([119,64],111),([99,64],113),([33],114),([119,33],116),([99,33],117),([109,111,118,101],120),([102,105,108,108],121),([99,111,109,112],122),([108,98,115,112,108,105,116],126),([98,108,106,111,105,110],127),([119,98,102,108,105,112],128),([117,112,99],129),([108,99,99],130),([117,110,108,111,111,112],137),([97,108,108,111,99,45,109,101,109],139),([101,109,105,116],143),([116,121,112,101],144),([99,114],146),([117,46],155),([46],157),([98,97,115,101,33],160),([45,49],164),([48],165),([49],166),([50],167),([51],168),([98,108],169),([104,101,114,101],173),([117,109,42],212),([117,109,47,109,111,100],213),([100,43],216),([100,45],217),([112,114,111,112,101,114,116,121],272),([101,110,99,111,100,101,45,105,110,116],273),([101,110,99,111,100,101,43],274),([101,110,99,111,100,101,45,115,116,114,105,110,103],276),([110,101,119,45,100,101,118,105,99,101],287),([102,105,110,105,115,104,45,100,101,118,105,99,101],295),([115,109,47,114,101,109],469),([109,121,45,115,101,108,102],515),([109,121,45,112,97,114,101,110,116],522),([36,99,97,108,108,45,109,101,116,104,111,100],526),([99,97,116,99,104],535),([116,104,114,111,119],536),([103,101,116,45,109,121,45,112,114,111,112,101,114,116,121],538),([100,101,99,111,100,101,45,105,110,116],539),([100,101,99,111,100,101,45,115,116,114,105,110,103],540),([100,101,108,101,116,101,45,112,114,111,112,101,114,116,121],542),([102,109,47,109,111,100],725)]
def okC (c:Int):Bool:=decide (33≤c∧c≤126∧¬(65≤c∧c≤90))
def namF (s:List Int):Bool:=s.all okC&&decide (1≤s.length∧s.length≤31)
theorem prm_len:prmL.length=111:=by decide+kernel
def tabW:List (List Int×List Int):=[([105,102],[20]),([119,104,105,108,101],[20]),([117,110,116,105,108],[20]),([101,108,115,101],[19,178]),([114,101,112,101,97,116],[19,178]),([116,104,101,110],[178]),([98,101,103,105,110],[177]),([97,103,97,105,110],[19]),([100,111],[23]),([63,100,111],[24]),([108,111,111,112],[21]),([43,108,111,111,112],[22]),([108,101,97,118,101],[27]),([99,97,115,101],[196]),([111,102],[28]),([101,110,100,111,102],[198]),([101,110,100,99,97,115,101],[197])]
def byW:List (List Int×Int):=[([99,111,110,115,116,97,110,116],186),([118,97,108,117,101],184),([105,110,115,116,97,110,99,101],184),([118,97,114,105,97,98,108,101],185),([100,101,102,101,114],188),([98,117,102,102,101,114,58],189)]
def tabF (w:List Int):Option (List Int):=(tabW.find? (fun x=>decide (x.1=w))).map (·.2)
def byF (w:List Int):Option Int:=(byW.find? (fun x=>decide (x.1=w))).map (·.2)
structure Fw where
 og:List Int
 ds:List Int
 lp:List Int
 cs:List (Int×List Int)
 pr:List (Int×Int)
def lstW (l:List Int):Option (List Int×Int):=match l.getLast? with
 |none=>none
 |some x=>some (l.dropLast,x)
def flwF (f:Fw) (c n:Int) (back:Bool):Option Fw:=
 if c=177 then some {f with ds:=f.ds++[n]}
 else if (c=19∨c=20)∧back=true then (lstW f.ds).map fun x=>{f with ds:=x.1,pr:=f.pr++[(n,x.2)]}
 else if c=20 then some {f with og:=f.og++[n]}
 else if c=19 then (lstW f.og).map fun x=>{f with og:=x.1++[n,x.2]}
 else if c=178 then (lstW f.og).map fun x=>{f with og:=x.1,pr:=f.pr++[(x.2,n)]}
 else if c=23∨c=24 then some {f with lp:=f.lp++[n]}
 else if c=21∨c=22 then (lstW f.lp).map fun x=>{f with lp:=x.1,pr:=f.pr++[(n,x.2),(x.2,n)]}
 else if c=27 then if f.lp=[] then none else some f
 else if c=196 then some {f with cs:=f.cs++[(-1,[])]}
 else match f.cs.getLast? with
  |none=>none
  |some x=>
   if decide (x.1= -1)=decide (c=198) then none
   else if c=28 then some {f with cs:=f.cs.dropLast++[(n,x.2)]}
   else if c=198 then some {f with cs:=f.cs.dropLast++[(-1,x.2++[n])],pr:=f.pr++[(x.1,n)]}
   else some {f with cs:=f.cs.dropLast,pr:=f.pr++x.2.map (fun i=>(i,n))}
def opnF (f:Fw):Bool:= !(f.og.isEmpty&&f.ds.isEmpty&&f.lp.isEmpty&&f.cs.isEmpty)
structure Mk where
 out:List Tq
 nm:List (List Int×Int)
 nx:Int
 op:Bool
 na:List Int
 co:Int
 fl:Fw
def addT (m:Mk) (c n:Int) (t:List Int):Mk:={m with out:=m.out++[⟨c,n,t,0⟩]}
def fndN (nm:List (List Int×Int)) (s:List Int):Option Int:=match nm.reverse.find? (fun x=>decide (x.1=s)) with
 |some x=>some x.2
 |none=>(prmL.find? (fun x=>decide (x.1=s))).map (·.2)
def nameF:List Tk→Option (List Int×List Tk)
 |[]=>none
 |x::r=>if x.1=1 then some (x.2.1,r) else none
def frshF (m:Mk) (r:List Tk):(Mk×List Int×Int×List Tk) ⊕ Int:=match nameF r with
 |none=> .inr 15
 |some (s,q)=>if namF s=false then .inr 15 else if 4095 < m.nx then .inr 22 else .inl ({m with nx:=m.nx+1},s,m.nx,q)
def layF (back:Bool):List Int→Mk→Option Mk
 |[],m=>some m
 |c::l,m=>match flwF m.fl c m.out.length back with
  |none=>none
  |some f=>layF back l (addT {m with fl:=f} c 0 [])
def specF (m:Mk) (w:List Int) (r:List Tk):Option ((Mk×List Tk) ⊕ Int):=
 if w=[58]∨w=[39]∨(byF w).isSome=true then
  if m.op=true then some (.inr 13)
  else if w=[39] then match nameF r with
   |none=>some (.inr 15)
   |some (s,q)=>match fndN m.nm s with
    |none=>some (.inr 14)
    |some c=>some (.inl (addT m 17 c [],q))
  else if w=[58] then match frshF m r with
   | .inr e=>some (.inr e)
   | .inl (m',s,c,q)=>some (.inl ({addT (addT m' 182 c s) 183 0 [] with op:=true,na:=s,co:=c},q))
  else
   let x:(Mk×List Tk) ⊕ Int:=if w=[105,110,115,116,97,110,99,101] then match nameF r with
     |none=> .inr 15
     |some (s,q)=>if s=[118,97,108,117,101] then .inl (addT m 192 0 [],q) else .inr 15
    else .inl (m,r)
   match x with
   | .inr e=>some (.inr e)
   | .inl (m1,r1)=>match frshF m1 r1 with
    | .inr e=>some (.inr e)
    | .inl (m',s,c,q)=>some (.inl ({addT (addT m' 182 c s) ((byF w).getD 0) 0 [] with nm:=m'.nm++[(s,c)]},q))
 else if w=[59]∨w=[101,120,105,116]∨w=[91,39,93]∨(tabF w).isSome=true then
  if m.op=false then some (.inr 13)
  else if w=[59] then if opnF m.fl=true then some (.inr 13) else some (.inl ({addT m 194 0 [] with op:=false,nm:=m.nm++[(m.na,m.co)]},r))
  else if w=[101,120,105,116] then some (.inl (addT m 51 0 [],r))
  else if w=[91,39,93] then match nameF r with
   |none=>some (.inr 15)
   |some (s,q)=>match fndN m.nm s with
    |none=>some (.inr 14)
    |some c=>some (.inl (addT m 17 c [],q))
  else match layF (decide (w=[97,103,97,105,110]∨w=[117,110,116,105,108]∨w=[114,101,112,101,97,116])) ((tabF w).getD []) m with
   |none=>some (.inr 13)
   |some m'=>some (.inl (m',r))
 else if w=[116,111] then match nameF r with
  |none=>some (.inr 15)
  |some (s,q)=>match fndN m.nm s with
   |none=>some (.inr 14)
   |some c=>some (.inl (addT m 195 c [],q))
 else none
def tok1F (L:List Int→Int×Bool) (m:Mk) (x:Tk) (r:List Tk):(Mk×List Tk) ⊕ Int:=
 if ¬x.1=1 then .inl ((if x.1=3 then addT (addT m 18 0 x.2.1) 144 0 [] else addT m 18 0 x.2.1),r)
 else match specF m x.2.1 r with
  |some y=>y
  |none=>match fndN m.nm x.2.1 with
   |some c=> .inl (addT m c 0 [],r)
   |none=>if (L x.2.1).2=true then .inl (addT m 16 (L x.2.1).1 [],r) else .inr 14
def makG (L:List Int→Int×Bool):Nat→Mk→List Tk→Mk ⊕ Int
 |_,m,[]=> .inl m
 |0,m,_::_=> .inl m
 |n+1,m,x::r=>match tok1F L m x r with
  | .inr e=> .inr e
  | .inl (m',q)=>makG L n m' q
def endsF:Int→List Tq→List Int
 |_,[]=>[]
 |at_,t::l=>(at_+(byQ t true).length)::endsF (at_+(byQ t true).length) l
def offL (ends:List Int):List (Int×Int)→List Tq→List Tq
 |[],l=>l
 |p::r,l=>offL ends r (l.set p.1.toNat {(l.getD p.1.toNat ⟨0,0,[],0⟩) with o:=ends.getD p.2.toNat 0 - (ends.getD p.1.toNat 0 - 2)})
def mk0:Mk:=⟨[],[],2048,false,[],0,⟨[],[],[],[],[]⟩⟩
def toksG (L:List Int→Int×Bool) (t:List Tk):List Tq×Int:=match makG L t.length mk0 t with
 | .inr e=>([],e)
 | .inl m=>if m.op=true then ([],13) else (offL (endsF 0 (addT m 0 0 []).out) m.fl.pr (addT m 0 0 []).out,0)
end Go.Proofs.YtkkehbdahniiaaaGreatDoor
