import Derived.Maps.AppendAt
import Derived.Lib.Strings
import Derived.Test.YtkkehbdahniiaaaGreatDoorB0
set_option linter.unusedVariables false
set_option linter.unusedSimpArgs false
set_option maxRecDepth 100000
namespace Go.Proofs.YtkkehbdahniiaaaGreatDoor
open Go.ChangeShapes Go.WideShapes Go.ChangeAt Go.RowKit
theorem w_isCode (c:Int) (w:World):Calls Tryz.prog 76 #[.int .i64 c] w fun e w'=>e= .returned (.bool (cdd c))∧w'=w:=by
 by_cases h0:c=0
 ·subst h0
  go_enter Tryz.func76,Tryz.ntmps76
  go_wp2_with fail
  go_ret
  exact ⟨rfl,rfl⟩
 ·have hq:(c==0)=false:=by simpa using h0
  by_cases h1:16≤c
  ·have e:cdd c=decide (c≤4095):=by simp[cdd,h0,h1]
   rw[e]
   clear h0 e
   go_enter Tryz.func76,Tryz.ntmps76
   go_wp2_with fail
   go_ret
   exact ⟨rfl,rfl⟩
  ·have e:cdd c=false:=by simp[cdd,h0,h1]
   rw[e]
   clear h0 e
   go_enter Tryz.func76,Tryz.ntmps76
   go_wp2_with fail
   go_ret
   exact ⟨rfl,rfl⟩
set_option maxHeartbeats 4000000 in
theorem w_behind (c:Int) (w:World):Calls Tryz.prog 77 #[.int .i64 c] w fun e w'=>e= .returned (.int .i64 (bhF c:Nat))∧w'=w:=by
 have hc:c=16∨c=17∨c=195∨c=18∨c=19∨c=20∨c=21∨c=22∨c=23∨c=24∨c=28∨c=198∨c=181∨c=182∨c=202∨(¬c=16∧¬c=17∧¬c=195∧¬c=18∧¬c=19∧¬c=20∧¬c=21∧¬c=22∧¬c=23∧¬c=24∧¬c=28∧¬c=198∧¬c=181∧¬c=182∧¬c=202):=by omega
 rcases hc with rfl|rfl|rfl|rfl|rfl|rfl|rfl|rfl|rfl|rfl|rfl|rfl|rfl|rfl|rfl|⟨h0,h1,h2,h3,h4,h5,h6,h7,h8,h9,h10,h11,h12,h13,h14⟩
 ·go_enter Tryz.func77,Tryz.ntmps77
  go_wp2_with fail
  go_ret
  exact ⟨rfl,rfl⟩
 ·go_enter Tryz.func77,Tryz.ntmps77
  go_wp2_with fail
  go_ret
  exact ⟨rfl,rfl⟩
 ·go_enter Tryz.func77,Tryz.ntmps77
  go_wp2_with fail
  go_ret
  exact ⟨rfl,rfl⟩
 ·go_enter Tryz.func77,Tryz.ntmps77
  go_wp2_with fail
  go_ret
  exact ⟨rfl,rfl⟩
 ·go_enter Tryz.func77,Tryz.ntmps77
  go_wp2_with fail
  go_ret
  exact ⟨rfl,rfl⟩
 ·go_enter Tryz.func77,Tryz.ntmps77
  go_wp2_with fail
  go_ret
  exact ⟨rfl,rfl⟩
 ·go_enter Tryz.func77,Tryz.ntmps77
  go_wp2_with fail
  go_ret
  exact ⟨rfl,rfl⟩
 ·go_enter Tryz.func77,Tryz.ntmps77
  go_wp2_with fail
  go_ret
  exact ⟨rfl,rfl⟩
 ·go_enter Tryz.func77,Tryz.ntmps77
  go_wp2_with fail
  go_ret
  exact ⟨rfl,rfl⟩
 ·go_enter Tryz.func77,Tryz.ntmps77
  go_wp2_with fail
  go_ret
  exact ⟨rfl,rfl⟩
 ·go_enter Tryz.func77,Tryz.ntmps77
  go_wp2_with fail
  go_ret
  exact ⟨rfl,rfl⟩
 ·go_enter Tryz.func77,Tryz.ntmps77
  go_wp2_with fail
  go_ret
  exact ⟨rfl,rfl⟩
 ·go_enter Tryz.func77,Tryz.ntmps77
  go_wp2_with fail
  go_ret
  exact ⟨rfl,rfl⟩
 ·go_enter Tryz.func77,Tryz.ntmps77
  go_wp2_with fail
  go_ret
  exact ⟨rfl,rfl⟩
 ·go_enter Tryz.func77,Tryz.ntmps77
  go_wp2_with fail
  go_ret
  exact ⟨rfl,rfl⟩
 ·have e:bhF c=0:=by simp[bhF,h0,h1,h2,h3,h4,h5,h6,h7,h8,h9,h10,h11,h12,h13,h14]
  rw[e]
  have q0:(c==16)=false:=by simpa using h0
  have q1:(c==17)=false:=by simpa using h1
  have q2:(c==195)=false:=by simpa using h2
  have q3:(c==18)=false:=by simpa using h3
  have q4:(c==19)=false:=by simpa using h4
  have q5:(c==20)=false:=by simpa using h5
  have q6:(c==21)=false:=by simpa using h6
  have q7:(c==22)=false:=by simpa using h7
  have q8:(c==23)=false:=by simpa using h8
  have q9:(c==24)=false:=by simpa using h9
  have q10:(c==28)=false:=by simpa using h10
  have q11:(c==198)=false:=by simpa using h11
  have q12:(c==181)=false:=by simpa using h12
  have q13:(c==182)=false:=by simpa using h13
  have q14:(c==202)=false:=by simpa using h14
  clear e h0 h1 h2 h3 h4 h5 h6 h7 h8 h9 h10 h11 h12 h13 h14
  go_enter Tryz.func77,Tryz.ntmps77
  go_wp2_with fail
  go_ret
  exact ⟨rfl,rfl⟩
theorem wrp16 (n:Int):IntKind.i16.wrap n=if 32768≤n%65536 then n%65536 - 65536 else n%65536:=by simp[IntKind.wrap,IntKind.bits,IntKind.signed]
theorem wrp8 (n:Int):IntKind.i8.wrap n=if 128≤n%256 then n%256 - 256 else n%256:=by simp[IntKind.wrap,IntKind.bits,IntKind.signed]
theorem off_wide (n:Int):(n==IntKind.i16.wrap n)=(decide (-32768≤n)&&decide (n≤32767)):=by
 rw[wrp16,Bool.eq_iff_iff]
 simp only[beq_iff_eq,Bool.and_eq_true,decide_eq_true_eq]
 split <;> omega
theorem off_narrow (n:Int):(n==IntKind.i8.wrap n)=(decide (-128≤n)&&decide (n≤127)):=by
 rw[wrp8,Bool.eq_iff_iff]
 simp only[beq_iff_eq,Bool.and_eq_true,decide_eq_true_eq]
 split <;> omega
theorem w_isOffset (n:Int) (wide:Bool) (w:World):Calls Tryz.prog 78 #[.int .i64 n, .bool wide] w fun e w'=>e= .returned (.bool (offF n wide))∧w'=w:=by
 cases wide with
 |true=>
  have e:offF n true=(n==IntKind.i16.wrap n):=by rw[off_wide];rfl
  rw[e]
  have e2:IntKind.i64.wrap (IntKind.i16.wrap n)=IntKind.i16.wrap n:=by rw[IntKind.wrap_i64,wrp16];split <;> omega
  go_enter Tryz.func78,Tryz.ntmps78
  go_wp2_with fail
  go_ret
  exact ⟨rfl,rfl⟩
 |false=>
  have e:offF n false=(n==IntKind.i8.wrap n):=by rw[off_narrow];rfl
  rw[e]
  have e2:IntKind.i64.wrap (IntKind.i8.wrap n)=IntKind.i8.wrap n:=by rw[IntKind.wrap_i64,wrp8];split <;> omega
  go_enter Tryz.func78,Tryz.ntmps78
  go_wp2_with fail
  go_ret
  exact ⟨rfl,rfl⟩
set_option maxHeartbeats 4000000 in
set_option maxRecDepth 100000 in
theorem w_formed0 (c n o:Int) (S:ByteArray) (wide:Bool) (w:World) (n0:0≤n) (n1:n < 4294967296) (hs:S.size≤maxLen) (hc:cdd c=true) (hk:bhF c=0):
  Calls Tryz.prog 46 #[.agg #[.int .i64 c, .int .u32 n, .string S, .int .i64 o], .bool wide] w fun e w'=>e= .returned (.bool (okB 0 ⟨c,n,LB S,o⟩ wide))∧Below w.heap.size w w':=by
 have hs2:=hs
 unfold maxLen at hs2
 have cI:=fun w=>w_isCode c w
 rw[hc] at cI
 have cB:=fun w=>w_behind c w
 rw[hk] at cB
 clear hc hk
 have bw:=box_below w (.cells #[.int .i64 c, .int .u32 n, .string S, .int .i64 o] 40)
 have bm:=fun a b d=>below_trans bw (box_below (w.alloc (.cells #[.int .i64 c, .int .u32 n, .string S, .int .i64 o] 40)) (.cells #[.int .i64 c, .int .u32 a, .string b, .int .i64 d] 40))
 have heq:=fun w=>tq_eql w c n o c 0 0 S ⟨#[]⟩
 have hgd:=fun w x y=>run_eqGuard_agg (P:=Tryz.prog) w .eql 40 x y #[.int .i64 c, .int .u32 n, .string S, .int .i64 o] #[.int .i64 c, .int .u32 0, .string ⟨#[]⟩, .int .i64 0] tq_guard
 go_enter Tryz.func46,Tryz.ntmps46
 go_wp2_with (first
  |(go_at_call_of 76 (Value.int .i64 c);refine (cI _).mono ?_;rintro e w1 ⟨rfl,hw⟩;obtain rfl:=hw.symm)
  |(go_at_call 77;refine (cB _).mono ?_;rintro e w1 ⟨rfl,hw⟩;obtain rfl:=hw.symm))
 go_ret
 refine ⟨ret_b ?_,bm 0 ⟨#[]⟩ 0⟩
 rw[nil_emp,Bool.eq_iff_iff];simp[okB,and_assoc,and_comm,and_left_comm]
set_option maxHeartbeats 4000000 in
set_option maxRecDepth 100000 in
theorem w_formed1 (c n o:Int) (S:ByteArray) (wide:Bool) (w:World) (n0:0≤n) (n1:n < 4294967296) (hs:S.size≤maxLen) (hc:cdd c=true) (hk:bhF c=1):
  Calls Tryz.prog 46 #[.agg #[.int .i64 c, .int .u32 n, .string S, .int .i64 o], .bool wide] w fun e w'=>e= .returned (.bool (okB 1 ⟨c,n,LB S,o⟩ wide))∧Below w.heap.size w w':=by
 have hs2:=hs
 unfold maxLen at hs2
 have cI:=fun w=>w_isCode c w
 rw[hc] at cI
 have cB:=fun w=>w_behind c w
 rw[hk] at cB
 clear hc hk
 have bw:=box_below w (.cells #[.int .i64 c, .int .u32 n, .string S, .int .i64 o] 40)
 have bm:=fun a b d=>below_trans bw (box_below (w.alloc (.cells #[.int .i64 c, .int .u32 n, .string S, .int .i64 o] 40)) (.cells #[.int .i64 c, .int .u32 a, .string b, .int .i64 d] 40))
 have heq:=fun w=>tq_eql w c n o c n 0 S ⟨#[]⟩
 have hgd:=fun w x y=>run_eqGuard_agg (P:=Tryz.prog) w .eql 40 x y #[.int .i64 c, .int .u32 n, .string S, .int .i64 o] #[.int .i64 c, .int .u32 n, .string ⟨#[]⟩, .int .i64 0] tq_guard
 go_enter Tryz.func46,Tryz.ntmps46
 go_wp2_with (first
  |(go_at_call_of 76 (Value.int .i64 c);refine (cI _).mono ?_;rintro e w1 ⟨rfl,hw⟩;obtain rfl:=hw.symm)
  |(go_at_call 77;refine (cB _).mono ?_;rintro e w1 ⟨rfl,hw⟩;obtain rfl:=hw.symm))
 go_ret
 refine ⟨ret_b ?_,bm n ⟨#[]⟩ 0⟩
 rw[nil_emp,Bool.eq_iff_iff];simp[okB,and_assoc,and_comm,and_left_comm]
set_option maxHeartbeats 4000000 in
set_option maxRecDepth 100000 in
theorem w_formed2 (c n o:Int) (S:ByteArray) (wide:Bool) (w:World) (n0:0≤n) (n1:n < 4294967296) (hs:S.size≤maxLen) (hc:cdd c=true) (hk:bhF c=2):
  Calls Tryz.prog 46 #[.agg #[.int .i64 c, .int .u32 n, .string S, .int .i64 o], .bool wide] w fun e w'=>e= .returned (.bool (okB 2 ⟨c,n,LB S,o⟩ wide))∧Below w.heap.size w w':=by
 have hs2:=hs
 unfold maxLen at hs2
 have cI:=fun w=>w_isCode c w
 rw[hc] at cI
 have cB:=fun w=>w_behind c w
 rw[hk] at cB
 clear hc hk
 have bw:=box_below w (.cells #[.int .i64 c, .int .u32 n, .string S, .int .i64 o] 40)
 have bm:=fun a b d=>below_trans bw (box_below (w.alloc (.cells #[.int .i64 c, .int .u32 n, .string S, .int .i64 o] 40)) (.cells #[.int .i64 c, .int .u32 a, .string b, .int .i64 d] 40))
 have cN:=fun w=>w_isCode n w
 cases hN:cdd n with
 |true=>
  rw[hN] at cN
  have heq:=fun w=>tq_eql w c n o c n 0 S ⟨#[]⟩
  have hgd:=fun w x y=>run_eqGuard_agg (P:=Tryz.prog) w .eql 40 x y #[.int .i64 c, .int .u32 n, .string S, .int .i64 o] #[.int .i64 c, .int .u32 n, .string ⟨#[]⟩, .int .i64 0] tq_guard
  go_enter Tryz.func46,Tryz.ntmps46
  go_wp2_with (first
   |(go_at_call_of 76 (Value.int .i64 c);refine (cI _).mono ?_;rintro e w1 ⟨rfl,hw⟩;obtain rfl:=hw.symm)
   |(go_at_call 77;refine (cB _).mono ?_;rintro e w1 ⟨rfl,hw⟩;obtain rfl:=hw.symm)
   |(go_at_call_of 76 (Value.int .i64 n);refine (cN _).mono ?_;rintro e w1 ⟨rfl,hw⟩;obtain rfl:=hw.symm))
  go_ret
  refine ⟨ret_b ?_,bm n ⟨#[]⟩ 0⟩
  rw[nil_emp,Bool.eq_iff_iff];simp[okB,and_assoc,and_comm,and_left_comm,hN]
 |false=>
  rw[hN] at cN
  go_enter Tryz.func46,Tryz.ntmps46
  go_wp2_with (first
   |(go_at_call_of 76 (Value.int .i64 c);refine (cI _).mono ?_;rintro e w1 ⟨rfl,hw⟩;obtain rfl:=hw.symm)
   |(go_at_call 77;refine (cB _).mono ?_;rintro e w1 ⟨rfl,hw⟩;obtain rfl:=hw.symm)
   |(go_at_call_of 76 (Value.int .i64 n);refine (cN _).mono ?_;rintro e w1 ⟨rfl,hw⟩;obtain rfl:=hw.symm))
  go_ret
  refine ⟨ret_b ?_,bm n ⟨#[]⟩ 0⟩
  simp[okB,hN]
set_option maxHeartbeats 4000000 in
set_option maxRecDepth 100000 in
theorem w_formed3 (c n o:Int) (S:ByteArray) (wide:Bool) (w:World) (n0:0≤n) (n1:n < 4294967296) (hs:S.size≤maxLen) (hc:cdd c=true) (hk:bhF c=3):
  Calls Tryz.prog 46 #[.agg #[.int .i64 c, .int .u32 n, .string S, .int .i64 o], .bool wide] w fun e w'=>e= .returned (.bool (okB 3 ⟨c,n,LB S,o⟩ wide))∧Below w.heap.size w w':=by
 have hs2:=hs
 unfold maxLen at hs2
 have cI:=fun w=>w_isCode c w
 rw[hc] at cI
 have cB:=fun w=>w_behind c w
 rw[hk] at cB
 clear hc hk
 have bw:=box_below w (.cells #[.int .i64 c, .int .u32 n, .string S, .int .i64 o] 40)
 have bm:=fun a b d=>below_trans bw (box_below (w.alloc (.cells #[.int .i64 c, .int .u32 n, .string S, .int .i64 o] 40)) (.cells #[.int .i64 c, .int .u32 a, .string b, .int .i64 d] 40))
 by_cases hl:(S.size:Int)≤255
 ·have hd:S.size≤255:=by omega
  have heq:=fun w=>tq_eql w c n o c 0 0 S S
  have hgd:=fun w x y=>run_eqGuard_agg (P:=Tryz.prog) w .eql 40 x y #[.int .i64 c, .int .u32 n, .string S, .int .i64 o] #[.int .i64 c, .int .u32 0, .string S, .int .i64 0] tq_guard
  go_enter Tryz.func46,Tryz.ntmps46
  go_wp2_with (first
   |(go_at_call_of 76 (Value.int .i64 c);refine (cI _).mono ?_;rintro e w1 ⟨rfl,hw⟩;obtain rfl:=hw.symm)
   |(go_at_call 77;refine (cB _).mono ?_;rintro e w1 ⟨rfl,hw⟩;obtain rfl:=hw.symm))
  go_ret
  refine ⟨ret_b ?_,bm 0 S 0⟩
  rw[Bool.eq_iff_iff];simp[okB,LB_len,hd,and_assoc,and_comm,and_left_comm]
 ·have hd:¬S.size≤255:=by omega
  go_enter Tryz.func46,Tryz.ntmps46
  go_wp2_with (first
   |(go_at_call_of 76 (Value.int .i64 c);refine (cI _).mono ?_;rintro e w1 ⟨rfl,hw⟩;obtain rfl:=hw.symm)
   |(go_at_call 77;refine (cB _).mono ?_;rintro e w1 ⟨rfl,hw⟩;obtain rfl:=hw.symm))
  go_ret
  refine ⟨ret_b ?_,bm 0 S 0⟩
  simp[okB,LB_len,hd]
set_option maxHeartbeats 4000000 in
set_option maxRecDepth 100000 in
theorem w_formed4 (c n o:Int) (S:ByteArray) (wide:Bool) (w:World) (n0:0≤n) (n1:n < 4294967296) (hs:S.size≤maxLen) (hc:cdd c=true) (hk:bhF c=4):
  Calls Tryz.prog 46 #[.agg #[.int .i64 c, .int .u32 n, .string S, .int .i64 o], .bool wide] w fun e w'=>e= .returned (.bool (okB 4 ⟨c,n,LB S,o⟩ wide))∧Below w.heap.size w w':=by
 have hs2:=hs
 unfold maxLen at hs2
 have cI:=fun w=>w_isCode c w
 rw[hc] at cI
 have cB:=fun w=>w_behind c w
 rw[hk] at cB
 clear hc hk
 have bw:=box_below w (.cells #[.int .i64 c, .int .u32 n, .string S, .int .i64 o] 40)
 have bm:=fun a b d=>below_trans bw (box_below (w.alloc (.cells #[.int .i64 c, .int .u32 n, .string S, .int .i64 o] 40)) (.cells #[.int .i64 c, .int .u32 a, .string b, .int .i64 d] 40))
 have cO:=fun w=>w_isOffset o wide w
 cases hO:offF o wide with
 |true=>
  rw[hO] at cO
  have heq:=fun w=>tq_eql w c n o c 0 o S ⟨#[]⟩
  have hgd:=fun w x y=>run_eqGuard_agg (P:=Tryz.prog) w .eql 40 x y #[.int .i64 c, .int .u32 n, .string S, .int .i64 o] #[.int .i64 c, .int .u32 0, .string ⟨#[]⟩, .int .i64 o] tq_guard
  go_enter Tryz.func46,Tryz.ntmps46
  go_wp2_with (first
   |(go_at_call_of 76 (Value.int .i64 c);refine (cI _).mono ?_;rintro e w1 ⟨rfl,hw⟩;obtain rfl:=hw.symm)
   |(go_at_call 77;refine (cB _).mono ?_;rintro e w1 ⟨rfl,hw⟩;obtain rfl:=hw.symm)
   |(go_at_call 78;refine (cO _).mono ?_;rintro e w1 ⟨rfl,hw⟩;obtain rfl:=hw.symm))
  go_ret
  refine ⟨ret_b ?_,bm 0 ⟨#[]⟩ o⟩
  rw[nil_emp,Bool.eq_iff_iff];simp[okB,and_assoc,and_comm,and_left_comm,hO]
 |false=>
  rw[hO] at cO
  go_enter Tryz.func46,Tryz.ntmps46
  go_wp2_with (first
   |(go_at_call_of 76 (Value.int .i64 c);refine (cI _).mono ?_;rintro e w1 ⟨rfl,hw⟩;obtain rfl:=hw.symm)
   |(go_at_call 77;refine (cB _).mono ?_;rintro e w1 ⟨rfl,hw⟩;obtain rfl:=hw.symm)
   |(go_at_call 78;refine (cO _).mono ?_;rintro e w1 ⟨rfl,hw⟩;obtain rfl:=hw.symm))
  go_ret
  refine ⟨ret_b ?_,bm 0 ⟨#[]⟩ o⟩
  simp[okB,hO]
set_option maxHeartbeats 4000000 in
set_option maxRecDepth 100000 in
theorem w_formed5 (c n o:Int) (S:ByteArray) (wide:Bool) (w:World) (n0:0≤n) (n1:n < 4294967296) (hs:S.size≤maxLen) (hc:cdd c=true) (hk:bhF c=5):
  Calls Tryz.prog 46 #[.agg #[.int .i64 c, .int .u32 n, .string S, .int .i64 o], .bool wide] w fun e w'=>e= .returned (.bool (okB 5 ⟨c,n,LB S,o⟩ wide))∧Below w.heap.size w w':=by
 have hs2:=hs
 unfold maxLen at hs2
 have cI:=fun w=>w_isCode c w
 rw[hc] at cI
 have cB:=fun w=>w_behind c w
 rw[hk] at cB
 clear hc hk
 have bw:=box_below w (.cells #[.int .i64 c, .int .u32 n, .string S, .int .i64 o] 40)
 have bm:=fun a b d=>below_trans bw (box_below (w.alloc (.cells #[.int .i64 c, .int .u32 n, .string S, .int .i64 o] 40)) (.cells #[.int .i64 c, .int .u32 a, .string b, .int .i64 d] 40))
 by_cases h1:2048≤n
 ·by_cases h2:n≤4095
  ·have hN:nwF n=true:=by simp[nwF,h1,h2]
   have heq:=fun w=>tq_eql w c n o c n 0 S ⟨#[]⟩
   have hgd:=fun w x y=>run_eqGuard_agg (P:=Tryz.prog) w .eql 40 x y #[.int .i64 c, .int .u32 n, .string S, .int .i64 o] #[.int .i64 c, .int .u32 n, .string ⟨#[]⟩, .int .i64 0] tq_guard
   go_enter Tryz.func46,Tryz.ntmps46
   go_wp2_with (first
    |(go_at_call_of 76 (Value.int .i64 c);refine (cI _).mono ?_;rintro e w1 ⟨rfl,hw⟩;obtain rfl:=hw.symm)
    |(go_at_call 77;refine (cB _).mono ?_;rintro e w1 ⟨rfl,hw⟩;obtain rfl:=hw.symm))
   go_ret
   refine ⟨ret_b ?_,bm n ⟨#[]⟩ 0⟩
   rw[nil_emp,Bool.eq_iff_iff];simp[okB,and_assoc,and_comm,and_left_comm,hN]
  ·have hN:nwF n=false:=by simp[nwF,h1,h2]
   go_enter Tryz.func46,Tryz.ntmps46
   go_wp2_with (first
    |(go_at_call_of 76 (Value.int .i64 c);refine (cI _).mono ?_;rintro e w1 ⟨rfl,hw⟩;obtain rfl:=hw.symm)
    |(go_at_call 77;refine (cB _).mono ?_;rintro e w1 ⟨rfl,hw⟩;obtain rfl:=hw.symm))
   go_ret
   refine ⟨ret_b ?_,bm n ⟨#[]⟩ 0⟩
   simp[okB,hN]
 ·have hN:nwF n=false:=by simp[nwF,h1]
  go_enter Tryz.func46,Tryz.ntmps46
  go_wp2_with (first
   |(go_at_call_of 76 (Value.int .i64 c);refine (cI _).mono ?_;rintro e w1 ⟨rfl,hw⟩;obtain rfl:=hw.symm)
   |(go_at_call 77;refine (cB _).mono ?_;rintro e w1 ⟨rfl,hw⟩;obtain rfl:=hw.symm))
  go_ret
  refine ⟨ret_b ?_,bm n ⟨#[]⟩ 0⟩
  simp[okB,hN]
set_option maxHeartbeats 4000000 in
set_option maxRecDepth 100000 in
theorem w_formed6 (c n o:Int) (S:ByteArray) (wide:Bool) (w:World) (n0:0≤n) (n1:n < 4294967296) (hs:S.size≤maxLen) (hc:cdd c=true) (hk:bhF c=6):
  Calls Tryz.prog 46 #[.agg #[.int .i64 c, .int .u32 n, .string S, .int .i64 o], .bool wide] w fun e w'=>e= .returned (.bool (okB 6 ⟨c,n,LB S,o⟩ wide))∧Below w.heap.size w w':=by
 have hs2:=hs
 unfold maxLen at hs2
 have cI:=fun w=>w_isCode c w
 rw[hc] at cI
 have cB:=fun w=>w_behind c w
 rw[hk] at cB
 clear hc hk
 have bw:=box_below w (.cells #[.int .i64 c, .int .u32 n, .string S, .int .i64 o] 40)
 have bm:=fun a b d=>below_trans bw (box_below (w.alloc (.cells #[.int .i64 c, .int .u32 n, .string S, .int .i64 o] 40)) (.cells #[.int .i64 c, .int .u32 a, .string b, .int .i64 d] 40))
 by_cases hl:(S.size:Int)≤31
 ·have hd:S.size≤31:=by omega
  by_cases h1:2048≤n
  ·by_cases h2:n≤4095
   ·have hN:nwF n=true:=by simp[nwF,h1,h2]
    have heq:=fun w=>tq_eql w c n o c n 0 S S
    have hgd:=fun w x y=>run_eqGuard_agg (P:=Tryz.prog) w .eql 40 x y #[.int .i64 c, .int .u32 n, .string S, .int .i64 o] #[.int .i64 c, .int .u32 n, .string S, .int .i64 0] tq_guard
    go_enter Tryz.func46,Tryz.ntmps46
    go_wp2_with (first
     |(go_at_call_of 76 (Value.int .i64 c);refine (cI _).mono ?_;rintro e w1 ⟨rfl,hw⟩;obtain rfl:=hw.symm)
     |(go_at_call 77;refine (cB _).mono ?_;rintro e w1 ⟨rfl,hw⟩;obtain rfl:=hw.symm))
    go_ret
    refine ⟨ret_b ?_,bm n S 0⟩
    rw[Bool.eq_iff_iff];simp[okB,hN,hd,LB_len,and_assoc,and_comm,and_left_comm]
   ·have hN:nwF n=false:=by simp[nwF,h1,h2]
    go_enter Tryz.func46,Tryz.ntmps46
    go_wp2_with (first
     |(go_at_call_of 76 (Value.int .i64 c);refine (cI _).mono ?_;rintro e w1 ⟨rfl,hw⟩;obtain rfl:=hw.symm)
     |(go_at_call 77;refine (cB _).mono ?_;rintro e w1 ⟨rfl,hw⟩;obtain rfl:=hw.symm))
    go_ret
    refine ⟨ret_b ?_,bm n S 0⟩
    simp[okB,hN]
  ·have hN:nwF n=false:=by simp[nwF,h1]
   go_enter Tryz.func46,Tryz.ntmps46
   go_wp2_with (first
    |(go_at_call_of 76 (Value.int .i64 c);refine (cI _).mono ?_;rintro e w1 ⟨rfl,hw⟩;obtain rfl:=hw.symm)
    |(go_at_call 77;refine (cB _).mono ?_;rintro e w1 ⟨rfl,hw⟩;obtain rfl:=hw.symm))
   go_ret
   refine ⟨ret_b ?_,bm n S 0⟩
   simp[okB,hN]
 ·have hd:¬S.size≤31:=by omega
  go_enter Tryz.func46,Tryz.ntmps46
  go_wp2_with (first
   |(go_at_call_of 76 (Value.int .i64 c);refine (cI _).mono ?_;rintro e w1 ⟨rfl,hw⟩;obtain rfl:=hw.symm)
   |(go_at_call 77;refine (cB _).mono ?_;rintro e w1 ⟨rfl,hw⟩;obtain rfl:=hw.symm))
  go_ret
  refine ⟨ret_b ?_,bm n S 0⟩
  simp[okB,hd,LB_len]
theorem w_formed (c n o:Int) (S:ByteArray) (wide:Bool) (w:World) (n0:0≤n) (n1:n < 4294967296) (hs:S.size≤maxLen):
  Calls Tryz.prog 46 #[.agg #[.int .i64 c, .int .u32 n, .string S, .int .i64 o], .bool wide] w fun e w'=>e= .returned (.bool (okQ ⟨c,n,LB S,o⟩ wide))∧Below w.heap.size w w':=by
 cases hc:cdd c with
 |true=>
  have e:okQ ⟨c,n,LB S,o⟩ wide=okB (bhF c) ⟨c,n,LB S,o⟩ wide:=by simp[okQ,hc]
  rw[e]
  have hk:=bh_le c
  obtain ⟨k,hkk⟩:∃k,bhF c=k:=⟨_,rfl⟩
  rw[hkk] at hk ⊢
  match k,hk with
  |0,_=>exact w_formed0 c n o S wide w n0 n1 hs hc hkk
  |1,_=>exact w_formed1 c n o S wide w n0 n1 hs hc hkk
  |2,_=>exact w_formed2 c n o S wide w n0 n1 hs hc hkk
  |3,_=>exact w_formed3 c n o S wide w n0 n1 hs hc hkk
  |4,_=>exact w_formed4 c n o S wide w n0 n1 hs hc hkk
  |5,_=>exact w_formed5 c n o S wide w n0 n1 hs hc hkk
  |6,_=>exact w_formed6 c n o S wide w n0 n1 hs hc hkk
 |false=>
  have e:okQ ⟨c,n,LB S,o⟩ wide=false:=by simp[okQ,hc]
  rw[e]
  have cI:=fun w=>w_isCode c w
  rw[hc] at cI
  have bw:=box_below w (.cells #[.int .i64 c, .int .u32 n, .string S, .int .i64 o] 40)
  clear hc e
  go_enter Tryz.func46,Tryz.ntmps46
  go_wp2_with (go_at_call 76;refine (cI _).mono ?_;rintro e w1 ⟨rfl,hw⟩;obtain rfl:=hw.symm)
  go_ret
  exact ⟨rfl,bw⟩
def OwB (base:Nat) (w:World) (v:Value) (B:List Int):Prop:=w.ownsRow base 5 1 v B.length (B.map (Value.int .u8))
def kB (T:TypeId):Bool:=T==5
def noD (_:Nat):Prop:=False
theorem OwB.below {base:Nat} {w w':World} {v:Value} {B:List Int} (h:OwB base w v B) (g:Below w.heap.size w w'):OwB base w' v B:=own_below h g
structure Lay (base:Nat) (w w':World):Prop where
 below:Below base w w'
 agr:Agr kB noD w w'
theorem Lay.trans {base:Nat} {a b c:World} (h:Lay base a b) (g:Lay base b c):Lay base a c:=⟨h.below.trans g.below,h.agr.trans g.agr⟩
theorem Lay.new {base:Nat} {w w':World} (hb:base≤w.heap.size) (g:Below w.heap.size w w'):Lay base w w':=⟨g.mono hb,Agr.below g⟩
theorem Lay.app {base:Nat} {w w':World} {v:Value} {B:List Int} (h:OwB base w v B) (hb:base≤w.heap.size) (g:w.grownBy w' v.ownBlock):Lay base w w':=
 ⟨(Below.refl base w).grown g hb (fun k hk=>(h.lt k hk).1),Agr.kept (Kept.own h g) rfl⟩
set_option maxHeartbeats 1000000 in
theorem w_layCode (base:Nat) (v:Value) (B:List Int) (c:Int) (w:World) (hB:OwB base w v B) (hb:base≤w.heap.size) (hl:B.length≤100000) (hc:cdd c=true):
  Calls Tryz.prog 79 #[v, .int .i64 c] w fun e w'=>∃v',e= .returned v'∧OwB base w' v' (B++cbF c)∧Lay base w w':=by
 obtain ⟨i0,hi,hz0,hz1,hz2⟩:=info_parts infoU8
 simp only[cdd,Bool.or_eq_true,Bool.and_eq_true,decide_eq_true_eq] at hc
 by_cases h1:c≤255
 ·have e:cbF c=[c]:=by simp[cbF,h1]
  rw[e]
  have hw:IntKind.u8.wrap c=c:=by rw[IntKind.wrap_u8];omega
  have hg:¬255 < c:=by omega
  go_enter Tryz.func79,Tryz.ntmps79
  go_wp2_with (at_builtin;refine wpList_append_rd (k:= .u8) rfl _ _ 29 rfl base 5 i0 1 Tryz.underlying29 hi hz0 hz1 hz2 v B rfl (hB.below (box_below w _)) _ [c] rfl (rd_one w _ _) (by unfold maxLen;simp;omega) (by simp;omega) (by rw[size_al];omega) ?_;intro v1 w1 o1 g1)
  go_ret
  exact ⟨v1,rfl,o1,(Lay.new hb (box_below w _)).trans (Lay.app (hB.below (box_below w _)) (by rw[size_al];omega) g1)⟩
 ·have e:cbF c=[c / 256,c%256]:=by simp[cbF,h1]
  rw[e]
  have hg:255 < c:=by omega
  have hw:IntKind.u8.wrap (c / 256)=c / 256:=by rw[IntKind.wrap_u8];omega
  have hw2:IntKind.u8.wrap c=c%256:=by rw[IntKind.wrap_u8]
  go_enter Tryz.func79,Tryz.ntmps79
  go_wp2_with (first
   |(at_builtin;refine wpList_append_rd (k:= .u8) rfl _ _ 29 rfl base 5 i0 1 Tryz.underlying29 hi hz0 hz1 hz2 v1 (B++[c / 256]) rfl (o2.below (box_below w1 _)) _ [c%256] rfl (rd_one w1 _ _) (by unfold maxLen;simp;omega) (by simp;omega) (by rw[size_al];have:=g2.below.size;omega) ?_;intro v3 w3 o3 g3)
   |(at_builtin;refine wpList_append_rd (k:= .u8) rfl _ _ 29 rfl base 5 i0 1 Tryz.underlying29 hi hz0 hz1 hz2 v B rfl (hB.below (box_below w _)) _ [c / 256] rfl (rd_one w _ _) (by unfold maxLen;simp;omega) (by simp;omega) (by rw[size_al];omega) ?_;intro v1 w1 o1 g1;have o2:OwB base w1 v1 (B++[c / 256]):=o1;have g2:=(Lay.new hb (box_below w _)).trans (Lay.app (hB.below (box_below w _)) (by rw[size_al];omega) g1)))
  go_ret
  exact ⟨v3,rfl,by have:=o3;rw[List.append_assoc] at this;exact this,g2.trans ((Lay.new (Nat.le_trans hb g2.below.size) (box_below w1 _)).trans (Lay.app (o2.below (box_below w1 _)) (by rw[size_al];have:=g2.below.size;omega) g3))⟩
set_option maxHeartbeats 1000000 in
theorem w_layText (base:Nat) (v:Value) (B:List Int) (S:ByteArray) (w:World) (hB:OwB base w v B) (hb:base≤w.heap.size) (hl:B.length≤100000) (hs:S.size≤255):
  Calls Tryz.prog 80 #[v, .string S] w fun e w'=>∃v',e= .returned v'∧OwB base w' v' (B++((LB S).length:Int)::LB S)∧Lay base w w':=by
 obtain ⟨i0,hi,hz0,hz1,hz2⟩:=info_parts infoU8
 rw[LB_len]
 have hw:IntKind.u8.wrap (S.size:Int)=S.size:=by rw[IntKind.wrap_u8];omega
 have hs2:(S.size:Int)≤255:=by omega
 go_enter Tryz.func80,Tryz.ntmps80
 go_wp2_with (first
  |(at_builtin;refine wpList_append_rds rfl _ _ 29 9 rfl base 5 i0 Tryz.underlying29 Tryz.underlying9 hi hz0 hz1 hz2 v1 (B++[(S.size:Int)]) rfl o2 S rfl (by unfold maxLen;simp;omega) (by simp;omega) (by have:=g2.below.size;omega) ?_;intro v3 w3 o3 g3)
  |(at_builtin;refine wpList_append_rd (k:= .u8) rfl _ _ 29 rfl base 5 i0 1 Tryz.underlying29 hi hz0 hz1 hz2 v B rfl (hB.below (box_below w _)) _ [(S.size:Int)] rfl (rd_one w _ _) (by unfold maxLen;simp;omega) (by simp;omega) (by rw[size_al];omega) ?_;intro v1 w1 o1 g1;have o2:OwB base w1 v1 (B++[(S.size:Int)]):=o1;have g2:=(Lay.new hb (box_below w _)).trans (Lay.app (hB.below (box_below w _)) (by rw[size_al];omega) g1)))
 go_ret
 exact ⟨v3,rfl,by have:=o3;rw[List.append_assoc] at this;exact this,g2.trans (Lay.app o2 (by have:=g2.below.size;omega) g3)⟩
set_option maxHeartbeats 4000000 in
set_option maxRecDepth 100000 in
theorem w_lay0 (base:Nat) (v:Value) (B:List Int) (c n o:Int) (S:ByteArray) (wide:Bool) (w:World) (hB:OwB base w v B) (hb:base≤w.heap.size) (hl:B.length≤8192) (n0:0≤n) (n1:n < 4294967296) (hs:S.size≤maxLen) (hc:cdd c=true) (hk:bhF c=0) (hok:okB 0 ⟨c,n,LB S,o⟩ wide=true):
  Calls Tryz.prog 47 #[v, .agg #[.int .i64 c, .int .u32 n, .string S, .int .i64 o], .bool wide] w fun e w'=>∃v',e= .returned v'∧OwB base w' v' (B++(cbF c++beQ 0 ⟨c,n,LB S,o⟩ wide))∧Lay base w w':=by
 obtain ⟨i0,hi,hz0,hz1,hz2⟩:=info_parts infoU8
 have cB:=fun w=>w_behind c w
 rw[hk] at cB
 have bw:=box_below w (.cells #[.int .i64 c, .int .u32 n, .string S, .int .i64 o] 40)
 have sw:=stands_new w #[.int .i64 c, .int .u32 n, .string S, .int .i64 o] 40
 have hw0:base≤(w.alloc (.cells #[.int .i64 c, .int .u32 n, .string S, .int .i64 o] 40)).heap.size:=by rw[size_al];omega
 have cC:=w_layCode base v B c _ (hB.below bw) hw0 (by omega) hc
 have lw:=Lay.new hb bw
 have hcl:(cbF c).length≤2:=by unfold cbF;split <;> simp
 clear hk hc
 obtain ⟨X,hX⟩:∃X,cbF c=X:=⟨_,rfl⟩
 rw[hX] at cC hcl ⊢
 clear hX
 go_enter Tryz.func47,Tryz.ntmps47
 go_wp2_with (first
  |(go_at_call 77;refine (cB _).mono ?_;rintro e q ⟨rfl,hw⟩;obtain rfl:=hw.symm)
  |(go_at_call 79;refine cC.mono ?_;rintro e w1 ⟨v1,rfl,o1,l1⟩;have st1:=sw.agr l1.agr rfl (fun h=>h);have f0:=st1.cell 0 _ rfl;have f1:=st1.cell 1 _ rfl;have f2:=st1.cell 2 _ rfl;have f3:=st1.cell 3 _ rfl;have ll:=lw.trans l1;have hs1:base≤w1.heap.size:=Nat.le_trans hb ll.below.size))
 go_ret
 refine ⟨v1,rfl, ?_,ll⟩
 have:=o1
 simpa [beQ] using this
set_option maxHeartbeats 4000000 in
set_option maxRecDepth 100000 in
theorem w_lay1 (base:Nat) (v:Value) (B:List Int) (c n o:Int) (S:ByteArray) (wide:Bool) (w:World) (hB:OwB base w v B) (hb:base≤w.heap.size) (hl:B.length≤8192) (n0:0≤n) (n1:n < 4294967296) (hs:S.size≤maxLen) (hc:cdd c=true) (hk:bhF c=1) (hok:okB 1 ⟨c,n,LB S,o⟩ wide=true):
  Calls Tryz.prog 47 #[v, .agg #[.int .i64 c, .int .u32 n, .string S, .int .i64 o], .bool wide] w fun e w'=>∃v',e= .returned v'∧OwB base w' v' (B++(cbF c++beQ 1 ⟨c,n,LB S,o⟩ wide))∧Lay base w w':=by
 obtain ⟨i0,hi,hz0,hz1,hz2⟩:=info_parts infoU8
 have cB:=fun w=>w_behind c w
 rw[hk] at cB
 have bw:=box_below w (.cells #[.int .i64 c, .int .u32 n, .string S, .int .i64 o] 40)
 have sw:=stands_new w #[.int .i64 c, .int .u32 n, .string S, .int .i64 o] 40
 have hw0:base≤(w.alloc (.cells #[.int .i64 c, .int .u32 n, .string S, .int .i64 o] 40)).heap.size:=by rw[size_al];omega
 have cC:=w_layCode base v B c _ (hB.below bw) hw0 (by omega) hc
 have lw:=Lay.new hb bw
 have hcl:(cbF c).length≤2:=by unfold cbF;split <;> simp
 clear hk hc
 obtain ⟨X,hX⟩:∃X,cbF c=X:=⟨_,rfl⟩
 rw[hX] at cC hcl ⊢
 clear hX
 have e4:n / 16777216%256=n / 16777216:=by omega
 go_enter Tryz.func47,Tryz.ntmps47
 go_wp2_with (first
  |(at_builtin;refine wpList_append_rd (k:= .u8) rfl _ _ 29 rfl base 5 i0 1 Tryz.underlying29 hi hz0 hz1 hz2 v1 (B++X) rfl (OwB.below o1 (box_below w1 _)) _ [n / 16777216,n / 65536%256,n / 256%256,n%256] rfl (rd_lit w1 [n / 16777216,n / 65536%256,n / 256%256,n%256] 5 (by simp) (by simp[maxLen])) (by unfold maxLen;simp[LB_len];omega) (by simp[LB_len];omega) (by rw[size_al];omega) ?_;intro v2 w2 p2 g2;have o2:OwB base w2 v2 (B++X++[n / 16777216,n / 65536%256,n / 256%256,n%256]):=p2;have l2:=ll.trans ((Lay.new hs1 (box_below w1 _)).trans (Lay.app (OwB.below o1 (box_below w1 _)) (by rw[size_al];omega) g2)))
  |(go_at_call 77;refine (cB _).mono ?_;rintro e q ⟨rfl,hw⟩;obtain rfl:=hw.symm)
  |(go_at_call 79;refine cC.mono ?_;rintro e w1 ⟨v1,rfl,o1,l1⟩;have st1:=sw.agr l1.agr rfl (fun h=>h);have f0:=st1.cell 0 _ rfl;have f1:=st1.cell 1 _ rfl;have f2:=st1.cell 2 _ rfl;have f3:=st1.cell 3 _ rfl;have ll:=lw.trans l1;have hs1:base≤w1.heap.size:=Nat.le_trans hb ll.below.size))
 go_ret
 refine ⟨v2,rfl, ?_,l2⟩
 have:=o2
 rw[List.append_assoc] at this;simp only[beQ];rw[e4];exact this
set_option maxHeartbeats 4000000 in
set_option maxRecDepth 100000 in
theorem w_lay2 (base:Nat) (v:Value) (B:List Int) (c n o:Int) (S:ByteArray) (wide:Bool) (w:World) (hB:OwB base w v B) (hb:base≤w.heap.size) (hl:B.length≤8192) (n0:0≤n) (n1:n < 4294967296) (hs:S.size≤maxLen) (hc:cdd c=true) (hk:bhF c=2) (hok:okB 2 ⟨c,n,LB S,o⟩ wide=true):
  Calls Tryz.prog 47 #[v, .agg #[.int .i64 c, .int .u32 n, .string S, .int .i64 o], .bool wide] w fun e w'=>∃v',e= .returned v'∧OwB base w' v' (B++(cbF c++beQ 2 ⟨c,n,LB S,o⟩ wide))∧Lay base w w':=by
 obtain ⟨i0,hi,hz0,hz1,hz2⟩:=info_parts infoU8
 have cB:=fun w=>w_behind c w
 rw[hk] at cB
 have bw:=box_below w (.cells #[.int .i64 c, .int .u32 n, .string S, .int .i64 o] 40)
 have sw:=stands_new w #[.int .i64 c, .int .u32 n, .string S, .int .i64 o] 40
 have hw0:base≤(w.alloc (.cells #[.int .i64 c, .int .u32 n, .string S, .int .i64 o] 40)).heap.size:=by rw[size_al];omega
 have cC:=w_layCode base v B c _ (hB.below bw) hw0 (by omega) hc
 have lw:=Lay.new hb bw
 have hcl:(cbF c).length≤2:=by unfold cbF;split <;> simp
 clear hk hc
 obtain ⟨X,hX⟩:∃X,cbF c=X:=⟨_,rfl⟩
 rw[hX] at cC hcl ⊢
 clear hX
 simp only[okB,Bool.and_eq_true,decide_eq_true_eq] at hok
 have hN:=hok.2
 clear hok
 go_enter Tryz.func47,Tryz.ntmps47
 go_wp2_with (first
  |(go_at_call 79;refine (w_layCode base v1 (B++X) n _ o1 hs1 (by simp;omega) hN).mono ?_;rintro e w2 ⟨v2,rfl,o2,l2⟩)
  |(go_at_call 77;refine (cB _).mono ?_;rintro e q ⟨rfl,hw⟩;obtain rfl:=hw.symm)
  |(go_at_call 79;refine cC.mono ?_;rintro e w1 ⟨v1,rfl,o1,l1⟩;have st1:=sw.agr l1.agr rfl (fun h=>h);have f0:=st1.cell 0 _ rfl;have f1:=st1.cell 1 _ rfl;have f2:=st1.cell 2 _ rfl;have f3:=st1.cell 3 _ rfl;have ll:=lw.trans l1;have hs1:base≤w1.heap.size:=Nat.le_trans hb ll.below.size))
 go_ret
 refine ⟨v2,rfl, ?_,ll.trans l2⟩
 have:=o2
 rw[List.append_assoc] at this;exact this
set_option maxHeartbeats 4000000 in
set_option maxRecDepth 100000 in
theorem w_lay3 (base:Nat) (v:Value) (B:List Int) (c n o:Int) (S:ByteArray) (wide:Bool) (w:World) (hB:OwB base w v B) (hb:base≤w.heap.size) (hl:B.length≤8192) (n0:0≤n) (n1:n < 4294967296) (hs:S.size≤maxLen) (hc:cdd c=true) (hk:bhF c=3) (hok:okB 3 ⟨c,n,LB S,o⟩ wide=true):
  Calls Tryz.prog 47 #[v, .agg #[.int .i64 c, .int .u32 n, .string S, .int .i64 o], .bool wide] w fun e w'=>∃v',e= .returned v'∧OwB base w' v' (B++(cbF c++beQ 3 ⟨c,n,LB S,o⟩ wide))∧Lay base w w':=by
 obtain ⟨i0,hi,hz0,hz1,hz2⟩:=info_parts infoU8
 have cB:=fun w=>w_behind c w
 rw[hk] at cB
 have bw:=box_below w (.cells #[.int .i64 c, .int .u32 n, .string S, .int .i64 o] 40)
 have sw:=stands_new w #[.int .i64 c, .int .u32 n, .string S, .int .i64 o] 40
 have hw0:base≤(w.alloc (.cells #[.int .i64 c, .int .u32 n, .string S, .int .i64 o] 40)).heap.size:=by rw[size_al];omega
 have cC:=w_layCode base v B c _ (hB.below bw) hw0 (by omega) hc
 have lw:=Lay.new hb bw
 have hcl:(cbF c).length≤2:=by unfold cbF;split <;> simp
 clear hk hc
 obtain ⟨X,hX⟩:∃X,cbF c=X:=⟨_,rfl⟩
 rw[hX] at cC hcl ⊢
 clear hX
 simp only[okB,Bool.and_eq_true,decide_eq_true_eq,LB_len] at hok
 have hS:=hok.2
 clear hok
 go_enter Tryz.func47,Tryz.ntmps47
 go_wp2_with (first
  |(go_at_call 80;refine (w_layText base v1 (B++X) S _ o1 hs1 (by simp;omega) hS).mono ?_;rintro e w2 ⟨v2,rfl,o2,m2⟩;have st2:=st1.agr m2.agr rfl (fun h=>h);have e1:=st2.cell 1 _ rfl;have l2:=ll.trans m2;have hs2:base≤w2.heap.size:=Nat.le_trans hb l2.below.size)
  |(go_at_call 77;refine (cB _).mono ?_;rintro e q ⟨rfl,hw⟩;obtain rfl:=hw.symm)
  |(go_at_call 79;refine cC.mono ?_;rintro e w1 ⟨v1,rfl,o1,l1⟩;have st1:=sw.agr l1.agr rfl (fun h=>h);have f0:=st1.cell 0 _ rfl;have f1:=st1.cell 1 _ rfl;have f2:=st1.cell 2 _ rfl;have f3:=st1.cell 3 _ rfl;have ll:=lw.trans l1;have hs1:base≤w1.heap.size:=Nat.le_trans hb ll.below.size))
 go_ret
 refine ⟨v2,rfl, ?_,l2⟩
 have:=o2
 rw[List.append_assoc] at this;exact this
set_option maxHeartbeats 4000000 in
set_option maxRecDepth 100000 in
theorem w_lay4 (base:Nat) (v:Value) (B:List Int) (c n o:Int) (S:ByteArray) (wide:Bool) (w:World) (hB:OwB base w v B) (hb:base≤w.heap.size) (hl:B.length≤8192) (n0:0≤n) (n1:n < 4294967296) (hs:S.size≤maxLen) (hc:cdd c=true) (hk:bhF c=4) (hok:okB 4 ⟨c,n,LB S,o⟩ wide=true):
  Calls Tryz.prog 47 #[v, .agg #[.int .i64 c, .int .u32 n, .string S, .int .i64 o], .bool wide] w fun e w'=>∃v',e= .returned v'∧OwB base w' v' (B++(cbF c++beQ 4 ⟨c,n,LB S,o⟩ wide))∧Lay base w w':=by
 obtain ⟨i0,hi,hz0,hz1,hz2⟩:=info_parts infoU8
 have cB:=fun w=>w_behind c w
 rw[hk] at cB
 have bw:=box_below w (.cells #[.int .i64 c, .int .u32 n, .string S, .int .i64 o] 40)
 have sw:=stands_new w #[.int .i64 c, .int .u32 n, .string S, .int .i64 o] 40
 have hw0:base≤(w.alloc (.cells #[.int .i64 c, .int .u32 n, .string S, .int .i64 o] 40)).heap.size:=by rw[size_al];omega
 have cC:=w_layCode base v B c _ (hB.below bw) hw0 (by omega) hc
 have lw:=Lay.new hb bw
 have hcl:(cbF c).length≤2:=by unfold cbF;split <;> simp
 clear hk hc
 obtain ⟨X,hX⟩:∃X,cbF c=X:=⟨_,rfl⟩
 rw[hX] at cC hcl ⊢
 clear hX
 cases wide with
 |true=>
  go_enter Tryz.func47,Tryz.ntmps47
  go_wp2_with (first
   |(at_builtin;refine wpList_append_rd (k:= .u8) rfl _ _ 29 rfl base 5 i0 1 Tryz.underlying29 hi hz0 hz1 hz2 v2 (B++X++[o / 256%256]) rfl (OwB.below o2 (box_below w2 _)) _ [o%256] rfl (rd_one w2 _ _) (by unfold maxLen;simp[LB_len];omega) (by simp[LB_len];omega) (by rw[size_al];omega) ?_;intro v3 w3 p3 g3;have o3:OwB base w3 v3 (B++X++[o / 256%256]++[o%256]):=p3;have l3:=l2.trans ((Lay.new hs2 (box_below w2 _)).trans (Lay.app (OwB.below o2 (box_below w2 _)) (by rw[size_al];omega) g3)))
   |(at_builtin;refine wpList_append_rd (k:= .u8) rfl _ _ 29 rfl base 5 i0 1 Tryz.underlying29 hi hz0 hz1 hz2 v1 (B++X) rfl (OwB.below o1 (box_below w1 _)) _ [o / 256%256] rfl (rd_one w1 _ _) (by unfold maxLen;simp[LB_len];omega) (by simp[LB_len];omega) (by rw[size_al];omega) ?_;intro v2 w2 p2 g2;have o2:OwB base w2 v2 (B++X++[o / 256%256]):=p2;have l2:=ll.trans ((Lay.new hs1 (box_below w1 _)).trans (Lay.app (OwB.below o1 (box_below w1 _)) (by rw[size_al];omega) g2));have st2:=st1.agr ((Agr.below (box_below w1 _)).trans (Lay.app (OwB.below o1 (box_below w1 _)) (by rw[size_al];omega) g2).agr) rfl (fun h=>h);have e3:=st2.cell 3 _ rfl;have hs2:base≤w2.heap.size:=Nat.le_trans hb l2.below.size)
   |(go_at_call 77;refine (cB _).mono ?_;rintro e q ⟨rfl,hw⟩;obtain rfl:=hw.symm)
   |(go_at_call 79;refine cC.mono ?_;rintro e w1 ⟨v1,rfl,o1,l1⟩;have st1:=sw.agr l1.agr rfl (fun h=>h);have f0:=st1.cell 0 _ rfl;have f1:=st1.cell 1 _ rfl;have f2:=st1.cell 2 _ rfl;have f3:=st1.cell 3 _ rfl;have ll:=lw.trans l1;have hs1:base≤w1.heap.size:=Nat.le_trans hb ll.below.size))
  go_ret
  refine ⟨v3,rfl, ?_,l3⟩
  have:=o3
  rw[List.append_assoc,List.append_assoc] at this;exact this
 |false=>
  go_enter Tryz.func47,Tryz.ntmps47
  go_wp2_with (first
   |(at_builtin;refine wpList_append_rd (k:= .u8) rfl _ _ 29 rfl base 5 i0 1 Tryz.underlying29 hi hz0 hz1 hz2 v1 (B++X) rfl (OwB.below o1 (box_below w1 _)) _ [o%256] rfl (rd_one w1 _ _) (by unfold maxLen;simp[LB_len];omega) (by simp[LB_len];omega) (by rw[size_al];omega) ?_;intro v2 w2 p2 g2;have o2:OwB base w2 v2 (B++X++[o%256]):=p2;have l2:=ll.trans ((Lay.new hs1 (box_below w1 _)).trans (Lay.app (OwB.below o1 (box_below w1 _)) (by rw[size_al];omega) g2)))
   |(go_at_call 77;refine (cB _).mono ?_;rintro e q ⟨rfl,hw⟩;obtain rfl:=hw.symm)
   |(go_at_call 79;refine cC.mono ?_;rintro e w1 ⟨v1,rfl,o1,l1⟩;have st1:=sw.agr l1.agr rfl (fun h=>h);have f0:=st1.cell 0 _ rfl;have f1:=st1.cell 1 _ rfl;have f2:=st1.cell 2 _ rfl;have f3:=st1.cell 3 _ rfl;have ll:=lw.trans l1;have hs1:base≤w1.heap.size:=Nat.le_trans hb ll.below.size))
  go_ret
  refine ⟨v2,rfl, ?_,l2⟩
  have:=o2
  rw[List.append_assoc] at this;exact this
set_option maxHeartbeats 4000000 in
set_option maxRecDepth 100000 in
theorem w_lay5 (base:Nat) (v:Value) (B:List Int) (c n o:Int) (S:ByteArray) (wide:Bool) (w:World) (hB:OwB base w v B) (hb:base≤w.heap.size) (hl:B.length≤8192) (n0:0≤n) (n1:n < 4294967296) (hs:S.size≤maxLen) (hc:cdd c=true) (hk:bhF c=5) (hok:okB 5 ⟨c,n,LB S,o⟩ wide=true):
  Calls Tryz.prog 47 #[v, .agg #[.int .i64 c, .int .u32 n, .string S, .int .i64 o], .bool wide] w fun e w'=>∃v',e= .returned v'∧OwB base w' v' (B++(cbF c++beQ 5 ⟨c,n,LB S,o⟩ wide))∧Lay base w w':=by
 obtain ⟨i0,hi,hz0,hz1,hz2⟩:=info_parts infoU8
 have cB:=fun w=>w_behind c w
 rw[hk] at cB
 have bw:=box_below w (.cells #[.int .i64 c, .int .u32 n, .string S, .int .i64 o] 40)
 have sw:=stands_new w #[.int .i64 c, .int .u32 n, .string S, .int .i64 o] 40
 have hw0:base≤(w.alloc (.cells #[.int .i64 c, .int .u32 n, .string S, .int .i64 o] 40)).heap.size:=by rw[size_al];omega
 have cC:=w_layCode base v B c _ (hB.below bw) hw0 (by omega) hc
 have lw:=Lay.new hb bw
 have hcl:(cbF c).length≤2:=by unfold cbF;split <;> simp
 clear hk hc
 obtain ⟨X,hX⟩:∃X,cbF c=X:=⟨_,rfl⟩
 rw[hX] at cC hcl ⊢
 clear hX
 simp only[okB,nwF,Bool.and_eq_true,decide_eq_true_eq] at hok
 have h5:=hok.2.1
 have h6:=hok.2.2
 clear hok
 have e2:n / 256%256=n / 256:=by omega
 go_enter Tryz.func47,Tryz.ntmps47
 go_wp2_with (first
  |(at_builtin;refine wpList_append_rd (k:= .u8) rfl _ _ 29 rfl base 5 i0 1 Tryz.underlying29 hi hz0 hz1 hz2 v1 (B++X) rfl (OwB.below o1 (box_below w1 _)) _ [n / 256,n%256] rfl (rd_lit w1 [n / 256,n%256] 5 (by simp) (by simp[maxLen])) (by unfold maxLen;simp[LB_len];omega) (by simp[LB_len];omega) (by rw[size_al];omega) ?_;intro v2 w2 p2 g2;have o2:OwB base w2 v2 (B++X++[n / 256,n%256]):=p2;have l2:=ll.trans ((Lay.new hs1 (box_below w1 _)).trans (Lay.app (OwB.below o1 (box_below w1 _)) (by rw[size_al];omega) g2)))
  |(go_at_call 77;refine (cB _).mono ?_;rintro e q ⟨rfl,hw⟩;obtain rfl:=hw.symm)
  |(go_at_call 79;refine cC.mono ?_;rintro e w1 ⟨v1,rfl,o1,l1⟩;have st1:=sw.agr l1.agr rfl (fun h=>h);have f0:=st1.cell 0 _ rfl;have f1:=st1.cell 1 _ rfl;have f2:=st1.cell 2 _ rfl;have f3:=st1.cell 3 _ rfl;have ll:=lw.trans l1;have hs1:base≤w1.heap.size:=Nat.le_trans hb ll.below.size))
 go_ret
 refine ⟨v2,rfl, ?_,l2⟩
 have:=o2
 rw[List.append_assoc] at this;simp only[beQ];rw[e2];exact this
set_option maxHeartbeats 4000000 in
set_option maxRecDepth 100000 in
theorem w_lay6 (base:Nat) (v:Value) (B:List Int) (c n o:Int) (S:ByteArray) (wide:Bool) (w:World) (hB:OwB base w v B) (hb:base≤w.heap.size) (hl:B.length≤8192) (n0:0≤n) (n1:n < 4294967296) (hs:S.size≤maxLen) (hc:cdd c=true) (hk:bhF c=6) (hok:okB 6 ⟨c,n,LB S,o⟩ wide=true):
  Calls Tryz.prog 47 #[v, .agg #[.int .i64 c, .int .u32 n, .string S, .int .i64 o], .bool wide] w fun e w'=>∃v',e= .returned v'∧OwB base w' v' (B++(cbF c++beQ 6 ⟨c,n,LB S,o⟩ wide))∧Lay base w w':=by
 obtain ⟨i0,hi,hz0,hz1,hz2⟩:=info_parts infoU8
 have cB:=fun w=>w_behind c w
 rw[hk] at cB
 have bw:=box_below w (.cells #[.int .i64 c, .int .u32 n, .string S, .int .i64 o] 40)
 have sw:=stands_new w #[.int .i64 c, .int .u32 n, .string S, .int .i64 o] 40
 have hw0:base≤(w.alloc (.cells #[.int .i64 c, .int .u32 n, .string S, .int .i64 o] 40)).heap.size:=by rw[size_al];omega
 have cC:=w_layCode base v B c _ (hB.below bw) hw0 (by omega) hc
 have lw:=Lay.new hb bw
 have hcl:(cbF c).length≤2:=by unfold cbF;split <;> simp
 clear hk hc
 obtain ⟨X,hX⟩:∃X,cbF c=X:=⟨_,rfl⟩
 rw[hX] at cC hcl ⊢
 clear hX
 simp only[okB,nwF,Bool.and_eq_true,decide_eq_true_eq,LB_len] at hok
 have hS0:=hok.1.2
 have h5:=hok.2.1
 have h6:=hok.2.2
 clear hok
 have hS:S.size≤255:=by omega
 have e2:n / 256%256=n / 256:=by omega
 go_enter Tryz.func47,Tryz.ntmps47
 go_wp2_with (first
  |(at_builtin;refine wpList_append_rd (k:= .u8) rfl _ _ 29 rfl base 5 i0 1 Tryz.underlying29 hi hz0 hz1 hz2 v2 ((B++X)++((LB S).length:Int)::LB S) rfl (OwB.below o2 (box_below w2 _)) _ [n / 256,n%256] rfl (rd_lit w2 [n / 256,n%256] 5 (by simp) (by simp[maxLen])) (by unfold maxLen;simp[LB_len];omega) (by simp[LB_len];omega) (by rw[size_al];omega) ?_;intro v3 w3 p3 g3;have o3:OwB base w3 v3 ((B++X)++((LB S).length:Int)::LB S++[n / 256,n%256]):=p3;have l3:=l2.trans ((Lay.new hs2 (box_below w2 _)).trans (Lay.app (OwB.below o2 (box_below w2 _)) (by rw[size_al];omega) g3)))
  |(go_at_call 80;refine (w_layText base v1 (B++X) S _ o1 hs1 (by simp;omega) hS).mono ?_;rintro e w2 ⟨v2,rfl,o2,m2⟩;have st2:=st1.agr m2.agr rfl (fun h=>h);have e1:=st2.cell 1 _ rfl;have l2:=ll.trans m2;have hs2:base≤w2.heap.size:=Nat.le_trans hb l2.below.size)
  |(go_at_call 77;refine (cB _).mono ?_;rintro e q ⟨rfl,hw⟩;obtain rfl:=hw.symm)
  |(go_at_call 79;refine cC.mono ?_;rintro e w1 ⟨v1,rfl,o1,l1⟩;have st1:=sw.agr l1.agr rfl (fun h=>h);have f0:=st1.cell 0 _ rfl;have f1:=st1.cell 1 _ rfl;have f2:=st1.cell 2 _ rfl;have f3:=st1.cell 3 _ rfl;have ll:=lw.trans l1;have hs1:base≤w1.heap.size:=Nat.le_trans hb ll.below.size))
 go_ret
 refine ⟨v3,rfl, ?_,l3⟩
 have:=o3
 simp only[List.append_assoc,List.cons_append] at this;simp only[beQ];rw[e2];exact this
theorem w_lay (base:Nat) (v:Value) (B:List Int) (c n o:Int) (S:ByteArray) (wide:Bool) (w:World) (hB:OwB base w v B) (hb:base≤w.heap.size) (hl:B.length≤8192) (n0:0≤n) (n1:n < 4294967296) (hs:S.size≤maxLen) (hok:okQ ⟨c,n,LB S,o⟩ wide=true):
  Calls Tryz.prog 47 #[v, .agg #[.int .i64 c, .int .u32 n, .string S, .int .i64 o], .bool wide] w fun e w'=>∃v',e= .returned v'∧OwB base w' v' (B++byQ ⟨c,n,LB S,o⟩ wide)∧Lay base w w':=by
 simp only[okQ,Bool.and_eq_true] at hok
 obtain ⟨hc,hok⟩:=hok
 unfold byQ
 have hk:=bh_le c
 obtain ⟨k,hkk⟩:∃k,bhF c=k:=⟨_,rfl⟩
 rw[hkk] at hok
 simp only[hkk]
 rw[hkk] at hk
 match k,hk with
 |0,_=>exact w_lay0 base v B c n o S wide w hB hb hl n0 n1 hs hc hkk hok
 |1,_=>exact w_lay1 base v B c n o S wide w hB hb hl n0 n1 hs hc hkk hok
 |2,_=>exact w_lay2 base v B c n o S wide w hB hb hl n0 n1 hs hc hkk hok
 |3,_=>exact w_lay3 base v B c n o S wide w hB hb hl n0 n1 hs hc hkk hok
 |4,_=>exact w_lay4 base v B c n o S wide w hB hb hl n0 n1 hs hc hkk hok
 |5,_=>exact w_lay5 base v B c n o S wide w hB hb hl n0 n1 hs hc hkk hok
 |6,_=>exact w_lay6 base v B c n o S wide w hB hb hl n0 n1 hs hc hkk hok
theorem by_len (t:Tq) (w:Bool) (h:okQ t w=true):(byQ t w).length≤260:=by
 obtain ⟨c,n,s,o⟩:=t
 have hcb:∀c,(cbF c).length≤2:=by intro c;unfold cbF;split <;> simp
 simp only[okQ,Bool.and_eq_true] at h
 have h1:=hcb c
 have hk:=bh_le c
 have h2:=h.2
 simp only[byQ,List.length_append]
 revert h2
 generalize bhF c=k at hk
 intro h2
 match k,hk with
 |0,_=>simp only[beQ,List.length_nil];omega
 |1,_=>simp only[beQ,List.length_cons,List.length_nil];omega
 |2,_=>simp only[beQ];have:=hcb n;omega
 |3,_=>simp[okB] at h2;simp only[beQ,List.length_cons];omega
 |4,_=>simp only[beQ];split <;> simp only[List.length_cons,List.length_nil] <;> omega
 |5,_=>simp only[beQ,List.length_cons,List.length_nil];omega
 |6,_=>simp[okB] at h2;simp only[beQ,List.length_cons,List.length_append,List.length_nil];omega
def sizF (t:Tq) (w:Bool):Nat:=if okQ t w then (byQ t w).length else 0
set_option maxHeartbeats 4000000 in
set_option maxRecDepth 100000 in
theorem w_psize (c n o:Int) (S:ByteArray) (wide:Bool) (w:World) (n0:0≤n) (n1:n < 4294967296) (hs:S.size≤maxLen):
  Calls Tryz.prog 94 #[.agg #[.int .i64 c, .int .u32 n, .string S, .int .i64 o], .bool wide] w fun e w'=>e= .returned (.int .i64 (sizF ⟨c,n,LB S,o⟩ wide:Nat))∧Below w.heap.size w w':=by
 have cF:=fun w=>w_formed c n o S wide w n0 n1 hs
 have bw:=box_below w (.cells #[.int .i64 c, .int .u32 n, .string S, .int .i64 o] 40)
 have sw:=stands_new w #[.int .i64 c, .int .u32 n, .string S, .int .i64 o] 40
 cases hk:okQ ⟨c,n,LB S,o⟩ wide with
 |true=>
  have cL:=fun base v B w hB hb hl=>w_lay base v B c n o S wide w hB hb hl n0 n1 hs hk
  have hq:sizF ⟨c,n,LB S,o⟩ wide=(byQ ⟨c,n,LB S,o⟩ wide).length:=by simp[sizF,hk]
  rw[hq]
  rw[hk] at cF
  clear hq hk
  go_enter Tryz.func94,Tryz.ntmps94
  go_wp2_with (first
   |(go_at_call 46;refine (cF _).mono ?_;rintro e w1 ⟨rfl,b1⟩;have st1:=sw.below b1;have f0:=st1.cell 0 _ rfl;have f1:=st1.cell 1 _ rfl;have f2:=st1.cell 2 _ rfl;have f3:=st1.cell 3 _ rfl)
   |(go_at_call 47;refine (cL w1.heap.size _ [] _ (World.ownsRow_nil _ _ _ _) (Nat.le_refl _) (by simp)).mono ?_;rintro e w2 ⟨v2,rfl,o2,l2⟩;rw[List.nil_append] at o2;have hl2:=rd_len (Rd_own o2).1 uB (P:=Tryz.prog)))
  go_ret
  exact ⟨rfl,below_trans bw (below_trans b1 l2.below)⟩
 |false=>
  have hq:sizF ⟨c,n,LB S,o⟩ wide=0:=by simp[sizF,hk]
  rw[hq]
  rw[hk] at cF
  clear hq hk
  go_enter Tryz.func94,Tryz.ntmps94
  go_wp2_with (go_at_call 46;refine (cF _).mono ?_;rintro e w1 ⟨rfl,b1⟩)
  go_ret
  exact ⟨rfl,below_trans bw b1⟩
theorem set4 {w:World} {b:Nat} {z0 z1 z2 z3:Value} {T:TypeId} (h:Stands w b #[z0,z1,z2,z3] T) (a0 a1 a2 a3:Value):
  Stands ((((w.setCell ⟨b,0,none⟩ a0).setCell ⟨b,1,none⟩ a1).setCell ⟨b,2,none⟩ a2).setCell ⟨b,3,none⟩ a3) b #[a0,a1,a2,a3] T:=by
 have h4:=(((h.set 0 a0).set 1 a1).set 2 a2).set 3 a3
 simpa only[List.setIfInBounds_toArray,List.set_cons_zero,List.set_cons_succ] using h4
def OwQs (base:Nat) (w:World) (v:Value) (out:List Tq):Prop:=w.ownsRow base 40 4 v out.length (out.flatMap tqC)
theorem OwQs.read {base:Nat} {w:World} {v:Value} {out:List Tq} (h:OwQs base w v out):SlR 4 tqR w v out:=
 slr_rows tqC (fun _ _=>rfl) (by decide) h (fun _ _=>rfl)
def AtLoc (w:World) (v v':Value):Prop:=v'.ownBlock=v.ownBlock∨v'.ownBlock=some w.heap.size
theorem wp_append_at {P:Program} {w:World} {o:Oper} {a:Act} {K:Act→World→Prop} {Q:Exit→Act→World→Prop} (s x:Operand) (t:TypeId)
  (ho:o.op= .call {callee:= .builtin .append,args:=#[s,x],argTypes:=#[t,t]})
  (base:Nat) (e:TypeId) (i:TypeInfo) (z:Value) (sz bytes:Nat) (ht:P.underlying t=some (.slice e)) (hi:P.info? e=some i) (hz:i.zero=some z) (hsize:i.size=sz) (hby:i.bytes=bytes) (hzs:z.cells.size=sz) (hsz:0 < sz)
  (v:Value) (n:Nat) (cs:List Value) (hs:a.eval s=v) (hown:w.ownsRow base e sz v n cs)
  (b m c:Nat) (news:List Value) (hx:a.eval x= .slice (some ⟨b,0,none⟩) m c) (hl:news.length=m*sz) (hnews:∀j u,news[j]? =some u→w.cell? ⟨b,j,none⟩=some u) (h1:∀u∈news,u.oneCell'=true)
  (h63:n+m≤maxLen) (hbytes:(n+m)*bytes≤140737488355328) (hbase:base≤w.heap.size)
  (h:∀v' w',w'.ownsRow base e sz v' (n+m) (cs++news)→w.grownBy w' v.ownBlock→AtLoc w v v'→K (a.put o.dst v') w'):o.wp P a w K Q:=by
 obtain ⟨v',w',hr,h2,h3,h4,h5⟩:=run_append_own_at (P:=P) w base t o.type e i z sz bytes ht hi hz hsize hby hzs hsz v n cs hown ⟨b,0,none⟩ m c news hl (fun j u hj=>by
  have:=hnews j u hj
  by_cases hz:j=0
  ·subst hz;simpa [Addr.add] using this
  ·simpa [Addr.add,hz] using this) h1 h63 hbytes hbase
 unfold Oper.wp execOp
 simp only[ho,resolve,invoke,builtin,Sem.run_bind,Sem.run_pure,Result.andThen_ok,List.map_toArray,List.map_cons,List.map_nil,hs,hx,hr]
 exact h v' w' h2 h3 h5
theorem wpList_append_at {P:Program} {w:World} {ops:Array Oper} {rest:List Oper} {o:Oper} {a:Act} {Q:Exit→Act→World→Prop} (hgd:o.guard=none) (s x:Operand) (t:TypeId)
  (ho:o.op= .call {callee:= .builtin .append,args:=#[s,x],argTypes:=#[t,t]})
  (base:Nat) (e:TypeId) (i:TypeInfo) (z:Value) (sz bytes:Nat) (ht:P.underlying t=some (.slice e)) (hi:P.info? e=some i) (hz:i.zero=some z) (hsize:i.size=sz) (hby:i.bytes=bytes) (hzs:z.cells.size=sz) (hsz:0 < sz)
  (v:Value) (n:Nat) (cs:List Value) (hs:a.eval s=v) (hown:w.ownsRow base e sz v n cs)
  (b m c:Nat) (news:List Value) (hx:a.eval x= .slice (some ⟨b,0,none⟩) m c) (hl:news.length=m*sz) (hnews:∀j u,news[j]? =some u→w.cell? ⟨b,j,none⟩=some u) (h1:∀u∈news,u.oneCell'=true)
  (h63:n+m≤maxLen) (hbytes:(n+m)*bytes≤140737488355328) (hbase:base≤w.heap.size)
  (h:∀v' w',w'.ownsRow base e sz v' (n+m) (cs++news)→w.grownBy w' v.ownBlock→AtLoc w v v'→wpList P ops Q rest (a.put o.dst v') w'):wpList P ops Q (o::rest) a w:=
 wpList_plain hgd fun _ hK=>wp_append_at s x t ho base e i z sz bytes ht hi hz hsize hby hzs hsz v n cs hs hown b m c news hx hl hnews h1 h63 hbytes hbase fun v' w' h2 h3 h4=>hK _ _ (h v' w' h2 h3 h4)
theorem step_append_at {P:Program} {ops:Array Oper} {w:World} {o:Oper} {a:Act} {K:Act→World→Prop} {Q:Exit→Act→World→Prop} {E:Prop} (hgd:o.guard=none) (s x:Operand) (t:TypeId)
  (ho:o.op= .call {callee:= .builtin .append,args:=#[s,x],argTypes:=#[t,t]})
  (base:Nat) (e:TypeId) (i:TypeInfo) (z:Value) (sz bytes:Nat) (ht:P.underlying t=some (.slice e)) (hi:P.info? e=some i) (hz:i.zero=some z) (hsize:i.size=sz) (hby:i.bytes=bytes) (hzs:z.cells.size=sz) (hsz:0 < sz)
  (v:Value) (n:Nat) (cs:List Value) (hs:a.eval s=v) (hown:w.ownsRow base e sz v n cs)
  (b m c:Nat) (news:List Value) (hx:a.eval x= .slice (some ⟨b,0,none⟩) m c) (hl:news.length=m*sz) (hnews:∀j u,news[j]? =some u→w.cell? ⟨b,j,none⟩=some u) (h1:∀u∈news,u.oneCell'=true)
  (h63:n+m≤maxLen) (hbytes:(n+m)*bytes≤140737488355328) (hbase:base≤w.heap.size)
  (h:∀v' w',w'.ownsRow base e sz v' (n+m) (cs++news)→w.grownBy w' v.ownBlock→AtLoc w v v'→K (a.put o.dst v') w'):
  if Region.wanted o (yielded ops a.tmps)=true then Oper.wp P o a w K Q else E:=by
 rw[if_pos (by simp[Region.wanted,hgd])]
 exact wp_append_at s x t ho base e i z sz bytes ht hi hz hsize hby hzs hsz v n cs hs hown b m c news hx hl hnews h1 h63 hbytes hbase h
theorem ret_i {k:IntKind} {a b:Int} (h:a=b):Ending.returned (.int k a)= .returned (.int k b):=by rw[h]
theorem ret_ii {k l:IntKind} {a b c d:Int} (h:a=b) (g:c=d):Ending.returned (.tuple #[.int k a, .int l c])= .returned (.tuple #[.int k b, .int l d]):=by rw[h,g]
theorem ret_ib {k:IntKind} {a b:Int} {c d:Bool} (h:a=b) (g:c=d):Ending.returned (.tuple #[.int k a, .bool c])= .returned (.tuple #[.int k b, .bool d]):=by rw[h,g]
abbrev Gr (w w':World):Prop:=Below w.heap.size w w'
theorem Gr.refl (w:World):Gr w w:=Below.refl _ _
theorem Gr.alloc {w w':World} (h:Gr w w') (c:Array Value) (t:TypeId):Gr w (w'.alloc (.cells c t)):=Below.alloc h h.size _
theorem grown_drewN {W w':World} (h:Gr W w') (n:Nat):Gr W (w'.drewN n):=below_drewN h n
def sm (c:Int):Int:=if 65≤c∧c≤90 then c+32 else c
def dv (c:Int):Int:=if 48≤c∧c≤57 then c - 48 else if 97≤c∧c≤122 then c - 87 else if 65≤c∧c≤90 then c - 55 else 99
def dg (k:Int):Int:=if k < 10 then 48+k else 87+k
def isD (c b:Int):Bool:=decide (2≤b∧b≤36∧dv c < b)
def vl (c b:Int):Int:=if isD c b=true then dv c else 0
theorem sm_bd (c:Int) (h0:0≤c) (h1:c < 256):0≤sm c∧sm c < 256:=by unfold sm;omega
theorem dv_bd (c:Int) (h0:0≤c) (h1:c < 256):0≤dv c∧dv c≤99:=by unfold dv;omega
theorem isD_unfit (c b:Int) (h:b < 2∨36 < b):isD c b=false∧vl c b=0:=by
 have d:isD c b=false:=by unfold isD;simp;omega
 exact ⟨d,by unfold vl;rw[if_neg (by rw[d];decide)]⟩
theorem vl_bd (c b:Int) (h0:0≤c) (h1:c < 256):0≤vl c b∧vl c b≤35:=by
 unfold vl isD
 have:=dv_bd c h0 h1
 split
 ·simp at*;omega
 ·omega
def L (s:ByteArray):List Int:=s.data.toList.map fun c=>(c.toNat:Int)
theorem L_len (s:ByteArray):(L s).length=s.size:=by simp[L]
theorem L_get (s:ByteArray) (k:Nat) (h:k < s.size):(L s)[k]'(by rw[L_len];exact h)=(s[k].toNat:Int):=by
 simp[L];rfl
theorem L_take (s:ByteArray) (k:Nat) (h:k < s.size):(L s).take (k+1)=(L s).take k++[(s[k].toNat:Int)]:=by
 rw[List.take_succ_eq_append_getElem (by rw[L_len];exact h),L_get s k h]
theorem L_drop (s:ByteArray) (k:Nat) (h:k < s.size):(L s).drop k=(s[k].toNat:Int)::(L s).drop (k+1):=by
 rw[List.drop_eq_getElem_cons (by rw[L_len];exact h),L_get s k h]
theorem L_bd (s:ByteArray) (k:Nat) (h:k < s.size):0≤(s[k].toNat:Int)∧(s[k].toNat:Int) < 256:=by
 have:=s[k].toNat_lt;omega
theorem L_extract (s:ByteArray) (a b:Nat) (h:b≤s.size):L (s.extract a b)=((L s).drop a).take (b - a):=by
 unfold L
 rw[Lib.extract_data]
 rw[←List.map_drop,←List.map_take]
theorem L_from (s:ByteArray) (a:Nat):L (s.extract a s.size)=(L s).drop a:=by
 rw[L_extract s a s.size (Nat.le_refl _)]
 exact List.take_of_length_le (by rw[List.length_drop,L_len];exact Nat.le_refl _)
def num (b:Int) (l:List Int):Int:=l.foldl (fun a c=>a*b+vl c b) 0
def allD (b:Int) (l:List Int):Bool:=l.all fun c=>isD c b
theorem num_snoc (b:Int) (l:List Int) (c:Int):num b (l++[c])=num b l*b+vl c b:=by simp[num]
theorem allD_snoc (b:Int) (l:List Int) (c:Int):allD b (l++[c])=(allD b l&&isD c b):=by simp[allD]
theorem allD_mid (b:Int) (l m:List Int) (c:Int) (h:isD c b=false):allD b (l++c::m)=false:=by simp[allD,h]
def prsT (neg:Bool) (l:List Int) (b:Int):Int×Int:=
 if l=[] then (0,15) else if allD b l=false then (0,15) else if 4294967296≤num b l then (0,4) else
 (if neg=true then (4294967296 - num b l)%4294967296 else num b l,0)
def prs (l:List Int) (b:Int):Int×Int:=
 if b < 2∨36 < b then (0,1) else if l.head? =some 45 then prsT true l.tail b else prsT false l b
theorem mul_b (n b:Int) (h0:0≤n) (h1:n < 4294967296) (b0:2≤b) (b1:b≤36):n*2≤n*b∧n*b≤n*36:=
 ⟨Int.mul_le_mul_of_nonneg_left b0 h0,Int.mul_le_mul_of_nonneg_left b1 h0⟩
theorem mul_ge (m b:Int) (h0:4294967296≤m) (b0:2≤b):4294967296≤m*b:=by
 have:m*2≤m*b:=Int.mul_le_mul_of_nonneg_left b0 (by omega)
 omega
def toB (l:List Int):ByteArray:=⟨(l.map fun x=>UInt8.ofNat x.toNat).toArray⟩
theorem toB_L (t:ByteArray):toB (L t)=t:=by
 obtain ⟨⟨l⟩⟩:=t
 simp[toB,L,Function.comp_def]
theorem dg_isD (b k:Int) (b0:2≤b) (b1:b≤36) (k0:0≤k) (k1:k < b):isD (dg k) b=true∧vl (dg k) b=k∧0≤dg k∧dg k < 256∧¬dg k=45:=by
 have e:dv (dg k)=k:=by unfold dg dv;omega
 have d:isD (dg k) b=true:=by unfold isD;rw[e];simp;omega
 refine ⟨d,by unfold vl;rw[if_pos d,e], ?_, ?_, ?_⟩ <;> (unfold dg;omega)
end Go.Proofs.YtkkehbdahniiaaaGreatDoor
