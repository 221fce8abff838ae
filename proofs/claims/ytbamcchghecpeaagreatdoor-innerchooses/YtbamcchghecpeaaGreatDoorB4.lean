import Derived.WalkKit
import Derived.ProofKit
import Derived.OpenShut
import Derived.WalkLawsBesides
import Derived.Deep.Light
import Derived.Test.YtbamcchghecpeaaGreatDoorProg
import Derived.Deep.QuietTactic
import Derived.BigQuiet
import Derived.Deep.RegionWith
import Derived.Handy
import Derived.Deep.DeepCutAuto
import Derived.Test.YtbamcchghecpeaaGreatDoorB3
set_option linter.unusedVariables false
set_option linter.unusedSimpArgs false
set_option maxRecDepth 100000
namespace Go.Proofs.YtbamcchghecpeaaGreatDoor.Cel
open Go.ChangeShapes Go.WideShapes Go.ChangeAt Go.RowKit
abbrev Gr (w w':World):Prop:=Below w.heap.size w w'
theorem Gr.refl (w:World):Gr w w:=Below.refl _ _
theorem Gr.alloc {w w':World} (h:Gr w w') (c:Array Value) (t:TypeId):Gr w (w'.alloc (.cells c t)):=Below.alloc h h.size _
theorem Gr.setCell {W w':World} (h:Gr W w') {a:Addr} (ha:W.heap.size≤a.block) (v:Value):Gr W (w'.setCell a v):=Below.setCell h ha v
theorem Gr.drew {w w':World} (h:Gr w w'):Gr w w'.drew:=below_drewN h 1
theorem ret_b {a b:Bool} (h:a=b):Ending.returned (.bool a)= .returned (.bool b):=by rw[h]
theorem ret_i {k:IntKind} {a b:Int} (h:a=b):Ending.returned (.int k a)= .returned (.int k b):=by rw[h]
theorem ret_ii {k l:IntKind} {a b c d:Int} (h:a=b) (g:c=d):Ending.returned (.tuple #[.int k a, .int l c])= .returned (.tuple #[.int k b, .int l d]):=by rw[h,g]
theorem ret_iii {k l m:IntKind} {a b c d x y:Int} (h:a=b) (g:c=d) (f:x=y):Ending.returned (.tuple #[.int k a, .int l c, .int m x])= .returned (.tuple #[.int k b, .int l d, .int m y]):=by rw[h,g,f]
theorem cell_eq (n:Int):(IntKind.u64.wrap n).tmod 4294967296%4294967296=n%4294967296:=by
 have h:0≤IntKind.u64.wrap n:=wrap_u64_nonneg n
 rw[Int.tmod_eq_emod_of_nonneg h]
 simp[IntKind.wrap,IntKind.bits,IntKind.signed]
theorem xor_max (a:Int) (h0:0≤a) (h1:a < 4294967296):bits BinOp.xor IntKind.u32 IntKind.u32.max a=4294967295 - a:=by
 have hm:IntKind.u32.max=4294967295:=by simp[IntKind.max,IntKind.bits,IntKind.signed]
 rw[hm,u32_xor _ _ (by omega) (by omega) h0 h1]
 obtain ⟨n,rfl⟩:=Int.eq_ofNat_of_zero_le h0
 rw[Int.toNat_natCast]
 have hn:n < 4294967296:=by omega
 have e:(4294967295:Int).toNat^^^n=2^32 - (n+1):=by
  apply Nat.eq_of_testBit_eq
  intro i
  rw[Nat.testBit_xor,Nat.testBit_two_pow_sub_succ (by simpa using hn)]
  have:((4294967295:Int).toNat)=2^32 - 1:=by decide
  rw[this,Nat.testBit_two_pow_sub_one]
  by_cases hi:i < 32
  ·simp[hi]
  ·have:n.testBit i=false:=Nat.testBit_lt_two_pow (Nat.lt_of_lt_of_le hn (by
    have:2^32≤2^i:=Nat.pow_le_pow_right (by decide) (by omega)
    simpa using this))
   simp[hi,this]
 rw[e]
 omega
theorem swap_eq (a:Int) (h0:0≤a) (h1:a < 4294967296):
  bits BinOp.or IntKind.u32 (bits BinOp.and IntKind.u32 a 255*256%4294967296) (bits BinOp.and IntKind.u32 (a / 256) 255)=a%256*256+a / 256%256:=by
 rw[u32_and a 255 h0 h1 (by omega) (by omega),u32_and (a / 256) 255 (by omega) (by omega) (by omega) (by omega)]
 obtain ⟨n,rfl⟩:=Int.eq_ofNat_of_zero_le h0
 have e1:(((n:Int)).toNat&&&(255:Int).toNat)=n%256:=by
  rw[Int.toNat_natCast];exact Nat.and_two_pow_sub_one_eq_mod n 8
 have e2:((((n:Int) / 256)).toNat&&&(255:Int).toNat)=n / 256%256:=by
  have:((n:Int) / 256).toNat=n / 256:=by omega
  rw[this];exact Nat.and_two_pow_sub_one_eq_mod (n / 256) 8
 rw[e1,e2]
 have e3:(((n%256:Nat):Int)*256%4294967296)=((n%256*2^8:Nat):Int):=by omega
 rw[e3,u32_or_nat _ _ (by omega) (by omega)]
 have e4:n%256*2^8|||n / 256%256=n%256*2^8+n / 256%256:=by
  rw[Nat.mul_comm]
  exact (Nat.two_pow_add_eq_or_of_lt (by omega) _).symm
 rw[e4]
 omega
theorem w_signed (a:Int) (w:World) (h0:0≤a) (h1:a < 4294967296):Calls Tryz.prog 211 #[.int .u32 a] w fun e w'=>e= .returned (.int .i64 (wrap32 a))∧w'=w:=by
 go_enter Tryz.func211,Tryz.ntmps211
 go_wp2
 go_ret
 exact ⟨ret_i (by simp only[wrap64,wrap32];omega),rfl⟩
theorem w_rsigned (a:Int) (w:World) (h0:0≤a) (h1:a < 4294967296):Calls Tryz.prog 214 #[.int .u32 a] w fun e w'=>e= .returned (.int .i64 (wrap32 a))∧w'=w:=by
 go_enter Tryz.func214,Tryz.ntmps214
 go_wp2
 all_goals go_ret
 all_goals exact ⟨ret_i (by simp only[wrap64,wrap32];omega),rfl⟩
theorem w_rcell (a:Int) (w:World):Calls Tryz.prog 215 #[.int .i64 a] w fun e w'=>e= .returned (.int .u32 (a%4294967296))∧w'=w:=by
 go_enter Tryz.func215,Tryz.ntmps215
 go_wp2
 all_goals go_ret
 exact ⟨ret_i (cell_eq a),rfl⟩
def fl (b:Bool):Int:=if b=true then 4294967295 else 0
theorem fl_bd (b:Bool):0≤fl b∧fl b < 4294967296:=by unfold fl;split <;> omega
theorem w_rflag (b:Bool) (w:World):Calls Tryz.prog 216 #[.bool b] w fun e w'=>e= .returned (.int .u32 (fl b))∧w'=w:=by
 cases b
 ·go_enter Tryz.func216,Tryz.ntmps216
  go_wp2
  go_ret
  exact ⟨ret_i (by simp[fl]),rfl⟩
 ·go_enter Tryz.func216,Tryz.ntmps216
  go_wp2
  go_ret
  exact ⟨ret_i (by simp[fl]),rfl⟩
theorem wrap32_sbd (a:Int): -2147483648≤wrap32 a∧wrap32 a < 2147483648:=by unfold wrap32;omega
def shl (a:Int) (k:Nat):Int:=a*2^k%4294967296
theorem shl_bd (a:Int) (k:Nat):0≤shl a k∧shl a k < 4294967296:=by unfold shl;omega
def shr (a:Int) (k:Nat):Int:=a / 2^k
theorem shr_succ (a:Int) (k:Nat):shr a (k+1)=shr a k / 2:=by
 unfold shr
 rw[Int.pow_succ,Int.ediv_ediv_of_nonneg (Int.le_of_lt (Int.pow_pos (by decide)))]
theorem shr_bd (a:Int) (k:Nat) (h0:0≤a) (h1:a < 4294967296):0≤shr a k∧shr a k < 4294967296:=by
 induction k with
 |zero=>unfold shr;simp;omega
 |succ k ih=>rw[shr_succ];omega
theorem shr_zero (a:Int):shr a 0=a:=by unfold shr;simp
theorem shr_sbd (a:Int) (k:Nat) (h0: -2147483648≤a) (h1:a < 2147483648): -2147483648≤shr a k∧shr a k < 2147483648:=by
 induction k with
 |zero=>unfold shr;simp;omega
 |succ k ih=>rw[shr_succ];omega
def sar (a:Int) (k:Nat):Int:=shr (wrap32 a) k%4294967296
theorem sar_bd (a:Int) (k:Nat):0≤sar a k∧sar a k < 4294967296:=by unfold sar;omega
theorem sar_zero (a:Int) (h0:0≤a) (h1:a < 4294967296):sar a 0=a:=by
 unfold sar;rw[shr_zero];unfold wrap32;omega
theorem sar_succ (a:Int) (k:Nat):sar a (k+1)=sar a k / 2+sar a k / 2147483648*2147483648:=by
 have h:=shr_sbd (wrap32 a) k (wrap32_sbd a).1 (wrap32_sbd a).2
 unfold sar
 rw[shr_succ]
 omega
set_option maxHeartbeats 400000 in
theorem w_sar (a b:Int) (w:World) (h0:0≤a) (h1:a < 4294967296) (g0:0≤b) (g1:b < 4294967296):
  Calls Tryz.prog 217 #[.int .i64 41, .int .u32 a, .int .u32 b] w fun e w'=>e= .returned (.int .u32 (sar a (min b.toNat 32)))∧w'=w:=by
 obtain ⟨n,rfl⟩:=Int.eq_ofNat_of_zero_le g0
 rw[Int.toNat_natCast]
 have hz:Hid (sar a 0=a):=sar_zero a h0 h1
 by_cases hb:n≤32
 ·rw[show min n 32=n from by omega]
  go_enter Tryz.func217,Tryz.ntmps217
  go_wp2
  go_loop [1,8] (fun A i=>∃k:Nat,k≤n∧i= .int .i64 k∧A= .int .u32 (sar a k)) (fun _ i=>n - (intOf i).toNat)
  case atStart=>exact ⟨0,by omega,rfl,by rw[hz.out]⟩
  case round=>
   obtain ⟨k,hk,rfl,rfl⟩:=hrel
   have hbd:=sar_bd a k
   have hs:Hid (sar a (k+1)=sar a k / 2+sar a k / 2147483648*2147483648):=sar_succ a k
   by_cases hlt:k < n
   ·go_wp2
    go_round
    case rel=>exact ⟨k+1,by omega,by go_num,by rw[hs.out]⟩
    case measure=>simp[intOf];omega
   ·obtain rfl:k=n:=by omega
    go_wp2
    go_ret
    exact ⟨rfl,rfl⟩
 ·rw[show min n 32=32 from by omega]
  have hb2:(32:Int) < (n:Int):=by omega
  clear hb
  go_enter Tryz.func217,Tryz.ntmps217
  go_wp2
  go_loop [1,8] (fun A i=>∃k:Nat,(k:Int)≤32∧i= .int .i64 k∧A= .int .u32 (sar a k)) (fun _ i=>32 - (intOf i).toNat)
  case atStart=>exact ⟨0,by omega,rfl,by rw[hz.out]⟩
  case round=>
   obtain ⟨k,hk,rfl,rfl⟩:=hrel
   have hbd:=sar_bd a k
   have hs:Hid (sar a (k+1)=sar a k / 2+sar a k / 2147483648*2147483648):=sar_succ a k
   by_cases hlt:(k:Int) < 32
   ·go_wp2
    go_round
    case rel=>exact ⟨k+1,by omega,by go_num,by rw[hs.out]⟩
    case measure=>simp[intOf];omega
   ·obtain rfl:k=32:=by omega
    go_wp2
    go_ret
    exact ⟨rfl,rfl⟩
theorem bw_and_lt (a b:Int) (h0:0≤a) (h1:a < 4294967296) (g0:0≤b) (g1:b < 4294967296):a.toNat&&&b.toNat < 2^32:=
 Nat.and_lt_two_pow _ (show b.toNat < 2^32 by omega)
theorem bw_or_lt (a b:Int) (h0:0≤a) (h1:a < 4294967296) (g0:0≤b) (g1:b < 4294967296):a.toNat|||b.toNat < 2^32:=
 Nat.or_lt_two_pow (show a.toNat < 2^32 by omega) (show b.toNat < 2^32 by omega)
theorem bw_xor_lt (a b:Int) (h0:0≤a) (h1:a < 4294967296) (g0:0≤b) (g1:b < 4294967296):a.toNat^^^b.toNat < 2^32:=
 Nat.xor_lt_two_pow (show a.toNat < 2^32 by omega) (show b.toNat < 2^32 by omega)
theorem w_sym (n d:Int) (w:World) (hd:¬d=0):Calls Tryz.prog 285 #[.int .i64 n, .int .i64 d] w fun e w'=>e= .returned (.tuple #[.int .i64 (wrap64 (n.tdiv d)), .int .i64 (n.tmod d)])∧Gr w w':=by
 go_enter Tryz.func285,Tryz.ntmps285
 go_wp2
 go_region
 all_goals
  go_wp2
  go_ret2
  exact ⟨rfl,by repeat (first|exact Gr.refl _|apply Gr.drew)⟩
def adj (n d:Int):Bool:= !(n.tmod d==0)&&(decide (n.tmod d < 0) !=decide (d < 0))
def fq (n d:Int):Int:=if adj n d=true then wrap64 (wrap64 (n.tdiv d) - 1) else wrap64 (n.tdiv d)
def fr (n d:Int):Int:=if adj n d=true then n.tmod d+d else n.tmod d
theorem tmod_bd (n d:Int):(0 < d→ -d < n.tmod d∧n.tmod d < d)∧(d < 0→d < n.tmod d∧n.tmod d < -d):=by
 constructor
 ·intro h
  exact ⟨Int.lt_tmod_of_pos n h,Int.tmod_lt_of_pos n h⟩
 ·intro h
  have e:n.tmod d=n.tmod (-d):=by rw[Int.tmod_neg]
  rw[e]
  have h1:=Int.lt_tmod_of_pos n (show 0 < -d by omega)
  have h2:=Int.tmod_lt_of_pos n (show 0 < -d by omega)
  omega
set_option maxHeartbeats 400000 in
theorem w_floored (n d:Int) (w:World) (hd:¬d=0) (d0: -9223372036854775808≤d) (d1:d≤9223372036854775807):Calls Tryz.prog 277 #[.int .i64 n, .int .i64 d] w fun e w'=>e= .returned (.tuple #[.int .i64 (fq n d), .int .i64 (fr n d)])∧Gr w w':=by
 have hb:=tmod_bd n d
 obtain ⟨hb1,hb2⟩:=hb
 rcases Int.lt_trichotomy (n.tmod d) 0 with hr|hr|hr
 all_goals rcases (show d < 0∨0 < d by omega) with hs|hs
 all_goals
  have ht:(n.tmod d !=0)= !(n.tmod d==0):=rfl
  obtain ⟨c,hc⟩:∃c,(n.tmod d==0)=c:=⟨_,rfl⟩
  obtain ⟨x,hx⟩:∃x,decide (n.tmod d < 0)=x:=⟨_,rfl⟩
  obtain ⟨y,hy⟩:∃y,decide (d < 0)=y:=⟨_,rfl⟩
  have gx:x=true↔n.tmod d < 0:=by rw[←hx];simp
  have gy:y=true↔d < 0:=by rw[←hy];simp
  have gc:c=true↔n.tmod d=0:=by rw[←hc];simp
  rw[hc] at ht
  cases c
  all_goals cases x
  all_goals cases y
  all_goals (try (exfalso;simp only[Bool.false_eq_true,true_iff,false_iff] at gx gy gc;omega))
 all_goals
  clear gx gy gc
  simp only[Bool.not_false,Bool.not_true] at ht
  have e1:Hid (fq n d=if adj n d=true then wrap64 (wrap64 (n.tdiv d) - 1) else wrap64 (n.tdiv d)):=rfl
  have e2:Hid (fr n d=if adj n d=true then n.tmod d+d else n.tmod d):=rfl
  simp only[adj,hc,hx,hy] at e1 e2
  go_enter Tryz.func277,Tryz.ntmps277
  go_wp2_with (go_at_call 285;refine (w_sym _ _ _ hd).mono ?_;rintro e w1 ⟨rfl,hg⟩)
  go_ret2
  refine ⟨ret_ii ?_ ?_,hg⟩
  ·rw[e1.out];simp
  ·rw[e2.out];simp
   try omega
def dvQ (op a b:Int):Int:=if op=42∧¬b=0 then fq (wrap32 a) (wrap32 b)%4294967296 else if op=43∧¬b=0 then a / b else 0
def dvR (op a b:Int):Int:=if op=42∧¬b=0 then fr (wrap32 a) (wrap32 b)%4294967296 else if op=43∧¬b=0 then a%b else 0
def dvE (op b:Int):Int:=if ¬op=42∧¬op=43 then 2 else if b=0 then 7 else 0
theorem wrap32_ne (b:Int) (g0:0≤b) (g1:b < 4294967296) (h:¬b=0):¬wrap32 b=0:=by unfold wrap32;omega
set_option maxHeartbeats 400000 in
theorem w_divide (op a b:Int) (w:World) (h0:0≤a) (h1:a < 4294967296) (g0:0≤b) (g1:b < 4294967296):Calls Tryz.prog 241 #[.int .i64 op, .int .u32 a, .int .u32 b] w fun e w'=>e= .returned (.tuple #[.int .u32 (dvQ op a b), .int .u32 (dvR op a b), .int .i64 (dvE op b)])∧Gr w w':=by
 have ha:=wrap32_sbd a
 have hb:=wrap32_sbd b
 by_cases c1:op=42
 ·subst c1
  by_cases c2:b=0
  ·subst c2
   go_enter Tryz.func241,Tryz.ntmps241
   go_wp2
   go_ret3
   exact ⟨ret_iii (by simp[dvQ]) (by simp[dvR]) (by simp[dvE]),Gr.refl _⟩
  ·have hn:=wrap32_ne b g0 g1 c2
   go_enter Tryz.func241,Tryz.ntmps241
   go_wp2_with (go_at_call 277;refine (w_floored _ _ _ hn (by omega) (by omega)).mono ?_;rintro e w1 ⟨rfl,hg⟩)
   go_ret3
   exact ⟨ret_iii (by simp[dvQ,c2]) (by simp[dvR,c2]) (by simp[dvE,c2]),hg⟩
 ·by_cases c3:op=43
  ·subst c3
   by_cases c2:b=0
   ·subst c2
    go_enter Tryz.func241,Tryz.ntmps241
    go_wp2
    go_ret3
    exact ⟨ret_iii (by simp[dvQ]) (by simp[dvR]) (by simp[dvE]),Gr.refl _⟩
   ·go_enter Tryz.func241,Tryz.ntmps241
    go_wp2
    go_region
    all_goals go_wp2
    all_goals go_ret3
    all_goals exact ⟨ret_iii (by simp[dvQ,c2]) (by simp[dvR,c2]) (by simp[dvE,c2]),by repeat (first|exact Gr.refl _|apply Gr.drew)⟩
  ·have t1:(op !=42)=true:=by simp[c1]
   have t2:(op !=43)=true:=by simp[c3]
   go_enter Tryz.func241,Tryz.ntmps241
   go_wp2
   go_ret3
   exact ⟨ret_iii (by simp[dvQ,c1,c3]) (by simp[dvR,c1,c3]) (by simp[dvE,c1,c3]),Gr.refl _⟩
def binX (op a b:Int):Int:=
 if op=30 then (a+b)%4294967296 else
 if op=31 then (a - b)%4294967296 else
 if op=32 then a*b%4294967296 else
 if op=33 then dvQ 42 a b else
 if op=34 then dvR 42 a b else
 if op=35 then ((a.toNat&&&b.toNat:Nat):Int) else
 if op=36 then ((a.toNat|||b.toNat:Nat):Int) else
 if op=37 then ((a.toNat^^^b.toNat:Nat):Int) else
 if op=39 then shl a (min b.toNat 32) else
 if op=40 then shr a (min b.toNat 32) else
 if op=41 then sar a (min b.toNat 32) else
 if op=46 then (if wrap32 b < wrap32 a then wrap32 b else wrap32 a)%4294967296 else
 if op=47 then (if wrap32 a < wrap32 b then wrap32 b else wrap32 a)%4294967296 else
 if op=58 then fl (decide (wrap32 a < wrap32 b)) else
 if op=59 then fl (decide (wrap32 b < wrap32 a)) else
 if op=60 then fl (a==b) else
 if op=61 then fl (a !=b) else
 if op=62 then fl (decide (b < a)) else
 if op=63 then fl (decide (a≤b)) else
 if op=64 then fl (decide (a < b)) else
 if op=65 then fl (decide (b≤a)) else
 if op=66 then fl (decide (wrap32 b≤wrap32 a)) else
 if op=67 then fl (decide (wrap32 a≤wrap32 b)) else
 0
def binE (op b:Int):Int:=
 if op=33∨op=34 then (if b=0 then 7 else 0) else
 if (30≤op∧op≤32)∨(35≤op∧op≤37)∨(39≤op∧op≤41)∨op=46∨op=47∨(58≤op∧op≤67) then 0 else 2
theorem bin_30 (a b:Int):binX 30 a b=(a+b)%4294967296:=by unfold binX;simp
theorem bin_31 (a b:Int):binX 31 a b=(a - b)%4294967296:=by unfold binX;simp
theorem bin_32 (a b:Int):binX 32 a b=a*b%4294967296:=by unfold binX;simp
theorem bin_33 (a b:Int):binX 33 a b=dvQ 42 a b:=by unfold binX;simp
theorem bin_34 (a b:Int):binX 34 a b=dvR 42 a b:=by unfold binX;simp
theorem bin_35 (a b:Int):binX 35 a b=((a.toNat&&&b.toNat:Nat):Int):=by unfold binX;simp
theorem bin_36 (a b:Int):binX 36 a b=((a.toNat|||b.toNat:Nat):Int):=by unfold binX;simp
theorem bin_37 (a b:Int):binX 37 a b=((a.toNat^^^b.toNat:Nat):Int):=by unfold binX;simp
theorem bin_39 (a b:Int):binX 39 a b=shl a (min b.toNat 32):=by unfold binX;simp
theorem bin_40 (a b:Int):binX 40 a b=shr a (min b.toNat 32):=by unfold binX;simp
theorem bin_41 (a b:Int):binX 41 a b=sar a (min b.toNat 32):=by unfold binX;simp
theorem bin_46 (a b:Int):binX 46 a b=(if wrap32 b < wrap32 a then wrap32 b else wrap32 a)%4294967296:=by unfold binX;simp
theorem bin_47 (a b:Int):binX 47 a b=(if wrap32 a < wrap32 b then wrap32 b else wrap32 a)%4294967296:=by unfold binX;simp
theorem bin_58 (a b:Int):binX 58 a b=fl (decide (wrap32 a < wrap32 b)):=by unfold binX;simp
theorem bin_59 (a b:Int):binX 59 a b=fl (decide (wrap32 b < wrap32 a)):=by unfold binX;simp
theorem bin_60 (a b:Int):binX 60 a b=fl (a==b):=by unfold binX;simp
theorem bin_61 (a b:Int):binX 61 a b=fl (a !=b):=by unfold binX;simp
theorem bin_62 (a b:Int):binX 62 a b=fl (decide (b < a)):=by unfold binX;simp
theorem bin_63 (a b:Int):binX 63 a b=fl (decide (a≤b)):=by unfold binX;simp
theorem bin_64 (a b:Int):binX 64 a b=fl (decide (a < b)):=by unfold binX;simp
theorem bin_65 (a b:Int):binX 65 a b=fl (decide (b≤a)):=by unfold binX;simp
theorem bin_66 (a b:Int):binX 66 a b=fl (decide (wrap32 b≤wrap32 a)):=by unfold binX;simp
theorem bin_67 (a b:Int):binX 67 a b=fl (decide (wrap32 a≤wrap32 b)):=by unfold binX;simp
theorem bin_other (op a b:Int) (c30:¬op=30) (c31:¬op=31) (c32:¬op=32) (c33:¬op=33) (c34:¬op=34) (c35:¬op=35) (c36:¬op=36) (c37:¬op=37) (c39:¬op=39) (c40:¬op=40) (c41:¬op=41) (c46:¬op=46) (c47:¬op=47) (c58:¬op=58) (c59:¬op=59) (c60:¬op=60) (c61:¬op=61) (c62:¬op=62) (c63:¬op=63) (c64:¬op=64) (c65:¬op=65) (c66:¬op=66) (c67:¬op=67):binX op a b=0:=by unfold binX;simp[c30,c31,c32,c33,c34,c35,c36,c37,c39,c40,c41,c46,c47,c58,c59,c60,c61,c62,c63,c64,c65,c66,c67]
theorem dv42_zero (a:Int):dvQ 42 a 0=0∧dvR 42 a 0=0:=by simp[dvQ,dvR]
theorem dv42 (a b:Int) (h:¬b=0):dvQ 42 a b=fq (wrap32 a) (wrap32 b)%4294967296∧dvR 42 a b=fr (wrap32 a) (wrap32 b)%4294967296:=by simp[dvQ,dvR,h]
set_option maxHeartbeats 400000 in
theorem w_bin_30 (a b:Int) (w:World) (h0:0≤a) (h1:a < 4294967296) (g0:0≤b) (g1:b < 4294967296):Calls Tryz.prog 178 #[.int .i64 30, .int .u32 a, .int .u32 b] w fun e w'=>e= .returned (.tuple #[.int .u32 (binX 30 a b), .int .i64 (binE 30 b)])∧Gr w w':=by
 have ha:=wrap32_sbd a
 have hb:=wrap32_sbd b
 rw[bin_30]
 go_enter Tryz.func178,Tryz.ntmps178
 go_wp2
 all_goals go_ret2
 all_goals
  refine ⟨ret_ii ?_ ?_,Gr.refl _⟩
  ·
   first
    |rfl
    |(simp only[shl,shr,sar];done)
    |(rw[u32_and _ _ h0 h1 g0 g1];done)
    |(rw[u32_or _ _ h0 h1 g0 g1];done)
    |(rw[u32_xor _ _ h0 h1 g0 g1];done)
    |(go_light;omega)
    |(go_light;simp only[fl,decide_eq_true_eq,beq_iff_eq,bne_iff_ne,ne_eq,beq_eq_false_iff_ne,bne_eq_false_iff_eq] at*;omega)
  ·simp[binE]
set_option maxHeartbeats 400000 in
theorem w_bin_31 (a b:Int) (w:World) (h0:0≤a) (h1:a < 4294967296) (g0:0≤b) (g1:b < 4294967296):Calls Tryz.prog 178 #[.int .i64 31, .int .u32 a, .int .u32 b] w fun e w'=>e= .returned (.tuple #[.int .u32 (binX 31 a b), .int .i64 (binE 31 b)])∧Gr w w':=by
 have ha:=wrap32_sbd a
 have hb:=wrap32_sbd b
 rw[bin_31]
 go_enter Tryz.func178,Tryz.ntmps178
 go_wp2
 all_goals go_ret2
 all_goals
  refine ⟨ret_ii ?_ ?_,Gr.refl _⟩
  ·
   first
    |rfl
    |(simp only[shl,shr,sar];done)
    |(rw[u32_and _ _ h0 h1 g0 g1];done)
    |(rw[u32_or _ _ h0 h1 g0 g1];done)
    |(rw[u32_xor _ _ h0 h1 g0 g1];done)
    |(go_light;omega)
    |(go_light;simp only[fl,decide_eq_true_eq,beq_iff_eq,bne_iff_ne,ne_eq,beq_eq_false_iff_ne,bne_eq_false_iff_eq] at*;omega)
  ·simp[binE]
set_option maxHeartbeats 400000 in
theorem w_bin_32 (a b:Int) (w:World) (h0:0≤a) (h1:a < 4294967296) (g0:0≤b) (g1:b < 4294967296):Calls Tryz.prog 178 #[.int .i64 32, .int .u32 a, .int .u32 b] w fun e w'=>e= .returned (.tuple #[.int .u32 (binX 32 a b), .int .i64 (binE 32 b)])∧Gr w w':=by
 have ha:=wrap32_sbd a
 have hb:=wrap32_sbd b
 rw[bin_32]
 go_enter Tryz.func178,Tryz.ntmps178
 go_wp2
 all_goals go_ret2
 all_goals
  refine ⟨ret_ii ?_ ?_,Gr.refl _⟩
  ·
   first
    |rfl
    |(simp only[shl,shr,sar];done)
    |(rw[u32_and _ _ h0 h1 g0 g1];done)
    |(rw[u32_or _ _ h0 h1 g0 g1];done)
    |(rw[u32_xor _ _ h0 h1 g0 g1];done)
    |(go_light;omega)
    |(go_light;simp only[fl,decide_eq_true_eq,beq_iff_eq,bne_iff_ne,ne_eq,beq_eq_false_iff_ne,bne_eq_false_iff_eq] at*;omega)
  ·simp[binE]
set_option maxHeartbeats 400000 in
theorem w_bin_35 (a b:Int) (w:World) (h0:0≤a) (h1:a < 4294967296) (g0:0≤b) (g1:b < 4294967296):Calls Tryz.prog 178 #[.int .i64 35, .int .u32 a, .int .u32 b] w fun e w'=>e= .returned (.tuple #[.int .u32 (binX 35 a b), .int .i64 (binE 35 b)])∧Gr w w':=by
 have ha:=wrap32_sbd a
 have hb:=wrap32_sbd b
 rw[bin_35]
 go_enter Tryz.func178,Tryz.ntmps178
 go_wp2
 all_goals go_ret2
 all_goals
  refine ⟨ret_ii ?_ ?_,Gr.refl _⟩
  ·
   first
    |rfl
    |(simp only[shl,shr,sar];done)
    |(rw[u32_and _ _ h0 h1 g0 g1];done)
    |(rw[u32_or _ _ h0 h1 g0 g1];done)
    |(rw[u32_xor _ _ h0 h1 g0 g1];done)
    |(go_light;omega)
    |(go_light;simp only[fl,decide_eq_true_eq,beq_iff_eq,bne_iff_ne,ne_eq,beq_eq_false_iff_ne,bne_eq_false_iff_eq] at*;omega)
  ·simp[binE]
set_option maxHeartbeats 400000 in
theorem w_bin_36 (a b:Int) (w:World) (h0:0≤a) (h1:a < 4294967296) (g0:0≤b) (g1:b < 4294967296):Calls Tryz.prog 178 #[.int .i64 36, .int .u32 a, .int .u32 b] w fun e w'=>e= .returned (.tuple #[.int .u32 (binX 36 a b), .int .i64 (binE 36 b)])∧Gr w w':=by
 have ha:=wrap32_sbd a
 have hb:=wrap32_sbd b
 rw[bin_36]
 go_enter Tryz.func178,Tryz.ntmps178
 go_wp2
 all_goals go_ret2
 all_goals
  refine ⟨ret_ii ?_ ?_,Gr.refl _⟩
  ·
   first
    |rfl
    |(simp only[shl,shr,sar];done)
    |(rw[u32_and _ _ h0 h1 g0 g1];done)
    |(rw[u32_or _ _ h0 h1 g0 g1];done)
    |(rw[u32_xor _ _ h0 h1 g0 g1];done)
    |(go_light;omega)
    |(go_light;simp only[fl,decide_eq_true_eq,beq_iff_eq,bne_iff_ne,ne_eq,beq_eq_false_iff_ne,bne_eq_false_iff_eq] at*;omega)
  ·simp[binE]
set_option maxHeartbeats 400000 in
theorem w_bin_37 (a b:Int) (w:World) (h0:0≤a) (h1:a < 4294967296) (g0:0≤b) (g1:b < 4294967296):Calls Tryz.prog 178 #[.int .i64 37, .int .u32 a, .int .u32 b] w fun e w'=>e= .returned (.tuple #[.int .u32 (binX 37 a b), .int .i64 (binE 37 b)])∧Gr w w':=by
 have ha:=wrap32_sbd a
 have hb:=wrap32_sbd b
 rw[bin_37]
 go_enter Tryz.func178,Tryz.ntmps178
 go_wp2
 all_goals go_ret2
 all_goals
  refine ⟨ret_ii ?_ ?_,Gr.refl _⟩
  ·
   first
    |rfl
    |(simp only[shl,shr,sar];done)
    |(rw[u32_and _ _ h0 h1 g0 g1];done)
    |(rw[u32_or _ _ h0 h1 g0 g1];done)
    |(rw[u32_xor _ _ h0 h1 g0 g1];done)
    |(go_light;omega)
    |(go_light;simp only[fl,decide_eq_true_eq,beq_iff_eq,bne_iff_ne,ne_eq,beq_eq_false_iff_ne,bne_eq_false_iff_eq] at*;omega)
  ·simp[binE]
set_option maxHeartbeats 400000 in
theorem w_bin_39 (a b:Int) (w:World) (h0:0≤a) (h1:a < 4294967296) (g0:0≤b) (g1:b < 4294967296):Calls Tryz.prog 178 #[.int .i64 39, .int .u32 a, .int .u32 b] w fun e w'=>e= .returned (.tuple #[.int .u32 (binX 39 a b), .int .i64 (binE 39 b)])∧Gr w w':=by
 have ha:=wrap32_sbd a
 have hb:=wrap32_sbd b
 rw[bin_39]
 go_enter Tryz.func178,Tryz.ntmps178
 go_wp2
 all_goals go_ret2
 all_goals
  refine ⟨ret_ii ?_ ?_,Gr.refl _⟩
  ·
   first
    |rfl
    |(simp only[shl,shr,sar];done)
    |(rw[u32_and _ _ h0 h1 g0 g1];done)
    |(rw[u32_or _ _ h0 h1 g0 g1];done)
    |(rw[u32_xor _ _ h0 h1 g0 g1];done)
    |(go_light;omega)
    |(go_light;simp only[fl,decide_eq_true_eq,beq_iff_eq,bne_iff_ne,ne_eq,beq_eq_false_iff_ne,bne_eq_false_iff_eq] at*;omega)
  ·simp[binE]
set_option maxHeartbeats 400000 in
theorem w_bin_40 (a b:Int) (w:World) (h0:0≤a) (h1:a < 4294967296) (g0:0≤b) (g1:b < 4294967296):Calls Tryz.prog 178 #[.int .i64 40, .int .u32 a, .int .u32 b] w fun e w'=>e= .returned (.tuple #[.int .u32 (binX 40 a b), .int .i64 (binE 40 b)])∧Gr w w':=by
 have ha:=wrap32_sbd a
 have hb:=wrap32_sbd b
 rw[bin_40]
 go_enter Tryz.func178,Tryz.ntmps178
 go_wp2
 all_goals go_ret2
 all_goals
  refine ⟨ret_ii ?_ ?_,Gr.refl _⟩
  ·
   first
    |rfl
    |(simp only[shl,shr,sar];done)
    |(rw[u32_and _ _ h0 h1 g0 g1];done)
    |(rw[u32_or _ _ h0 h1 g0 g1];done)
    |(rw[u32_xor _ _ h0 h1 g0 g1];done)
    |(go_light;omega)
    |(go_light;simp only[fl,decide_eq_true_eq,beq_iff_eq,bne_iff_ne,ne_eq,beq_eq_false_iff_ne,bne_eq_false_iff_eq] at*;omega)
  ·simp[binE]
set_option maxHeartbeats 400000 in
theorem w_bin_41 (a b:Int) (w:World) (h0:0≤a) (h1:a < 4294967296) (g0:0≤b) (g1:b < 4294967296):Calls Tryz.prog 178 #[.int .i64 41, .int .u32 a, .int .u32 b] w fun e w'=>e= .returned (.tuple #[.int .u32 (binX 41 a b), .int .i64 (binE 41 b)])∧Gr w w':=by
 have ha:=wrap32_sbd a
 have hb:=wrap32_sbd b
 rw[bin_41]
 go_enter Tryz.func178,Tryz.ntmps178
 go_wp2
 all_goals go_ret2
 all_goals
  refine ⟨ret_ii ?_ ?_,Gr.refl _⟩
  ·
   first
    |rfl
    |(simp only[shl,shr,sar];done)
    |(rw[u32_and _ _ h0 h1 g0 g1];done)
    |(rw[u32_or _ _ h0 h1 g0 g1];done)
    |(rw[u32_xor _ _ h0 h1 g0 g1];done)
    |(go_light;omega)
    |(go_light;simp only[fl,decide_eq_true_eq,beq_iff_eq,bne_iff_ne,ne_eq,beq_eq_false_iff_ne,bne_eq_false_iff_eq] at*;omega)
  ·simp[binE]
set_option maxHeartbeats 400000 in
theorem w_bin_46 (a b:Int) (w:World) (h0:0≤a) (h1:a < 4294967296) (g0:0≤b) (g1:b < 4294967296):Calls Tryz.prog 178 #[.int .i64 46, .int .u32 a, .int .u32 b] w fun e w'=>e= .returned (.tuple #[.int .u32 (binX 46 a b), .int .i64 (binE 46 b)])∧Gr w w':=by
 have ha:=wrap32_sbd a
 have hb:=wrap32_sbd b
 rw[bin_46]
 go_enter Tryz.func178,Tryz.ntmps178
 go_wp2
 all_goals go_ret2
 all_goals
  refine ⟨ret_ii ?_ ?_,Gr.refl _⟩
  ·
   first
    |rfl
    |(simp only[shl,shr,sar];done)
    |(rw[u32_and _ _ h0 h1 g0 g1];done)
    |(rw[u32_or _ _ h0 h1 g0 g1];done)
    |(rw[u32_xor _ _ h0 h1 g0 g1];done)
    |(go_light;omega)
    |(go_light;simp only[fl,decide_eq_true_eq,beq_iff_eq,bne_iff_ne,ne_eq,beq_eq_false_iff_ne,bne_eq_false_iff_eq] at*;omega)
  ·simp[binE]
set_option maxHeartbeats 400000 in
theorem w_bin_47 (a b:Int) (w:World) (h0:0≤a) (h1:a < 4294967296) (g0:0≤b) (g1:b < 4294967296):Calls Tryz.prog 178 #[.int .i64 47, .int .u32 a, .int .u32 b] w fun e w'=>e= .returned (.tuple #[.int .u32 (binX 47 a b), .int .i64 (binE 47 b)])∧Gr w w':=by
 have ha:=wrap32_sbd a
 have hb:=wrap32_sbd b
 rw[bin_47]
 go_enter Tryz.func178,Tryz.ntmps178
 go_wp2
 all_goals go_ret2
 all_goals
  refine ⟨ret_ii ?_ ?_,Gr.refl _⟩
  ·
   first
    |rfl
    |(simp only[shl,shr,sar];done)
    |(rw[u32_and _ _ h0 h1 g0 g1];done)
    |(rw[u32_or _ _ h0 h1 g0 g1];done)
    |(rw[u32_xor _ _ h0 h1 g0 g1];done)
    |(go_light;omega)
    |(go_light;simp only[fl,decide_eq_true_eq,beq_iff_eq,bne_iff_ne,ne_eq,beq_eq_false_iff_ne,bne_eq_false_iff_eq] at*;omega)
  ·simp[binE]
set_option maxHeartbeats 400000 in
theorem w_bin_58 (a b:Int) (w:World) (h0:0≤a) (h1:a < 4294967296) (g0:0≤b) (g1:b < 4294967296):Calls Tryz.prog 178 #[.int .i64 58, .int .u32 a, .int .u32 b] w fun e w'=>e= .returned (.tuple #[.int .u32 (binX 58 a b), .int .i64 (binE 58 b)])∧Gr w w':=by
 have ha:=wrap32_sbd a
 have hb:=wrap32_sbd b
 rw[bin_58]
 go_enter Tryz.func178,Tryz.ntmps178
 go_wp2
 all_goals go_ret2
 all_goals
  refine ⟨ret_ii ?_ ?_,Gr.refl _⟩
  ·
   first
    |rfl
    |(simp only[shl,shr,sar];done)
    |(rw[u32_and _ _ h0 h1 g0 g1];done)
    |(rw[u32_or _ _ h0 h1 g0 g1];done)
    |(rw[u32_xor _ _ h0 h1 g0 g1];done)
    |(go_light;omega)
    |(go_light;simp only[fl,decide_eq_true_eq,beq_iff_eq,bne_iff_ne,ne_eq,beq_eq_false_iff_ne,bne_eq_false_iff_eq] at*;omega)
  ·simp[binE]
set_option maxHeartbeats 400000 in
theorem w_bin_59 (a b:Int) (w:World) (h0:0≤a) (h1:a < 4294967296) (g0:0≤b) (g1:b < 4294967296):Calls Tryz.prog 178 #[.int .i64 59, .int .u32 a, .int .u32 b] w fun e w'=>e= .returned (.tuple #[.int .u32 (binX 59 a b), .int .i64 (binE 59 b)])∧Gr w w':=by
 have ha:=wrap32_sbd a
 have hb:=wrap32_sbd b
 rw[bin_59]
 go_enter Tryz.func178,Tryz.ntmps178
 go_wp2
 all_goals go_ret2
 all_goals
  refine ⟨ret_ii ?_ ?_,Gr.refl _⟩
  ·
   first
    |rfl
    |(simp only[shl,shr,sar];done)
    |(rw[u32_and _ _ h0 h1 g0 g1];done)
    |(rw[u32_or _ _ h0 h1 g0 g1];done)
    |(rw[u32_xor _ _ h0 h1 g0 g1];done)
    |(go_light;omega)
    |(go_light;simp only[fl,decide_eq_true_eq,beq_iff_eq,bne_iff_ne,ne_eq,beq_eq_false_iff_ne,bne_eq_false_iff_eq] at*;omega)
  ·simp[binE]
set_option maxHeartbeats 400000 in
theorem w_bin_60 (a b:Int) (w:World) (h0:0≤a) (h1:a < 4294967296) (g0:0≤b) (g1:b < 4294967296):Calls Tryz.prog 178 #[.int .i64 60, .int .u32 a, .int .u32 b] w fun e w'=>e= .returned (.tuple #[.int .u32 (binX 60 a b), .int .i64 (binE 60 b)])∧Gr w w':=by
 have ha:=wrap32_sbd a
 have hb:=wrap32_sbd b
 rw[bin_60]
 go_enter Tryz.func178,Tryz.ntmps178
 go_wp2
 all_goals go_ret2
 all_goals
  refine ⟨ret_ii ?_ ?_,Gr.refl _⟩
  ·
   first
    |rfl
    |(simp only[shl,shr,sar];done)
    |(rw[u32_and _ _ h0 h1 g0 g1];done)
    |(rw[u32_or _ _ h0 h1 g0 g1];done)
    |(rw[u32_xor _ _ h0 h1 g0 g1];done)
    |(go_light;omega)
    |(go_light;simp only[fl,decide_eq_true_eq,beq_iff_eq,bne_iff_ne,ne_eq,beq_eq_false_iff_ne,bne_eq_false_iff_eq] at*;omega)
  ·simp[binE]
set_option maxHeartbeats 400000 in
theorem w_bin_61 (a b:Int) (w:World) (h0:0≤a) (h1:a < 4294967296) (g0:0≤b) (g1:b < 4294967296):Calls Tryz.prog 178 #[.int .i64 61, .int .u32 a, .int .u32 b] w fun e w'=>e= .returned (.tuple #[.int .u32 (binX 61 a b), .int .i64 (binE 61 b)])∧Gr w w':=by
 have ha:=wrap32_sbd a
 have hb:=wrap32_sbd b
 rw[bin_61]
 go_enter Tryz.func178,Tryz.ntmps178
 go_wp2
 all_goals go_ret2
 all_goals
  refine ⟨ret_ii ?_ ?_,Gr.refl _⟩
  ·
   first
    |rfl
    |(simp only[shl,shr,sar];done)
    |(rw[u32_and _ _ h0 h1 g0 g1];done)
    |(rw[u32_or _ _ h0 h1 g0 g1];done)
    |(rw[u32_xor _ _ h0 h1 g0 g1];done)
    |(go_light;omega)
    |(go_light;simp only[fl,decide_eq_true_eq,beq_iff_eq,bne_iff_ne,ne_eq,beq_eq_false_iff_ne,bne_eq_false_iff_eq] at*;omega)
  ·simp[binE]
set_option maxHeartbeats 400000 in
theorem w_bin_62 (a b:Int) (w:World) (h0:0≤a) (h1:a < 4294967296) (g0:0≤b) (g1:b < 4294967296):Calls Tryz.prog 178 #[.int .i64 62, .int .u32 a, .int .u32 b] w fun e w'=>e= .returned (.tuple #[.int .u32 (binX 62 a b), .int .i64 (binE 62 b)])∧Gr w w':=by
 have ha:=wrap32_sbd a
 have hb:=wrap32_sbd b
 rw[bin_62]
 go_enter Tryz.func178,Tryz.ntmps178
 go_wp2
 all_goals go_ret2
 all_goals
  refine ⟨ret_ii ?_ ?_,Gr.refl _⟩
  ·
   first
    |rfl
    |(simp only[shl,shr,sar];done)
    |(rw[u32_and _ _ h0 h1 g0 g1];done)
    |(rw[u32_or _ _ h0 h1 g0 g1];done)
    |(rw[u32_xor _ _ h0 h1 g0 g1];done)
    |(go_light;omega)
    |(go_light;simp only[fl,decide_eq_true_eq,beq_iff_eq,bne_iff_ne,ne_eq,beq_eq_false_iff_ne,bne_eq_false_iff_eq] at*;omega)
  ·simp[binE]
set_option maxHeartbeats 400000 in
theorem w_bin_63 (a b:Int) (w:World) (h0:0≤a) (h1:a < 4294967296) (g0:0≤b) (g1:b < 4294967296):Calls Tryz.prog 178 #[.int .i64 63, .int .u32 a, .int .u32 b] w fun e w'=>e= .returned (.tuple #[.int .u32 (binX 63 a b), .int .i64 (binE 63 b)])∧Gr w w':=by
 have ha:=wrap32_sbd a
 have hb:=wrap32_sbd b
 rw[bin_63]
 go_enter Tryz.func178,Tryz.ntmps178
 go_wp2
 all_goals go_ret2
 all_goals
  refine ⟨ret_ii ?_ ?_,Gr.refl _⟩
  ·
   first
    |rfl
    |(simp only[shl,shr,sar];done)
    |(rw[u32_and _ _ h0 h1 g0 g1];done)
    |(rw[u32_or _ _ h0 h1 g0 g1];done)
    |(rw[u32_xor _ _ h0 h1 g0 g1];done)
    |(go_light;omega)
    |(go_light;simp only[fl,decide_eq_true_eq,beq_iff_eq,bne_iff_ne,ne_eq,beq_eq_false_iff_ne,bne_eq_false_iff_eq] at*;omega)
  ·simp[binE]
set_option maxHeartbeats 400000 in
theorem w_bin_64 (a b:Int) (w:World) (h0:0≤a) (h1:a < 4294967296) (g0:0≤b) (g1:b < 4294967296):Calls Tryz.prog 178 #[.int .i64 64, .int .u32 a, .int .u32 b] w fun e w'=>e= .returned (.tuple #[.int .u32 (binX 64 a b), .int .i64 (binE 64 b)])∧Gr w w':=by
 have ha:=wrap32_sbd a
 have hb:=wrap32_sbd b
 rw[bin_64]
 go_enter Tryz.func178,Tryz.ntmps178
 go_wp2
 all_goals go_ret2
 all_goals
  refine ⟨ret_ii ?_ ?_,Gr.refl _⟩
  ·
   first
    |rfl
    |(simp only[shl,shr,sar];done)
    |(rw[u32_and _ _ h0 h1 g0 g1];done)
    |(rw[u32_or _ _ h0 h1 g0 g1];done)
    |(rw[u32_xor _ _ h0 h1 g0 g1];done)
    |(go_light;omega)
    |(go_light;simp only[fl,decide_eq_true_eq,beq_iff_eq,bne_iff_ne,ne_eq,beq_eq_false_iff_ne,bne_eq_false_iff_eq] at*;omega)
  ·simp[binE]
set_option maxHeartbeats 400000 in
theorem w_bin_65 (a b:Int) (w:World) (h0:0≤a) (h1:a < 4294967296) (g0:0≤b) (g1:b < 4294967296):Calls Tryz.prog 178 #[.int .i64 65, .int .u32 a, .int .u32 b] w fun e w'=>e= .returned (.tuple #[.int .u32 (binX 65 a b), .int .i64 (binE 65 b)])∧Gr w w':=by
 have ha:=wrap32_sbd a
 have hb:=wrap32_sbd b
 rw[bin_65]
 go_enter Tryz.func178,Tryz.ntmps178
 go_wp2
 all_goals go_ret2
 all_goals
  refine ⟨ret_ii ?_ ?_,Gr.refl _⟩
  ·
   first
    |rfl
    |(simp only[shl,shr,sar];done)
    |(rw[u32_and _ _ h0 h1 g0 g1];done)
    |(rw[u32_or _ _ h0 h1 g0 g1];done)
    |(rw[u32_xor _ _ h0 h1 g0 g1];done)
    |(go_light;omega)
    |(go_light;simp only[fl,decide_eq_true_eq,beq_iff_eq,bne_iff_ne,ne_eq,beq_eq_false_iff_ne,bne_eq_false_iff_eq] at*;omega)
  ·simp[binE]
set_option maxHeartbeats 400000 in
theorem w_bin_66 (a b:Int) (w:World) (h0:0≤a) (h1:a < 4294967296) (g0:0≤b) (g1:b < 4294967296):Calls Tryz.prog 178 #[.int .i64 66, .int .u32 a, .int .u32 b] w fun e w'=>e= .returned (.tuple #[.int .u32 (binX 66 a b), .int .i64 (binE 66 b)])∧Gr w w':=by
 have ha:=wrap32_sbd a
 have hb:=wrap32_sbd b
 rw[bin_66]
 go_enter Tryz.func178,Tryz.ntmps178
 go_wp2
 all_goals go_ret2
 all_goals
  refine ⟨ret_ii ?_ ?_,Gr.refl _⟩
  ·
   first
    |rfl
    |(simp only[shl,shr,sar];done)
    |(rw[u32_and _ _ h0 h1 g0 g1];done)
    |(rw[u32_or _ _ h0 h1 g0 g1];done)
    |(rw[u32_xor _ _ h0 h1 g0 g1];done)
    |(go_light;omega)
    |(go_light;simp only[fl,decide_eq_true_eq,beq_iff_eq,bne_iff_ne,ne_eq,beq_eq_false_iff_ne,bne_eq_false_iff_eq] at*;omega)
  ·simp[binE]
set_option maxHeartbeats 400000 in
theorem w_bin_67 (a b:Int) (w:World) (h0:0≤a) (h1:a < 4294967296) (g0:0≤b) (g1:b < 4294967296):Calls Tryz.prog 178 #[.int .i64 67, .int .u32 a, .int .u32 b] w fun e w'=>e= .returned (.tuple #[.int .u32 (binX 67 a b), .int .i64 (binE 67 b)])∧Gr w w':=by
 have ha:=wrap32_sbd a
 have hb:=wrap32_sbd b
 rw[bin_67]
 go_enter Tryz.func178,Tryz.ntmps178
 go_wp2
 all_goals go_ret2
 all_goals
  refine ⟨ret_ii ?_ ?_,Gr.refl _⟩
  ·
   first
    |rfl
    |(simp only[shl,shr,sar];done)
    |(rw[u32_and _ _ h0 h1 g0 g1];done)
    |(rw[u32_or _ _ h0 h1 g0 g1];done)
    |(rw[u32_xor _ _ h0 h1 g0 g1];done)
    |(go_light;omega)
    |(go_light;simp only[fl,decide_eq_true_eq,beq_iff_eq,bne_iff_ne,ne_eq,beq_eq_false_iff_ne,bne_eq_false_iff_eq] at*;omega)
  ·simp[binE]
set_option maxHeartbeats 400000 in
theorem w_bin_33 (a b:Int) (w:World) (h0:0≤a) (h1:a < 4294967296) (g0:0≤b) (g1:b < 4294967296):Calls Tryz.prog 178 #[.int .i64 33, .int .u32 a, .int .u32 b] w fun e w'=>e= .returned (.tuple #[.int .u32 (binX 33 a b), .int .i64 (binE 33 b)])∧Gr w w':=by
 have ha:=wrap32_sbd a
 have hb:=wrap32_sbd b
 rw[bin_33]
 by_cases c:b=0
 ·subst c
  go_enter Tryz.func178,Tryz.ntmps178
  go_wp2_with (first|(go_at_call 241;refine (w_divide _ _ _ _ h0 h1 (by omega) (by omega)).mono ?_;rintro e w1 ⟨rfl,hg⟩))
  go_ret2
  refine ⟨ret_ii ?_ ?_,hg⟩
  ·first
    |rfl
    |exact (dv42_zero a).1.symm
  ·simp[binE,dvE]
 ·have hn:=wrap32_ne b g0 g1 c
  go_enter Tryz.func178,Tryz.ntmps178
  go_wp2_with (first|(go_at_call 241;refine (w_divide _ _ _ _ h0 h1 (by omega) (by omega)).mono ?_;rintro e w1 ⟨rfl,hg⟩))
  go_ret2
  refine ⟨ret_ii ?_ ?_,hg⟩
  ·first
    |rfl
    |exact (dv42 a b c).1.symm
  ·simp[binE,dvE,c]
set_option maxHeartbeats 400000 in
theorem w_bin_34 (a b:Int) (w:World) (h0:0≤a) (h1:a < 4294967296) (g0:0≤b) (g1:b < 4294967296):Calls Tryz.prog 178 #[.int .i64 34, .int .u32 a, .int .u32 b] w fun e w'=>e= .returned (.tuple #[.int .u32 (binX 34 a b), .int .i64 (binE 34 b)])∧Gr w w':=by
 have ha:=wrap32_sbd a
 have hb:=wrap32_sbd b
 rw[bin_34]
 by_cases c:b=0
 ·subst c
  go_enter Tryz.func178,Tryz.ntmps178
  go_wp2_with (first|(go_at_call 241;refine (w_divide _ _ _ _ h0 h1 (by omega) (by omega)).mono ?_;rintro e w1 ⟨rfl,hg⟩))
  go_ret2
  refine ⟨ret_ii ?_ ?_,hg⟩
  ·first
    |rfl
    |exact (dv42_zero a).2.symm
  ·simp[binE,dvE]
 ·have hn:=wrap32_ne b g0 g1 c
  go_enter Tryz.func178,Tryz.ntmps178
  go_wp2_with (first|(go_at_call 241;refine (w_divide _ _ _ _ h0 h1 (by omega) (by omega)).mono ?_;rintro e w1 ⟨rfl,hg⟩))
  go_ret2
  refine ⟨ret_ii ?_ ?_,hg⟩
  ·first
    |rfl
    |exact (dv42 a b c).2.symm
  ·simp[binE,dvE,c]
set_option maxHeartbeats 1000000 in
theorem w_bin (op a b:Int) (w:World) (h0:0≤a) (h1:a < 4294967296) (g0:0≤b) (g1:b < 4294967296):Calls Tryz.prog 178 #[.int .i64 op, .int .u32 a, .int .u32 b] w fun e w'=>e= .returned (.tuple #[.int .u32 (binX op a b), .int .i64 (binE op b)])∧Gr w w':=by
 by_cases c30:op=30
 ·subst c30;exact w_bin_30 a b w h0 h1 g0 g1
 by_cases c31:op=31
 ·subst c31;exact w_bin_31 a b w h0 h1 g0 g1
 by_cases c32:op=32
 ·subst c32;exact w_bin_32 a b w h0 h1 g0 g1
 by_cases c33:op=33
 ·subst c33;exact w_bin_33 a b w h0 h1 g0 g1
 by_cases c34:op=34
 ·subst c34;exact w_bin_34 a b w h0 h1 g0 g1
 by_cases c35:op=35
 ·subst c35;exact w_bin_35 a b w h0 h1 g0 g1
 by_cases c36:op=36
 ·subst c36;exact w_bin_36 a b w h0 h1 g0 g1
 by_cases c37:op=37
 ·subst c37;exact w_bin_37 a b w h0 h1 g0 g1
 by_cases c39:op=39
 ·subst c39;exact w_bin_39 a b w h0 h1 g0 g1
 by_cases c40:op=40
 ·subst c40;exact w_bin_40 a b w h0 h1 g0 g1
 by_cases c41:op=41
 ·subst c41;exact w_bin_41 a b w h0 h1 g0 g1
 by_cases c46:op=46
 ·subst c46;exact w_bin_46 a b w h0 h1 g0 g1
 by_cases c47:op=47
 ·subst c47;exact w_bin_47 a b w h0 h1 g0 g1
 by_cases c58:op=58
 ·subst c58;exact w_bin_58 a b w h0 h1 g0 g1
 by_cases c59:op=59
 ·subst c59;exact w_bin_59 a b w h0 h1 g0 g1
 by_cases c60:op=60
 ·subst c60;exact w_bin_60 a b w h0 h1 g0 g1
 by_cases c61:op=61
 ·subst c61;exact w_bin_61 a b w h0 h1 g0 g1
 by_cases c62:op=62
 ·subst c62;exact w_bin_62 a b w h0 h1 g0 g1
 by_cases c63:op=63
 ·subst c63;exact w_bin_63 a b w h0 h1 g0 g1
 by_cases c64:op=64
 ·subst c64;exact w_bin_64 a b w h0 h1 g0 g1
 by_cases c65:op=65
 ·subst c65;exact w_bin_65 a b w h0 h1 g0 g1
 by_cases c66:op=66
 ·subst c66;exact w_bin_66 a b w h0 h1 g0 g1
 by_cases c67:op=67
 ·subst c67;exact w_bin_67 a b w h0 h1 g0 g1
 have hx:Hid (binX op a b=0):=bin_other op a b c30 c31 c32 c33 c34 c35 c36 c37 c39 c40 c41 c46 c47 c58 c59 c60 c61 c62 c63 c64 c65 c66 c67
 have hq:Hid (binE op b=2):=by unfold binE;show _=_;omega
 go_enter Tryz.func178,Tryz.ntmps178
 go_wp2
 go_ret2
 exact ⟨ret_ii hx.out.symm hq.out.symm,Gr.refl _⟩
def unX (op a:Int):Int:=
 if op=38 then 4294967295 - a else
 if op=44 then -a%4294967296 else
 if op=45 then (if a < 2147483648 then a else 4294967296 - a) else
 if op=52 then (if a=0 then 4294967295 else 0) else
 if op=53 then (if a=0 then 0 else 4294967295) else
 if op=54 then (if a < 2147483648 then 0 else 4294967295) else
 if op=55 then (if a=0∨2147483648≤a then 4294967295 else 0) else
 if op=56 then (if a=0∨2147483648≤a then 0 else 4294967295) else
 if op=57 then (if a < 2147483648 then 4294967295 else 0) else
 if op=87 then (if a < 2147483648 then a / 2 else a / 2+2147483648) else
 if op=88 then a / 2 else
 if op=89 then 2*a%4294967296 else
 if op=128 then a%256*256+a / 256%256 else
 if op=129 then (if 97≤a∧a≤122 then a - 32 else a) else
 if op=130 then (if 65≤a∧a≤90 then a+32 else a) else 0
def unE (op:Int):Int:=
 if op=38∨op=44∨op=45∨(52≤op∧op≤57)∨(87≤op∧op≤89)∨(128≤op∧op≤130) then 0 else 2
set_option maxHeartbeats 1000000 in
theorem w_un (op a:Int) (w:World) (h0:0≤a) (h1:a < 4294967296):Calls Tryz.prog 179 #[.int .i64 op, .int .u32 a] w fun e w'=>e= .returned (.tuple #[.int .u32 (unX op a), .int .i64 (unE op)])∧w'=w:=by
 have hwb:=wrap32_sbd a
 by_cases c38:op=38
 ·subst c38
  go_enter Tryz.func179,Tryz.ntmps179
  go_wp2
  all_goals go_ret2
  all_goals
   refine ⟨ret_ii ?_ ?_,rfl⟩
   ·go_light
    have hw:wrap32 a=(a+2147483648)%4294967296 - 2147483648:=by unfold wrap32;rfl
    try simp only[fl,decide_eq_true_eq,beq_iff_eq,bne_iff_ne,beq_eq_false_iff_ne,bne_eq_false_iff_eq] at*
    rw[xor_max a h0 h1]
    unfold unX
    omega
   ·unfold unE;omega
 by_cases c44:op=44
 ·subst c44
  go_enter Tryz.func179,Tryz.ntmps179
  go_wp2
  all_goals go_ret2
  all_goals
   refine ⟨ret_ii ?_ ?_,rfl⟩
   ·go_light
    have hw:wrap32 a=(a+2147483648)%4294967296 - 2147483648:=by unfold wrap32;rfl
    try simp only[fl,decide_eq_true_eq,beq_iff_eq,bne_iff_ne,beq_eq_false_iff_ne,bne_eq_false_iff_eq] at*
    unfold unX
    omega
   ·unfold unE;omega
 by_cases c45:op=45
 ·subst c45
  go_enter Tryz.func179,Tryz.ntmps179
  go_wp2
  all_goals go_ret2
  all_goals
   refine ⟨ret_ii ?_ ?_,rfl⟩
   ·go_light
    have hw:wrap32 a=(a+2147483648)%4294967296 - 2147483648:=by unfold wrap32;rfl
    try simp only[fl,decide_eq_true_eq,beq_iff_eq,bne_iff_ne,beq_eq_false_iff_ne,bne_eq_false_iff_eq] at*
    unfold unX
    omega
   ·unfold unE;omega
 by_cases c52:op=52
 ·subst c52
  go_enter Tryz.func179,Tryz.ntmps179
  go_wp2
  all_goals go_ret2
  all_goals
   refine ⟨ret_ii ?_ ?_,rfl⟩
   ·go_light
    have hw:wrap32 a=(a+2147483648)%4294967296 - 2147483648:=by unfold wrap32;rfl
    try simp only[fl,decide_eq_true_eq,beq_iff_eq,bne_iff_ne,beq_eq_false_iff_ne,bne_eq_false_iff_eq] at*
    unfold unX
    omega
   ·unfold unE;omega
 by_cases c53:op=53
 ·subst c53
  go_enter Tryz.func179,Tryz.ntmps179
  go_wp2
  all_goals go_ret2
  all_goals
   refine ⟨ret_ii ?_ ?_,rfl⟩
   ·go_light
    have hw:wrap32 a=(a+2147483648)%4294967296 - 2147483648:=by unfold wrap32;rfl
    try simp only[fl,decide_eq_true_eq,beq_iff_eq,bne_iff_ne,beq_eq_false_iff_ne,bne_eq_false_iff_eq] at*
    unfold unX
    omega
   ·unfold unE;omega
 by_cases c54:op=54
 ·subst c54
  go_enter Tryz.func179,Tryz.ntmps179
  go_wp2
  all_goals go_ret2
  all_goals
   refine ⟨ret_ii ?_ ?_,rfl⟩
   ·go_light
    have hw:wrap32 a=(a+2147483648)%4294967296 - 2147483648:=by unfold wrap32;rfl
    try simp only[fl,decide_eq_true_eq,beq_iff_eq,bne_iff_ne,beq_eq_false_iff_ne,bne_eq_false_iff_eq] at*
    unfold unX
    omega
   ·unfold unE;omega
 by_cases c55:op=55
 ·subst c55
  go_enter Tryz.func179,Tryz.ntmps179
  go_wp2
  all_goals go_ret2
  all_goals
   refine ⟨ret_ii ?_ ?_,rfl⟩
   ·go_light
    have hw:wrap32 a=(a+2147483648)%4294967296 - 2147483648:=by unfold wrap32;rfl
    try simp only[fl,decide_eq_true_eq,beq_iff_eq,bne_iff_ne,beq_eq_false_iff_ne,bne_eq_false_iff_eq] at*
    unfold unX
    omega
   ·unfold unE;omega
 by_cases c56:op=56
 ·subst c56
  go_enter Tryz.func179,Tryz.ntmps179
  go_wp2
  all_goals go_ret2
  all_goals
   refine ⟨ret_ii ?_ ?_,rfl⟩
   ·go_light
    have hw:wrap32 a=(a+2147483648)%4294967296 - 2147483648:=by unfold wrap32;rfl
    try simp only[fl,decide_eq_true_eq,beq_iff_eq,bne_iff_ne,beq_eq_false_iff_ne,bne_eq_false_iff_eq] at*
    unfold unX
    omega
   ·unfold unE;omega
 by_cases c57:op=57
 ·subst c57
  go_enter Tryz.func179,Tryz.ntmps179
  go_wp2
  all_goals go_ret2
  all_goals
   refine ⟨ret_ii ?_ ?_,rfl⟩
   ·go_light
    have hw:wrap32 a=(a+2147483648)%4294967296 - 2147483648:=by unfold wrap32;rfl
    try simp only[fl,decide_eq_true_eq,beq_iff_eq,bne_iff_ne,beq_eq_false_iff_ne,bne_eq_false_iff_eq] at*
    unfold unX
    omega
   ·unfold unE;omega
 by_cases c87:op=87
 ·subst c87
  go_enter Tryz.func179,Tryz.ntmps179
  go_wp2
  all_goals go_ret2
  all_goals
   refine ⟨ret_ii ?_ ?_,rfl⟩
   ·go_light
    have hw:wrap32 a=(a+2147483648)%4294967296 - 2147483648:=by unfold wrap32;rfl
    try simp only[fl,decide_eq_true_eq,beq_iff_eq,bne_iff_ne,beq_eq_false_iff_ne,bne_eq_false_iff_eq] at*
    unfold unX
    omega
   ·unfold unE;omega
 by_cases c88:op=88
 ·subst c88
  go_enter Tryz.func179,Tryz.ntmps179
  go_wp2
  all_goals go_ret2
  all_goals
   refine ⟨ret_ii ?_ ?_,rfl⟩
   ·go_light
    have hw:wrap32 a=(a+2147483648)%4294967296 - 2147483648:=by unfold wrap32;rfl
    try simp only[fl,decide_eq_true_eq,beq_iff_eq,bne_iff_ne,beq_eq_false_iff_ne,bne_eq_false_iff_eq] at*
    unfold unX
    omega
   ·unfold unE;omega
 by_cases c89:op=89
 ·subst c89
  go_enter Tryz.func179,Tryz.ntmps179
  go_wp2
  all_goals go_ret2
  all_goals
   refine ⟨ret_ii ?_ ?_,rfl⟩
   ·go_light
    have hw:wrap32 a=(a+2147483648)%4294967296 - 2147483648:=by unfold wrap32;rfl
    try simp only[fl,decide_eq_true_eq,beq_iff_eq,bne_iff_ne,beq_eq_false_iff_ne,bne_eq_false_iff_eq] at*
    unfold unX
    omega
   ·unfold unE;omega
 by_cases c128:op=128
 ·subst c128
  go_enter Tryz.func179,Tryz.ntmps179
  go_wp2
  all_goals go_ret2
  all_goals
   refine ⟨ret_ii ?_ ?_,rfl⟩
   ·go_light
    have hw:wrap32 a=(a+2147483648)%4294967296 - 2147483648:=by unfold wrap32;rfl
    try simp only[fl,decide_eq_true_eq,beq_iff_eq,bne_iff_ne,beq_eq_false_iff_ne,bne_eq_false_iff_eq] at*
    rw[swap_eq a h0 h1]
    unfold unX
    omega
   ·unfold unE;omega
 by_cases c129:op=129
 ·subst c129
  go_enter Tryz.func179,Tryz.ntmps179
  go_wp2
  all_goals go_ret2
  all_goals
   refine ⟨ret_ii ?_ ?_,rfl⟩
   ·go_light
    have hw:wrap32 a=(a+2147483648)%4294967296 - 2147483648:=by unfold wrap32;rfl
    try simp only[fl,decide_eq_true_eq,beq_iff_eq,bne_iff_ne,beq_eq_false_iff_ne,bne_eq_false_iff_eq] at*
    unfold unX
    omega
   ·unfold unE;omega
 by_cases c130:op=130
 ·subst c130
  go_enter Tryz.func179,Tryz.ntmps179
  go_wp2
  all_goals go_ret2
  all_goals
   refine ⟨ret_ii ?_ ?_,rfl⟩
   ·go_light
    have hw:wrap32 a=(a+2147483648)%4294967296 - 2147483648:=by unfold wrap32;rfl
    try simp only[fl,decide_eq_true_eq,beq_iff_eq,bne_iff_ne,beq_eq_false_iff_ne,bne_eq_false_iff_eq] at*
    unfold unX
    omega
   ·unfold unE;omega
 ·go_enter Tryz.func179,Tryz.ntmps179
  go_wp2
  all_goals go_ret2
  all_goals
   refine ⟨ret_ii ?_ ?_,rfl⟩
   ·go_light
    have hw:wrap32 a=(a+2147483648)%4294967296 - 2147483648:=by unfold wrap32;rfl
    try simp only[fl,decide_eq_true_eq,beq_iff_eq,bne_iff_ne,beq_eq_false_iff_ne,bne_eq_false_iff_eq] at*
    unfold unX
    omega
   ·unfold unE;omega
set_option maxHeartbeats 1000000 in
theorem w_run (op a:Int) (w:World) (h0:0≤a) (h1:a < 4294967296):Calls Tryz.prog 136 #[.int .i64 op, .int .u32 a] w fun e w'=>e= .returned (.tuple #[.int .u32 (unX op a), .int .i64 (unE op)])∧w'=w:=by
 have hwb:=wrap32_sbd a
 by_cases c38:op=38
 ·subst c38
  go_enter Tryz.func136,Tryz.ntmps136
  go_wp2_with (first|(go_at_call 216;refine (w_rflag _ _).mono ?_;rintro e w' ⟨rfl,rfl⟩)|(go_at_call 215;refine (w_rcell _ _).mono ?_;rintro e w' ⟨rfl,rfl⟩)|(go_at_call 214;refine (w_rsigned _ _ (by omega) (by omega)).mono ?_;rintro e w' ⟨rfl,rfl⟩)|(go_at_call 217;refine (w_sar _ _ _ (by omega) (by omega) (by omega) (by omega)).mono ?_;rintro e w' ⟨rfl,rfl⟩))
  all_goals go_ret2
  all_goals
   refine ⟨ret_ii ?_ ?_,rfl⟩
   ·go_light
    have hw:wrap32 a=(a+2147483648)%4294967296 - 2147483648:=by unfold wrap32;rfl
    try simp only[fl,decide_eq_true_eq,beq_iff_eq,bne_iff_ne,beq_eq_false_iff_ne,bne_eq_false_iff_eq] at*
    unfold unX
    omega
   ·unfold unE;omega
 by_cases c44:op=44
 ·subst c44
  go_enter Tryz.func136,Tryz.ntmps136
  go_wp2_with (first|(go_at_call 216;refine (w_rflag _ _).mono ?_;rintro e w' ⟨rfl,rfl⟩)|(go_at_call 215;refine (w_rcell _ _).mono ?_;rintro e w' ⟨rfl,rfl⟩)|(go_at_call 214;refine (w_rsigned _ _ (by omega) (by omega)).mono ?_;rintro e w' ⟨rfl,rfl⟩)|(go_at_call 217;refine (w_sar _ _ _ (by omega) (by omega) (by omega) (by omega)).mono ?_;rintro e w' ⟨rfl,rfl⟩))
  all_goals go_ret2
  all_goals
   refine ⟨ret_ii ?_ ?_,rfl⟩
   ·go_light
    have hw:wrap32 a=(a+2147483648)%4294967296 - 2147483648:=by unfold wrap32;rfl
    try simp only[fl,decide_eq_true_eq,beq_iff_eq,bne_iff_ne,beq_eq_false_iff_ne,bne_eq_false_iff_eq] at*
    unfold unX
    omega
   ·unfold unE;omega
 by_cases c45:op=45
 ·subst c45
  go_enter Tryz.func136,Tryz.ntmps136
  go_wp2_with (first|(go_at_call 216;refine (w_rflag _ _).mono ?_;rintro e w' ⟨rfl,rfl⟩)|(go_at_call 215;refine (w_rcell _ _).mono ?_;rintro e w' ⟨rfl,rfl⟩)|(go_at_call 214;refine (w_rsigned _ _ (by omega) (by omega)).mono ?_;rintro e w' ⟨rfl,rfl⟩)|(go_at_call 217;refine (w_sar _ _ _ (by omega) (by omega) (by omega) (by omega)).mono ?_;rintro e w' ⟨rfl,rfl⟩))
  all_goals go_ret2
  all_goals
   refine ⟨ret_ii ?_ ?_,rfl⟩
   ·go_light
    have hw:wrap32 a=(a+2147483648)%4294967296 - 2147483648:=by unfold wrap32;rfl
    try simp only[fl,decide_eq_true_eq,beq_iff_eq,bne_iff_ne,beq_eq_false_iff_ne,bne_eq_false_iff_eq] at*
    unfold unX
    omega
   ·unfold unE;omega
 by_cases c52:op=52
 ·subst c52
  go_enter Tryz.func136,Tryz.ntmps136
  go_wp2_with (first|(go_at_call 216;refine (w_rflag _ _).mono ?_;rintro e w' ⟨rfl,rfl⟩)|(go_at_call 215;refine (w_rcell _ _).mono ?_;rintro e w' ⟨rfl,rfl⟩)|(go_at_call 214;refine (w_rsigned _ _ (by omega) (by omega)).mono ?_;rintro e w' ⟨rfl,rfl⟩)|(go_at_call 217;refine (w_sar _ _ _ (by omega) (by omega) (by omega) (by omega)).mono ?_;rintro e w' ⟨rfl,rfl⟩))
  all_goals go_ret2
  all_goals
   refine ⟨ret_ii ?_ ?_,rfl⟩
   ·go_light
    have hw:wrap32 a=(a+2147483648)%4294967296 - 2147483648:=by unfold wrap32;rfl
    try simp only[fl,decide_eq_true_eq,beq_iff_eq,bne_iff_ne,beq_eq_false_iff_ne,bne_eq_false_iff_eq] at*
    unfold unX
    omega
   ·unfold unE;omega
 by_cases c53:op=53
 ·subst c53
  go_enter Tryz.func136,Tryz.ntmps136
  go_wp2_with (first|(go_at_call 216;refine (w_rflag _ _).mono ?_;rintro e w' ⟨rfl,rfl⟩)|(go_at_call 215;refine (w_rcell _ _).mono ?_;rintro e w' ⟨rfl,rfl⟩)|(go_at_call 214;refine (w_rsigned _ _ (by omega) (by omega)).mono ?_;rintro e w' ⟨rfl,rfl⟩)|(go_at_call 217;refine (w_sar _ _ _ (by omega) (by omega) (by omega) (by omega)).mono ?_;rintro e w' ⟨rfl,rfl⟩))
  all_goals go_ret2
  all_goals
   refine ⟨ret_ii ?_ ?_,rfl⟩
   ·go_light
    have hw:wrap32 a=(a+2147483648)%4294967296 - 2147483648:=by unfold wrap32;rfl
    try simp only[fl,decide_eq_true_eq,beq_iff_eq,bne_iff_ne,beq_eq_false_iff_ne,bne_eq_false_iff_eq] at*
    unfold unX
    omega
   ·unfold unE;omega
 by_cases c54:op=54
 ·subst c54
  go_enter Tryz.func136,Tryz.ntmps136
  go_wp2_with (first|(go_at_call 216;refine (w_rflag _ _).mono ?_;rintro e w' ⟨rfl,rfl⟩)|(go_at_call 215;refine (w_rcell _ _).mono ?_;rintro e w' ⟨rfl,rfl⟩)|(go_at_call 214;refine (w_rsigned _ _ (by omega) (by omega)).mono ?_;rintro e w' ⟨rfl,rfl⟩)|(go_at_call 217;refine (w_sar _ _ _ (by omega) (by omega) (by omega) (by omega)).mono ?_;rintro e w' ⟨rfl,rfl⟩))
  all_goals go_ret2
  all_goals
   refine ⟨ret_ii ?_ ?_,rfl⟩
   ·go_light
    have hw:wrap32 a=(a+2147483648)%4294967296 - 2147483648:=by unfold wrap32;rfl
    try simp only[fl,decide_eq_true_eq,beq_iff_eq,bne_iff_ne,beq_eq_false_iff_ne,bne_eq_false_iff_eq] at*
    unfold unX
    omega
   ·unfold unE;omega
 by_cases c55:op=55
 ·subst c55
  go_enter Tryz.func136,Tryz.ntmps136
  go_wp2_with (first|(go_at_call 216;refine (w_rflag _ _).mono ?_;rintro e w' ⟨rfl,rfl⟩)|(go_at_call 215;refine (w_rcell _ _).mono ?_;rintro e w' ⟨rfl,rfl⟩)|(go_at_call 214;refine (w_rsigned _ _ (by omega) (by omega)).mono ?_;rintro e w' ⟨rfl,rfl⟩)|(go_at_call 217;refine (w_sar _ _ _ (by omega) (by omega) (by omega) (by omega)).mono ?_;rintro e w' ⟨rfl,rfl⟩))
  all_goals go_ret2
  all_goals
   refine ⟨ret_ii ?_ ?_,rfl⟩
   ·go_light
    have hw:wrap32 a=(a+2147483648)%4294967296 - 2147483648:=by unfold wrap32;rfl
    try simp only[fl,decide_eq_true_eq,beq_iff_eq,bne_iff_ne,beq_eq_false_iff_ne,bne_eq_false_iff_eq] at*
    unfold unX
    omega
   ·unfold unE;omega
 by_cases c56:op=56
 ·subst c56
  go_enter Tryz.func136,Tryz.ntmps136
  go_wp2_with (first|(go_at_call 216;refine (w_rflag _ _).mono ?_;rintro e w' ⟨rfl,rfl⟩)|(go_at_call 215;refine (w_rcell _ _).mono ?_;rintro e w' ⟨rfl,rfl⟩)|(go_at_call 214;refine (w_rsigned _ _ (by omega) (by omega)).mono ?_;rintro e w' ⟨rfl,rfl⟩)|(go_at_call 217;refine (w_sar _ _ _ (by omega) (by omega) (by omega) (by omega)).mono ?_;rintro e w' ⟨rfl,rfl⟩))
  all_goals go_ret2
  all_goals
   refine ⟨ret_ii ?_ ?_,rfl⟩
   ·go_light
    have hw:wrap32 a=(a+2147483648)%4294967296 - 2147483648:=by unfold wrap32;rfl
    try simp only[fl,decide_eq_true_eq,beq_iff_eq,bne_iff_ne,beq_eq_false_iff_ne,bne_eq_false_iff_eq] at*
    unfold unX
    omega
   ·unfold unE;omega
 by_cases c57:op=57
 ·subst c57
  go_enter Tryz.func136,Tryz.ntmps136
  go_wp2_with (first|(go_at_call 216;refine (w_rflag _ _).mono ?_;rintro e w' ⟨rfl,rfl⟩)|(go_at_call 215;refine (w_rcell _ _).mono ?_;rintro e w' ⟨rfl,rfl⟩)|(go_at_call 214;refine (w_rsigned _ _ (by omega) (by omega)).mono ?_;rintro e w' ⟨rfl,rfl⟩)|(go_at_call 217;refine (w_sar _ _ _ (by omega) (by omega) (by omega) (by omega)).mono ?_;rintro e w' ⟨rfl,rfl⟩))
  all_goals go_ret2
  all_goals
   refine ⟨ret_ii ?_ ?_,rfl⟩
   ·go_light
    have hw:wrap32 a=(a+2147483648)%4294967296 - 2147483648:=by unfold wrap32;rfl
    try simp only[fl,decide_eq_true_eq,beq_iff_eq,bne_iff_ne,beq_eq_false_iff_ne,bne_eq_false_iff_eq] at*
    unfold unX
    omega
   ·unfold unE;omega
 by_cases c87:op=87
 ·subst c87
  go_enter Tryz.func136,Tryz.ntmps136
  go_wp2_with (first|(go_at_call 216;refine (w_rflag _ _).mono ?_;rintro e w' ⟨rfl,rfl⟩)|(go_at_call 215;refine (w_rcell _ _).mono ?_;rintro e w' ⟨rfl,rfl⟩)|(go_at_call 214;refine (w_rsigned _ _ (by omega) (by omega)).mono ?_;rintro e w' ⟨rfl,rfl⟩)|(go_at_call 217;refine (w_sar _ _ _ (by omega) (by omega) (by omega) (by omega)).mono ?_;rintro e w' ⟨rfl,rfl⟩))
  all_goals go_ret2
  all_goals
   refine ⟨ret_ii ?_ ?_,rfl⟩
   ·go_light
    have hw:wrap32 a=(a+2147483648)%4294967296 - 2147483648:=by unfold wrap32;rfl
    try simp only[fl,decide_eq_true_eq,beq_iff_eq,bne_iff_ne,beq_eq_false_iff_ne,bne_eq_false_iff_eq] at*
    have hs:=sar_succ a 0
    rw[sar_zero a h0 h1,Nat.zero_add] at hs
    rw[hs]
    unfold unX
    omega
   ·unfold unE;omega
 by_cases c88:op=88
 ·subst c88
  go_enter Tryz.func136,Tryz.ntmps136
  go_wp2_with (first|(go_at_call 216;refine (w_rflag _ _).mono ?_;rintro e w' ⟨rfl,rfl⟩)|(go_at_call 215;refine (w_rcell _ _).mono ?_;rintro e w' ⟨rfl,rfl⟩)|(go_at_call 214;refine (w_rsigned _ _ (by omega) (by omega)).mono ?_;rintro e w' ⟨rfl,rfl⟩)|(go_at_call 217;refine (w_sar _ _ _ (by omega) (by omega) (by omega) (by omega)).mono ?_;rintro e w' ⟨rfl,rfl⟩))
  all_goals go_ret2
  all_goals
   refine ⟨ret_ii ?_ ?_,rfl⟩
   ·go_light
    have hw:wrap32 a=(a+2147483648)%4294967296 - 2147483648:=by unfold wrap32;rfl
    try simp only[fl,decide_eq_true_eq,beq_iff_eq,bne_iff_ne,beq_eq_false_iff_ne,bne_eq_false_iff_eq] at*
    unfold unX
    omega
   ·unfold unE;omega
 by_cases c89:op=89
 ·subst c89
  go_enter Tryz.func136,Tryz.ntmps136
  go_wp2_with (first|(go_at_call 216;refine (w_rflag _ _).mono ?_;rintro e w' ⟨rfl,rfl⟩)|(go_at_call 215;refine (w_rcell _ _).mono ?_;rintro e w' ⟨rfl,rfl⟩)|(go_at_call 214;refine (w_rsigned _ _ (by omega) (by omega)).mono ?_;rintro e w' ⟨rfl,rfl⟩)|(go_at_call 217;refine (w_sar _ _ _ (by omega) (by omega) (by omega) (by omega)).mono ?_;rintro e w' ⟨rfl,rfl⟩))
  all_goals go_ret2
  all_goals
   refine ⟨ret_ii ?_ ?_,rfl⟩
   ·go_light
    have hw:wrap32 a=(a+2147483648)%4294967296 - 2147483648:=by unfold wrap32;rfl
    try simp only[fl,decide_eq_true_eq,beq_iff_eq,bne_iff_ne,beq_eq_false_iff_ne,bne_eq_false_iff_eq] at*
    unfold unX
    omega
   ·unfold unE;omega
 by_cases c128:op=128
 ·subst c128
  go_enter Tryz.func136,Tryz.ntmps136
  go_wp2_with (first|(go_at_call 216;refine (w_rflag _ _).mono ?_;rintro e w' ⟨rfl,rfl⟩)|(go_at_call 215;refine (w_rcell _ _).mono ?_;rintro e w' ⟨rfl,rfl⟩)|(go_at_call 214;refine (w_rsigned _ _ (by omega) (by omega)).mono ?_;rintro e w' ⟨rfl,rfl⟩)|(go_at_call 217;refine (w_sar _ _ _ (by omega) (by omega) (by omega) (by omega)).mono ?_;rintro e w' ⟨rfl,rfl⟩))
  all_goals go_ret2
  all_goals
   refine ⟨ret_ii ?_ ?_,rfl⟩
   ·go_light
    have hw:wrap32 a=(a+2147483648)%4294967296 - 2147483648:=by unfold wrap32;rfl
    try simp only[fl,decide_eq_true_eq,beq_iff_eq,bne_iff_ne,beq_eq_false_iff_ne,bne_eq_false_iff_eq] at*
    unfold unX
    omega
   ·unfold unE;omega
 by_cases c129:op=129
 ·subst c129
  go_enter Tryz.func136,Tryz.ntmps136
  go_wp2_with (first|(go_at_call 216;refine (w_rflag _ _).mono ?_;rintro e w' ⟨rfl,rfl⟩)|(go_at_call 215;refine (w_rcell _ _).mono ?_;rintro e w' ⟨rfl,rfl⟩)|(go_at_call 214;refine (w_rsigned _ _ (by omega) (by omega)).mono ?_;rintro e w' ⟨rfl,rfl⟩)|(go_at_call 217;refine (w_sar _ _ _ (by omega) (by omega) (by omega) (by omega)).mono ?_;rintro e w' ⟨rfl,rfl⟩))
  all_goals go_ret2
  all_goals
   refine ⟨ret_ii ?_ ?_,rfl⟩
   ·go_light
    have hw:wrap32 a=(a+2147483648)%4294967296 - 2147483648:=by unfold wrap32;rfl
    try simp only[fl,decide_eq_true_eq,beq_iff_eq,bne_iff_ne,beq_eq_false_iff_ne,bne_eq_false_iff_eq] at*
    unfold unX
    omega
   ·unfold unE;omega
 by_cases c130:op=130
 ·subst c130
  go_enter Tryz.func136,Tryz.ntmps136
  go_wp2_with (first|(go_at_call 216;refine (w_rflag _ _).mono ?_;rintro e w' ⟨rfl,rfl⟩)|(go_at_call 215;refine (w_rcell _ _).mono ?_;rintro e w' ⟨rfl,rfl⟩)|(go_at_call 214;refine (w_rsigned _ _ (by omega) (by omega)).mono ?_;rintro e w' ⟨rfl,rfl⟩)|(go_at_call 217;refine (w_sar _ _ _ (by omega) (by omega) (by omega) (by omega)).mono ?_;rintro e w' ⟨rfl,rfl⟩))
  all_goals go_ret2
  all_goals
   refine ⟨ret_ii ?_ ?_,rfl⟩
   ·go_light
    have hw:wrap32 a=(a+2147483648)%4294967296 - 2147483648:=by unfold wrap32;rfl
    try simp only[fl,decide_eq_true_eq,beq_iff_eq,bne_iff_ne,beq_eq_false_iff_ne,bne_eq_false_iff_eq] at*
    unfold unX
    omega
   ·unfold unE;omega
 ·go_enter Tryz.func136,Tryz.ntmps136
  go_wp2_with (first|(go_at_call 216;refine (w_rflag _ _).mono ?_;rintro e w' ⟨rfl,rfl⟩)|(go_at_call 215;refine (w_rcell _ _).mono ?_;rintro e w' ⟨rfl,rfl⟩)|(go_at_call 214;refine (w_rsigned _ _ (by omega) (by omega)).mono ?_;rintro e w' ⟨rfl,rfl⟩)|(go_at_call 217;refine (w_sar _ _ _ (by omega) (by omega) (by omega) (by omega)).mono ?_;rintro e w' ⟨rfl,rfl⟩))
  all_goals go_ret2
  all_goals
   refine ⟨ret_ii ?_ ?_,rfl⟩
   ·go_light
    have hw:wrap32 a=(a+2147483648)%4294967296 - 2147483648:=by unfold wrap32;rfl
    try simp only[fl,decide_eq_true_eq,beq_iff_eq,bne_iff_ne,beq_eq_false_iff_ne,bne_eq_false_iff_eq] at*
    unfold unX
    omega
   ·unfold unE;omega
def fcQ (q:Int):Int:=if 4294967295 < q then 0 else q
def fcR (q r:Int):Int:=if 4294967295 < q then 0 else r%4294967296
def fcE (q:Int):Int:=if 4294967295 < q then 4 else 0
def fsQ (q:Int):Int:=if q < -2147483648∨2147483647 < q then 0 else q%4294967296
def fsR (q r:Int):Int:=if q < -2147483648∨2147483647 < q then 0 else r%4294967296
def fsE (q:Int):Int:=if q < -2147483648∨2147483647 < q then 4 else 0
theorem wrap_u64_bd (e:Int):0≤IntKind.u64.wrap e∧IntKind.u64.wrap e < 18446744073709551616:=by rw[IntKind.wrap_u64];omega
def dbN (op a0 a1 b0 b1:Int):Int:=
 if op=216 then IntKind.u64.wrap (a0+a1*4294967296+(b0+b1*4294967296)) else
 if op=217 then IntKind.u64.wrap (a0+a1*4294967296 - (b0+b1*4294967296)) else 0
def dbL (op a0 a1 b0 b1:Int):Int:=dbN op a0 a1 b0 b1%4294967296
def dbH (op a0 a1 b0 b1:Int):Int:=dbN op a0 a1 b0 b1 / 4294967296
def jn (x0 x1 x2 x3:Int):Int:=x0%256+x1%256*256+x2%256*65536+x3%256*16777216
end Go.Proofs.YtbamcchghecpeaaGreatDoor.Cel
namespace Go.Proofs.YtbamcchghecpeaaGreatDoor
open Cel (unE unX binE binX dvE dvQ dvR dbL dbH jn fcQ fcR fcE fsQ fsR fsE)
open Stk (doF)
def iWi (c lo hi d:Int):Int×Int×Int:=
 let N:=hi*4294967296+lo
 let M:=if hi < 2147483648 then N else N - 18446744073709551616
 let D:=iS32 d
 if d=0 then (0,0,7) else if c=213 then (fcQ (N / d),fcR (N / d) (N%d),fcE (N / d))
 else if c=469 then (fsQ (M.tdiv D),fsR (M.tdiv D) (M.tmod D),fsE (M.tdiv D))
 else (fsQ (M.fdiv D),fsR (M.fdiv D) (M.fmod D),fsE (M.fdiv D))
def iWith (s:Rs) (k:Nat) (f:List Int→Rs×Int):Rs×Int:=if (iTop s k).2≠0 then (s,(iTop s k).2) else f (iTop s k).1
def iAr (c:Int) (s:Rs):Option (Rs×Int):=
 if unE c=0 then some (iWith s 1 fun l=>iSwp s 1 [unX c (l.getD 0 0)])
 else if binE c 1=0 then some (iWith s 2 fun l=>if binE c (l.getD 1 0)≠0 then (s,binE c (l.getD 1 0)) else iSwp s 2 [binX c (l.getD 0 0) (l.getD 1 0)])
 else if c=212 then some (iWith s 2 fun l=>iSwp s 2 [l.getD 0 0*l.getD 1 0%4294967296,l.getD 0 0*l.getD 1 0 / 4294967296])
 else if c=42∨c=43 then some (iWith s 2 fun l=>if dvE c (l.getD 1 0)≠0 then (s,dvE c (l.getD 1 0)) else iSwp s 2 [dvR c (l.getD 0 0) (l.getD 1 0),dvQ c (l.getD 0 0) (l.getD 1 0)])
 else if c=213∨c=469∨c=725 then some (iWith s 3 fun l=>
  let r:=iWi c (l.getD 0 0) (l.getD 1 0) (l.getD 2 0)
  if r.2.2≠0 then (s,r.2.2) else iSwp s 3 [r.2.1,r.1])
 else if c=216∨c=217 then some (iWith s 4 fun l=>iSwp s 4 [dbL c (l.getD 0 0) (l.getD 1 0) (l.getD 2 0) (l.getD 3 0),dbH c (l.getD 0 0) (l.getD 1 0) (l.getD 2 0) (l.getD 3 0)])
 else if c=126 then some (iWith s 1 fun l=>let a:=l.getD 0 0;iSwp s 1 [a%256,a / 256%256,a / 65536%256,a / 16777216%256])
 else if c=127 then some (iWith s 4 fun l=>iSwp s 4 [jn (l.getD 0 0) (l.getD 1 0) (l.getD 2 0) (l.getD 3 0)])
 else if 164≤c∧c≤168 then some (iSwp s 0 [(c - 165)%4294967296])
 else if c=169 then some (iSwp s 0 [32])
 else if c=173 then some (iSwp s 0 [(s.m.mem.length:Int)])
 else none
def iRet (c:Int) (s:Rs):Rs×Int:=
 let k:=s.ret.length
 if c=48 then iWith s 1 fun l=>if 64≤k then (s,12) else iSwp {s with ret:=s.ret++[l.getD 0 0]} 1 []
 else if c=26 then if iOwn s < 3 then (s,12) else iSwp s 0 [s.ret.getD (k - 3) 0]
 else if c=137 then if iOwn s < 2 then (s,12) else ({s with ret:=s.ret.take (k - 2)},0)
 else if iOwn s < 1 then (s,12) else
  let r:=iSwp s 0 [s.ret.getD (k - 1) 0]
  if r.2=0∧c=49 then ({r.1 with ret:=s.ret.take (k - 1)},0) else r
def iSz (c:Int):Int:=if c=111∨c=116 then 2 else if c=113∨c=117 then 1 else 4
def iMm (c:Int) (m l:List Int):List Int×Int×Int:=
 let a:=l.getD 0 0
 let b:=l.getD 1 0
 let d:=l.getD 2 0
 if c=109∨c=111∨c=113 then (m,(fetF m a (iSz c)).1,(fetF m a (iSz c)).2)
 else if c=114∨c=116∨c=117 then ((stoF m b (iSz c) a).1,0,(stoF m b (iSz c) a).2)
 else if c=108 then
  if (fetF m b 4).2≠0 then (m,0,(fetF m b 4).2) else ((stoF m b 4 (((fetF m b 4).1+a)%4294967296)).1,0,(stoF m b 4 (((fetF m b 4).1+a)%4294967296)).2)
 else if c=120 then ((movF m a b d).1,0,(movF m a b d).2)
 else if c=121 then ((filF m a b d).1,0,(filF m a b d).2)
 else if c=122 then (m,(cmpF m a b d).1,(cmpF m a b d).2)
 else ((allF m a).1,(allF m a).2.1,(allF m a).2.2)
def iMn (c:Int):Nat:=if c=109∨c=111∨c=113∨c=139 then 1 else if c=120∨c=121∨c=122 then 3 else 2
def iMem (c:Int) (s:Rs):Rs×Int:=iWith s (iMn c) fun l=>
 let r:=iMm c s.m.mem l
 if r.2.2≠0 then (s,r.2.2) else iSwp {s with m:={s.m with mem:=r.1}} (iMn c) (if iMn c=1∨c=122 then [r.2.1] else [])
def iShw (s:Rs) (k:Nat) (t:List Int):Rs×Int:=iWith s k fun _=>
 if 1024 < s.m.out.length+t.length then (s,18) else iSwp {s with m:={s.m with out:=s.m.out++t}} k []
def iCon (c:Int) (s:Rs):Rs×Int:=
 if c=146 then iShw s 0 [10] else
 if c=144 then iWith s 2 fun l=>if (texF s.m.mem (l.getD 0 0) (l.getD 1 0)).2≠0 then (s,(texF s.m.mem (l.getD 0 0) (l.getD 1 0)).2) else iShw s 2 (texF s.m.mem (l.getD 0 0) (l.getD 1 0)).1
 else iWith s 1 fun l=>let a:=l.getD 0 0
  if c=143 then iShw s 1 [a%256] else if c=155 then iShw s 1 (sh s.m.base a++[32]) else if c=157 then iShw s 1 (sg s.m.base a++[32])
  else if a < 2∨36 < a then (s,1) else iShw {s with m:={s.m with base:=a}} 1 []
def iLay (s:Rs) (k:Nat) (b more:List Int):Rs×Int:=
 let r:=allF s.m.mem b.length
 if r.2.2≠0 then (s,r.2.2) else
 let q:=iSwp s k (r.2.1::more)
 if q.2=0 then ({q.1 with m:={q.1.m with mem:=(putF r.1 r.2.1 b).1}},0) else q
def iPrp (c:Int) (s:Rs):Rs×Int:=
 let k:Nat:=if c=272 then 4 else 2
 iWith s k fun l=>
  if s.m.node < 0 then (s,19) else
  let nm:=texF s.m.mem (l.getD (k - 2) 0) (l.getD (k - 1) 0)
  if nm.2≠0 then (s,nm.2) else
  if c=272 then
   let b:=texF s.m.mem (l.getD 0 0) (l.getD 1 0)
   if b.2≠0 then (s,b.2) else
   let t:=setF s.m.tree s.m.node nm.1 b.1
   if t.2≠0 then (s,t.2) else iSwp {s with m:={s.m with tree:=t.1}} 4 []
  else if c=542 then
   let t:=drpF s.m.tree s.m.node nm.1
   if t.2≠0 then (s,t.2) else iSwp {s with m:={s.m with tree:=t.1}} 2 []
  else
   let b:=getF s.m.tree s.m.node nm.1
   if b.2≠0 then iSwp s 2 [4294967295] else iLay s 2 b.1 [(b.1.length:Int),0]
def iChd (s:Rs):Rs×Int:=iWith s 3 fun l=>
 if 4 < l.getD 0 0 then (s,1) else
 let n:=(l.getD 0 0).toNat
 iWith s (n+3) fun all=>
  let nm:=texF s.m.mem (l.getD 1 0) (l.getD 2 0)
  if nm.2≠0 then (s,nm.2) else
  let t:=addF s.m.tree (max 0 s.m.node) nm.1 (all.take n)
  if t.2.2≠0 then (s,t.2.2) else iSwp {s with m:={s.m with tree:=t.1,node:=t.2.1}} (n+3) []
def iDev (c:Int) (s:Rs):Rs×Int:=
 if c=273 then iWith s 1 fun l=>iLay s 1 (beB 4 (l.getD 0 0)) [4]
 else if c=274 then iWith s 4 fun l=>
  let a:=texF s.m.mem (l.getD 0 0) (l.getD 1 0)
  let b:=texF s.m.mem (l.getD 2 0) (l.getD 3 0)
  if a.2≠0∨b.2≠0 then (s,9) else
  let n:=(l.getD 1 0+l.getD 3 0)%4294967296
  if (l.getD 0 0+l.getD 1 0)%4294967296=l.getD 2 0 then iSwp s 4 [l.getD 0 0,n] else iLay s 4 (a.1++b.1) [n]
 else if c=272∨c=542∨c=538 then iPrp c s
 else if c=287 then iChd s
 else if c=295 then if s.m.node < 0 then (s,19) else ({s with m:={s.m with node:=(s.m.tree.getD s.m.node.toNat ([],[],0,[],[])).2.2.1}},0)
 else if c=515 then iSwp s 0 [(s.m.self+1)%4294967296]
 else if c=522 then if s.m.self < 0 then (s,21) else iSwp s 0 [((s.m.insts.getD s.m.self.toNat (-1, -1,[],[])).2.1+1)%4294967296]
 else iWith s 2 fun l=>
  let t:=texF s.m.mem (l.getD 0 0) (l.getD 1 0)
  if t.2≠0 then (s,t.2) else
  if c=276 then if (enTF t.1).2≠0 then (s,(enTF t.1).2) else iLay s 2 (enTF t.1).1 [((enTF t.1).1.length:Int)]
  else if c=539 then if (deIF t.1).2.2≠0 then (s,(deIF t.1).2.2) else iSwp s 2 [(l.getD 0 0+4)%4294967296,(l.getD 1 0 - 4)%4294967296,(deIF t.1).1]
  else if (deTF t.1).2.2≠0 then (s,(deTF t.1).2.2) else
   let n:Int:=(deTF t.1).1.length
   iSwp s 2 [(l.getD 0 0+n+1)%4294967296,(l.getD 1 0 - n - 1)%4294967296,l.getD 0 0,n]
def iP (c:Int) (s:Rs):Rs×Int:=
 match iAr c s with
 |some r=>r
 |none=>
  if (doF c s.m.stack).2≠2 then if (doF c s.m.stack).2=0 then ({s with m:={s.m with stack:=(doF c s.m.stack).1}},0) else (s,(doF c s.m.stack).2)
  else if c=536 then iWith s 1 fun l=>if l.getD 0 0=0 then iSwp s 1 [] else ({s with n:=l.getD 0 0},28)
  else if c=48∨c=49∨c=50∨c=25∨c=26∨c=137 then iRet c s
  else if c=108∨c=109∨c=111∨c=113∨c=114∨c=116∨c=117∨c=120∨c=121∨c=122∨c=139 then iMem c s
  else if c=143∨c=144∨c=146∨c=155∨c=157∨c=160 then iCon c s
  else iDev c s
theorem iWith_fr {s:Rs} (g:Bs s) (k:Nat) (f:List Int→Rs×Int) (h:∀l,Fr s (f l).1):Fr s (iWith s k f).1:=by
 unfold iWith;split
 ·exact Fr.refl g
 ·exact h _
theorem Mo.trans {s r t:Rs} (h:Mo s r) (g:Mo r t):Mo s t:=⟨g.1.trans h.1,g.2.1.trans h.2.1,g.2.2.trans h.2.2⟩
theorem iWith_mo {s:Rs} (k:Nat) (f:List Int→Rs×Int) (h:∀l,Mo s (f l).1):Mo s (iWith s k f).1:=by
 unfold iWith;split
 ·exact ⟨rfl,rfl,rfl⟩
 ·exact h _
theorem iAr_mo {c:Int} {s:Rs} {r:Rs×Int} (h:iAr c s=some r):Mo s r.1:=by
 unfold iAr at h
 repeat' split at h
 all_goals first
  |(cases h;done)
  |(cases h;exact iSwp_mo _ _ _)
  |(cases h;refine iWith_mo _ _ fun l=> ?_;(try dsimp only);first|exact iSwp_mo _ _ _|(split <;> first|exact ⟨rfl,rfl,rfl⟩|exact iSwp_mo _ _ _))
theorem iMem_mo (c:Int) (s:Rs):Mo s (iMem c s).1:=by
 refine iWith_mo _ _ fun l=> ?_
 try dsimp only
 split
 ·exact ⟨rfl,rfl,rfl⟩
 ·have m:=iSwp_mo {s with m:={s.m with mem:=(iMm c s.m.mem l).1}} (iMn c) (if iMn c=1∨c=122 then [(iMm c s.m.mem l).2.1] else [])
  exact ⟨m.1,m.2.1,m.2.2⟩
theorem iShw_mo (s:Rs) (k:Nat) (t:List Int):Mo s (iShw s k t).1:=by
 refine iWith_mo _ _ fun l=> ?_
 try dsimp only
 split
 ·exact ⟨rfl,rfl,rfl⟩
 ·have m:=iSwp_mo {s with m:={s.m with out:=s.m.out++t}} k []
  exact ⟨m.1,m.2.1,m.2.2⟩
theorem iCon_mo (c:Int) (s:Rs):Mo s (iCon c s).1:=by
 unfold iCon
 split
 ·exact iShw_mo _ _ _
 ·split
  ·refine iWith_mo _ _ fun l=> ?_
   try dsimp only
   split
   ·exact ⟨rfl,rfl,rfl⟩
   ·exact iShw_mo _ _ _
  ·refine iWith_mo _ _ fun l=> ?_
   try dsimp only
   repeat' split
   all_goals first
    |exact iShw_mo s _ _
    |exact ⟨rfl,rfl,rfl⟩
    |(have m:=iShw_mo {s with m:={s.m with base:=l.getD 0 0}} 1 [];exact ⟨m.1,m.2.1,m.2.2⟩)
theorem iLay_mo (s:Rs) (k:Nat) (b more:List Int):Mo s (iLay s k b more).1:=by
 have m:=iSwp_mo s k ((allF s.m.mem b.length).2.1::more)
 unfold iLay
 try dsimp only
 repeat' split
 all_goals first|exact ⟨rfl,rfl,rfl⟩|exact ⟨m.1,m.2.1,m.2.2⟩
theorem mo_swp {s x:Rs} (h:Mo s x) (k:Nat) (l:List Int):Mo s (iSwp x k l).1:=h.trans (iSwp_mo _ _ _)
theorem iPrp_mo (c:Int) (s:Rs):Mo s (iPrp c s).1:=by
 unfold iPrp
 try dsimp only
 refine iWith_mo _ _ fun l=> ?_
 try dsimp only
 repeat' split
 all_goals first
  |exact ⟨rfl,rfl,rfl⟩
  |exact iSwp_mo s _ _
  |exact iLay_mo _ _ _ _
  |exact mo_swp ⟨rfl,rfl,rfl⟩ _ _
theorem iChd_mo (s:Rs):Mo s (iChd s).1:=by
 refine iWith_mo _ _ fun l=> ?_
 try dsimp only
 split
 ·exact ⟨rfl,rfl,rfl⟩
 ·refine iWith_mo _ _ fun l=> ?_
  try dsimp only
  repeat' split
  all_goals first|exact ⟨rfl,rfl,rfl⟩|exact mo_swp ⟨rfl,rfl,rfl⟩ _ _
theorem ite_mo {s:Rs} {p:Prop} [Decidable p] {x y:Rs×Int} (hx:p→Mo s x.1) (hy:¬p→Mo s y.1):Mo s (if p then x else y).1:=by
 by_cases h:p
 ·rw[if_pos h];exact hx h
 ·rw[if_neg h];exact hy h
theorem iDev_mo (c:Int) (s:Rs):Mo s (iDev c s).1:=by
 unfold iDev
 try dsimp only
 refine ite_mo (fun _=>iWith_mo _ _ fun l=>iLay_mo _ _ _ _) fun _=> ?_
 refine ite_mo (fun _=>iWith_mo _ _ fun l=>ite_mo (fun _=>⟨rfl,rfl,rfl⟩) fun _=>ite_mo (fun _=>iSwp_mo _ _ _) fun _=>iLay_mo _ _ _ _) fun _=> ?_
 refine ite_mo (fun _=>iPrp_mo _ _) fun _=> ?_
 refine ite_mo (fun _=>iChd_mo _) fun _=> ?_
 refine ite_mo (fun _=>ite_mo (fun _=>⟨rfl,rfl,rfl⟩) fun _=>⟨rfl,rfl,rfl⟩) fun _=> ?_
 refine ite_mo (fun _=>iSwp_mo _ _ _) fun _=> ?_
 refine ite_mo (fun _=>ite_mo (fun _=>⟨rfl,rfl,rfl⟩) fun _=>iSwp_mo _ _ _) fun _=> ?_
 refine iWith_mo _ _ fun l=>ite_mo (fun _=>⟨rfl,rfl,rfl⟩) fun _=> ?_
 refine ite_mo (fun _=>ite_mo (fun _=>⟨rfl,rfl,rfl⟩) fun _=>iLay_mo _ _ _ _) fun _=> ?_
 refine ite_mo (fun _=>ite_mo (fun _=>⟨rfl,rfl,rfl⟩) fun _=>iSwp_mo _ _ _) fun _=> ?_
 exact ite_mo (fun _=>⟨rfl,rfl,rfl⟩) fun _=>iSwp_mo _ _ _
theorem iRet_fr (c:Int) (s:Rs) (g:Bs s):Fr s (iRet c s).1:=by
 have g1:=g.1
 have g2:=g.2
 unfold iRet
 try dsimp only
 split
 ·refine iWith_fr g _ _ fun l=> ?_
  try dsimp only
  split
  ·exact Fr.refl g
  ·have m:=iSwp_mo {s with ret:=s.ret++[l.getD 0 0]} 1 []
   exact fr_add g m.1 m.2.1 _ m.2.2
 ·split
  ·split
   ·exact Fr.refl g
   ·exact (iSwp_mo _ _ _).fr g
  ·split
   ·split
    ·exact Fr.refl g
    ·rename_i h
     unfold iOwn at h
     exact fr_cut g rfl rfl (s.ret.length - 2) (by omega) rfl
   ·split
    ·exact Fr.refl g
    ·rename_i h
     unfold iOwn at h
     have m:=iSwp_mo s 0 [s.ret.getD (s.ret.length - 1) 0]
     split
     ·exact fr_cut g m.1 m.2.1 (s.ret.length - 1) (by omega) rfl
     ·exact m.fr g
theorem iP_kp:Kp iP:=by
 intro c s g
 unfold iP
 split
 ·rename_i r h
  exact (iAr_mo h).fr g
 ·repeat' split
  all_goals first
   |exact Fr.refl g
   |exact iRet_fr _ _ g
   |exact (iMem_mo _ _).fr g
   |exact (iCon_mo _ _).fr g
   |exact (iDev_mo _ _).fr g
   |exact Mo.fr ⟨rfl,rfl,rfl⟩ g
   |(refine iWith_fr g _ _ fun l=> ?_
     try dsimp only
     split
     ·exact (iSwp_mo _ _ _).fr g
     ·exact Mo.fr ⟨rfl,rfl,rfl⟩ g)
def begF (m:Mc):Rs:={m:=m,ret:=[],base:=0,depth:=0,n:=0}
def whoF (P:Int→Rs→Rs×Int) (m:Mc) (xt:Int) (fuel:Nat):Rs×Nat×Int:=
 let r:=runF P (fuel+1) (.word xt) (begF m) fuel
 (r.1,r.2.1,if r.2.2=0∧¬r.1.ret=[] then 12 else r.2.2)
theorem run_end (P:Int→Rs→Rs×Int) {f:Nat} {l:List Opd} {pos:Nat} {s:Rs} {left:Nat} (h:l[pos]? =none):runF P (f+1) (.ops l pos) s left=(s,left,0):=by
 simp only[runF,h]
theorem run_op (P:Int→Rs→Rs×Int) {f:Nat} {l:List Opd} {pos:Nat} {s s':Rs} {k:Nat} {o:Opd} {b:Bool} (h:l[pos]? =some o) (h1:¬o.1=12) (h2:¬o.1=2) (e:iOp s o=(s',b,0)):
  runF P (f+1) (.ops l pos) s (k+1)=runF P f (.ops l (if b then o.2.toNat else pos+1)) s' k:=by
 simp only[runF,h,h1,h2,e,if_false,if_true]
theorem run_opE (P:Int→Rs→Rs×Int) {f:Nat} {l:List Opd} {pos:Nat} {s s':Rs} {k:Nat} {o:Opd} {b:Bool} {x:Int} (h:l[pos]? =some o) (h1:¬o.1=12) (h2:¬o.1=2) (e:iOp s o=(s',b,x)) (hx:¬x=0):
  runF P (f+1) (.ops l pos) s (k+1)=(s',k,x):=by
 simp only[runF,h,h1,h2,e,hx,if_false]
theorem run_colon (P:Int→Rs→Rs×Int) {f:Nat} {xt:Int} {s:Rs} {k:Nat} {l:List Opd} (h1:(iWd s xt).2.2.1=2) (h2:(iWd s xt).2.2.2.2=l) (hd:s.depth < 32):
  runF P (f+1) (.word xt) s (k+1)=
   ({(runF P f (.ops l 0) {s with depth:=s.depth+1,base:=s.ret.length} k).1 with base:=s.base,depth:=(runF P f (.ops l 0) {s with depth:=s.depth+1,base:=s.ret.length} k).1.depth - 1},
    (runF P f (.ops l 0) {s with depth:=s.depth+1,base:=s.ret.length} k).2.1,
    if (runF P f (.ops l 0) {s with depth:=s.depth+1,base:=s.ret.length} k).2.2=0∧¬iOwn (runF P f (.ops l 0) {s with depth:=s.depth+1,base:=s.ret.length} k).1=0 then 12 else (runF P f (.ops l 0) {s with depth:=s.depth+1,base:=s.ret.length} k).2.2):=by
 have h3:¬(32:Int)≤s.depth:=by omega
 have h4:¬(2:Int)=1:=by omega
 simp only[runF,h1,h2,h3,h4,if_true,if_false]
theorem iSwp_ok (s:Rs) (k:Nat) (l:List Int) (h1:k≤s.m.stack.length) (h2:s.m.stack.length - k+l.length≤64):
  iSwp s k l=({s with m:={s.m with stack:=s.m.stack.take (s.m.stack.length - k)++l}},0):=by
 unfold iSwp
 rw[if_neg (by omega),if_neg (by omega)]
theorem iOp_lit (s:Rs) (x:Int) (h:s.m.stack.length < 64):iOp s (1,x)=({s with m:={s.m with stack:=s.m.stack++[x]}},false,0):=by
 have e:=iSwp_ok s 0 [x] (by omega) (by simp;omega)
 unfold iOp
 simp[e]
def chA (x y:Int):List Opd:=[(4,3),(1,x),(3,4),(1,y)]
def chB (x y:Int):List Opd:=[(1,y),(10,4),(1,x),(3,5),(11,0)]
theorem who_colon (P:Int→Rs→Rs×Int) (m:Mc) (xt:Int) (l:List Opd) (k:Nat) (w3:(m.words.getD xt.toNat ([],0,0,0,[])).2.2.1=2) (w4:(m.words.getD xt.toNat ([],0,0,0,[])).2.2.2.2=l)
  {s:Rs} {j:Nat} {e:Int} (h:runF P (k+1) (.ops l 0) {m:=m,ret:=[],base:=0,depth:=1,n:=0} k=(s,j,e)):
  (whoF P m xt (k+1)).1.m=s.m∧(whoF P m xt (k+1)).2.2=if e=0∧¬iOwn s=0 then 12 else if e=0∧¬s.ret=[] then 12 else e:=by
 have c:=run_colon P (f:=k+1) (xt:=xt) (s:=begF m) (k:=k) (l:=l) w3 w4 (by simp[begF])
 have s0:({begF m with depth:=(begF m).depth+1,base:=(begF m).ret.length}:Rs)={m:=m,ret:=[],base:=0,depth:=1,n:=0}:=by simp[begF]
 rw[s0,h] at c
 unfold whoF
 simp only[c]
 refine ⟨trivial, ?_⟩
 by_cases h1:e=0∧¬iOwn s=0
 ·simp[h1]
 ·simp[h1]
theorem chA_who (P:Int→Rs→Rs×Int) (m:Mc) (x y xt t:Int) (q:List Int) (hm:m.stack=q++[t]) (hq:q.length < 64)
  (w3:(m.words.getD xt.toNat ([],0,0,0,[])).2.2.1=2) (w4:(m.words.getD xt.toNat ([],0,0,0,[])).2.2.2.2=chA x y):
  (whoF P m xt 100).2.2=0∧(whoF P m xt 100).1.m.stack=q++[if t=0 then y else x]:=by
 have l1:iOp {m:=m,ret:=[],base:=0,depth:=1,n:=0} (4,3)=({m:={m with stack:=q},ret:=[],base:=0,depth:=1,n:=0},decide (t=0),0):=by
  have g:¬64 < q.length:=by omega
  simp[iOp,iTop,iSwp,hm,g]
 have e1:=run_op P (f:=99) (l:=chA x y) (pos:=0) (k:=98) (o:=(4,3)) rfl (by simp) (by simp) l1
 by_cases z:t=0
 ·have l2:=iOp_lit {m:={m with stack:=q},ret:=[],base:=0,depth:=1,n:=0} y hq
  have e2:=run_op P (f:=98) (l:=chA x y) (pos:=3) (k:=97) (o:=(1,y)) rfl (by simp) (by simp) l2
  simp only[z,decide_true,if_true] at e1
  rw[show ((3:Int)).toNat=3 from rfl,e2,if_neg (by simp),run_end P (f:=97) (by rfl)] at e1
  obtain ⟨h1,h2⟩:=who_colon P m xt (chA x y) 99 w3 w4 e1
  rw[h1,h2]
  simp[iOwn,z]
 ·have l2:=iOp_lit {m:={m with stack:=q},ret:=[],base:=0,depth:=1,n:=0} x hq
  have e2:=run_op P (f:=98) (l:=chA x y) (pos:=1) (k:=97) (o:=(1,x)) rfl (by simp) (by simp) l2
  have l3:iOp {m:={m with stack:=q++[x]},ret:=[],base:=0,depth:=1,n:=0} (3,4)=({m:={m with stack:=q++[x]},ret:=[],base:=0,depth:=1,n:=0},true,0):=by
   simp[iOp]
  have e3:=run_op P (f:=97) (l:=chA x y) (pos:=2) (k:=96) (o:=(3,4)) rfl (by simp) (by simp) l3
  simp only[z,decide_false,Bool.false_eq_true,if_false] at e1
  rw[Nat.zero_add,e2,if_neg (by simp),e3,if_pos rfl,run_end P (f:=96) (by rfl)] at e1
  obtain ⟨h1,h2⟩:=who_colon P m xt (chA x y) 99 w3 w4 e1
  rw[h1,h2]
  simp[iOwn,z]
theorem chB_who (P:Int→Rs→Rs×Int) (m:Mc) (x y xt t:Int) (q:List Int) (hm:m.stack=q++[t]) (hq:q.length < 64)
  (w3:(m.words.getD xt.toNat ([],0,0,0,[])).2.2.1=2) (w4:(m.words.getD xt.toNat ([],0,0,0,[])).2.2.2.2=chB x y):
  (q.length=63→(whoF P m xt 100).2.2=6)∧
  (q.length < 63→(whoF P m xt 100).2.2=0∧(whoF P m xt 100).1.m.stack=if t=y then q++[x] else q):=by
 refine ⟨fun h=> ?_,fun h=> ?_⟩
 ·have l1:iOp {m:=m,ret:=[],base:=0,depth:=1,n:=0} (1,y)=({m:=m,ret:=[],base:=0,depth:=1,n:=0},false,6):=by
   simp[iOp,iSwp,hm,h]
  have e1:=run_opE P (f:=99) (l:=chB x y) (pos:=0) (k:=98) (o:=(1,y)) rfl (by simp) (by simp) l1 (by omega)
  obtain ⟨h1,h2⟩:=who_colon P m xt (chB x y) 99 w3 w4 e1
  rw[h2]
  simp
 ·have l1:=iOp_lit {m:=m,ret:=[],base:=0,depth:=1,n:=0} y (by simp[hm];omega)
  have e1:=run_op P (f:=99) (l:=chB x y) (pos:=0) (k:=98) (o:=(1,y)) rfl (by simp) (by simp) l1
  simp only[hm,List.append_assoc,List.cons_append,List.nil_append] at e1
  rw[if_neg (by simp),Nat.zero_add] at e1
  have g2:¬q.length+2 < 2:=by omega
  by_cases z:t=y
  ·have l2:iOp {m:={m with stack:=q++[t,y]},ret:=[],base:=0,depth:=1,n:=0} (10,4)=({m:={m with stack:=q},ret:=[],base:=0,depth:=1,n:=0},false,0):=by
    have g:¬64 < q.length:=by omega
    simp[iOp,iTop,iSwp,z,g,g2]
   have e2:=run_op P (f:=98) (l:=chB x y) (pos:=1) (k:=97) (o:=(10,4)) rfl (by simp) (by simp) l2
   have l3:=iOp_lit {m:={m with stack:=q},ret:=[],base:=0,depth:=1,n:=0} x hq
   have e3:=run_op P (f:=97) (l:=chB x y) (pos:=2) (k:=96) (o:=(1,x)) rfl (by simp) (by simp) l3
   have l4:iOp {m:={m with stack:=q++[x]},ret:=[],base:=0,depth:=1,n:=0} (3,5)=({m:={m with stack:=q++[x]},ret:=[],base:=0,depth:=1,n:=0},true,0):=by
    simp[iOp]
   have e4:=run_op P (f:=96) (l:=chB x y) (pos:=3) (k:=95) (o:=(3,5)) rfl (by simp) (by simp) l4
   rw[e2,if_neg (by simp),e3,if_neg (by simp),e4,if_pos rfl,run_end P (f:=95) (by rfl)] at e1
   obtain ⟨h1,h2⟩:=who_colon P m xt (chB x y) 99 w3 w4 e1
   rw[h1,h2]
   simp[iOwn,z]
  ·have l2:iOp {m:={m with stack:=q++[t,y]},ret:=[],base:=0,depth:=1,n:=0} (10,4)=({m:={m with stack:=q++[t]},ret:=[],base:=0,depth:=1,n:=0},true,0):=by
    have g:¬64 < q.length+1:=by omega
    have tk:(q++[t,y]).take (q.length+1)=q++[t]:=by
     rw[show q++[t,y]=(q++[t])++[y] by simp,List.take_append_of_le_length (by simp),List.take_of_length_le (by simp)]
    simp[iOp,iTop,iSwp,z,g,g2,tk]
   have e2:=run_op P (f:=98) (l:=chB x y) (pos:=1) (k:=97) (o:=(10,4)) rfl (by simp) (by simp) l2
   have l3:iOp {m:={m with stack:=q++[t]},ret:=[],base:=0,depth:=1,n:=0} (11,0)=({m:={m with stack:=q},ret:=[],base:=0,depth:=1,n:=0},false,0):=by
    have g:¬64 < q.length:=by omega
    simp[iOp,iSwp,g]
   have e3:=run_op P (f:=97) (l:=chB x y) (pos:=4) (k:=96) (o:=(11,0)) rfl (by simp) (by simp) l3
   rw[e2,if_pos rfl,show ((10,4):Opd).2.toNat=4 from rfl,e3,if_neg (by simp),run_end P (f:=96) (by rfl)] at e1
   obtain ⟨h1,h2⟩:=who_colon P m xt (chB x y) 99 w3 w4 e1
   rw[h1,h2]
   simp[iOwn,z]
open Go.ChangeShapes Go.WideShapes Go.ChangeAt Go.RowKit
def goodT (t:List Nd):Prop:=∀x∈t,goodN x
theorem goodT.byt {t:List Nd} (h:goodT t):∀x∈t,bytN x:=fun x hx=>(h x hx).1
theorem goodT.len {t:List Nd} (h:goodT t):∀x∈t,lenN x:=fun x hx=>(h x hx).2.1
theorem goodT.siz {t:List Nd} (h:goodT t):∀x∈t,sizN x:=fun x hx=>(h x hx).2.2.1
theorem good_nil:goodT []:=fun x hx=>by simp at hx
theorem good_new (nm un:List Int) (p:Int) (h1:bytesL nm) (h2:nm.length≤maxLen) (h3:cells un) (h4:un.length≤4) (h5:(Lit.int .i64 p).wf=true):goodN (nm,un,p,[],[]):=by
 refine ⟨⟨h1,fun x hx=>by simp at hx⟩,⟨h2,fun x hx=>by simp at hx⟩,⟨by simp only;omega,by simp,by simp,fun x hx=>by simp at hx⟩,h3,fun x hx=>by simp at hx,h5⟩
theorem add_goodT {t:List Nd} {p:Int} {nm un:List Int} (h:goodT t) (h1:bytesL nm) (h2:nm.length≤maxLen) (h3:cells un):goodT (addF t p nm un).1:=by
 unfold addF
 split
 ·exact good_nil
 ·rename_i c1
  split
  ·exact good_nil
  ·rename_i c2
   split
   ·exact good_nil
   ·rename_i c3
    split
    ·exact good_nil
    ·split
     ·exact good_nil
     ·rename_i c5
      intro x hx
      rcases List.mem_append.1 hx with hx|hx
      ·exact h x hx
      ·simp at hx
       subst hx
       refine good_new nm un p h1 h2 h3 (by omega) ?_
       simp[Lit.wf,IntKind.min,IntKind.max,IntKind.bits,IntKind.signed]
       omega
def goodP (p:Pp):Prop:=bytesL p.1∧bytesL p.2∧p.1.length≤maxLen∧p.2.length≤140737488355328
theorem put_goodT {t:List Nd} {n:Int} {l:List Pp} (h:goodT t) (h1:∀p∈l,goodP p) (h2:l.length≤16):goodT (putN t n l):=by
 unfold putN
 split
 ·exact h
 ·rename_i y hy
  intro x hx
  rcases List.mem_or_eq_of_mem_set hx with hx|rfl
  ·exact h x hx
  ·obtain ⟨⟨b1,b2⟩,⟨l1,l2⟩,⟨s1,s2,s3,s4⟩,c1,c2,wp⟩:=h y (List.mem_of_getElem? hy)
   exact ⟨⟨b1,fun p hp=>⟨(h1 p hp).1,(h1 p hp).2.1⟩⟩,⟨l1,fun p hp=>(h1 p hp).2.2.1⟩,⟨s1,s2,by simp only;omega,fun p hp=>(h1 p hp).2.2.2⟩,c1,c2,wp⟩
theorem prp_goodP {t:List Nd} {n:Int} (h:goodT t):∀p∈prpF t n,goodP p:=by
 intro p hp
 unfold prpF at hp
 rw[List.getD_eq_getElem?_getD] at hp
 cases e:t[n.toNat]? with
 |none=>rw[e] at hp;simp at hp
 |some y=>
  rw[e] at hp
  obtain ⟨⟨b1,b2⟩,⟨l1,l2⟩,⟨s1,s2,s3,s4⟩,c1,c2,wp⟩:=h y (List.mem_of_getElem? e)
  exact ⟨(b2 p hp).1,(b2 p hp).2,l2 p hp,s4 p hp⟩
theorem set_goodT {t:List Nd} {n:Int} {nm d:List Int} (h:goodT t) (h1:bytesL nm) (h2:nm.length≤maxLen) (h3:bytesL d):goodT (setF t n nm d).1:=by
 by_cases he:(setF t n nm d).2=0
 ·obtain ⟨_,_,hd,_,e⟩:=set_ok he
  rw[e]
  refine put_goodT h (fun p hp=> ?_) (set_good he).1
  have:p=(nm,d)∨p∈prpF t n:=by
   unfold setP at hp
   split at hp
   ·rcases List.mem_or_eq_of_mem_set hp with hp|hp
    ·exact Or.inr hp
    ·exact Or.inl hp
   ·rcases List.mem_append.1 hp with hp|hp
    ·exact Or.inr hp
    ·exact Or.inl (by simpa using hp)
  rcases this with rfl|hp
  ·exact ⟨h1,h3,h2,by simp only;omega⟩
  ·exact prp_goodP h p hp
 ·rw[set_err he]
  exact good_nil
theorem drp_goodT {t:List Nd} {n:Int} {nm:List Int} (h:goodT t):goodT (drpF t n nm).1:=by
 unfold drpF
 split
 ·exact good_nil
 ·rename_i hw
  split
  ·exact good_nil
  ·rename_i k hk
   obtain ⟨hf,h0,hn⟩:=wrg_ok (t:=t) (n:=n) (by simpa using hw)
   have hl:=(frm_props (n:=n) hf hn).1
   refine put_goodT h (fun p hp=> ?_) ?_
   ·unfold drpP at hp
    rcases List.mem_append.1 hp with hp|hp
    ·exact prp_goodP h p (List.mem_of_mem_take hp)
    ·exact prp_goodP h p (List.mem_of_mem_drop hp)
   ·unfold drpP
    simp
    omega
theorem get_bytes {t:List Nd} {n:Int} {nm:List Int} (h:goodT t):bytesL (getF t n nm).1:=by
 unfold getF
 split
 ·exact fun x hx=>by simp at hx
 ·split
  ·exact fun x hx=>by simp at hx
  ·rename_i k hk
   obtain ⟨g,_,_⟩:=pf_some hk
   rw[List.getD_eq_getElem?_getD,List.getElem?_eq_getElem g]
   exact (prp_goodP h _ (List.getElem_mem g)).2.1
def shW (w:Wd):List Int×Int×Int×List Opd:=(w.1,w.2.1,w.2.2.1,w.2.2.2.2)
def shI (x:Iz):Int×Int:=(x.1,x.2.1)
structure Ran (s:Rs):Prop where
 m:gM s.m
 ret:cells s.ret
 retL:s.ret.length≤64
 n0:0≤s.n
 n1:s.n < 4294967296
structure Okr (s:Rs):Prop where
 frm:frmM s.m=true
 ran:Ran s
structure Spr (s r:Rs):Prop where
 ok:Okr r
 words:r.m.words.map shW=s.m.words.map shW
 insts:r.m.insts.map shI=s.m.insts.map shI
theorem Spr.refl {s:Rs} (h:Okr s):Spr s s:=⟨h,rfl,rfl⟩
theorem Spr.trans {a b c:Rs} (h:Spr a b) (g:Spr b c):Spr a c:=⟨g.ok,g.words.trans h.words,g.insts.trans h.insts⟩
theorem frm_stack {m:Mc} (h:frmM m=true) (l:List Int) (hl:l.length≤64):frmM {m with stack:=l}=true:=by
 unfold frmM at h ⊢
 simp only[Bool.and_eq_true,decide_eq_true_eq] at h ⊢
 exact ⟨⟨hl,h.1.2⟩,h.2⟩
theorem frm_self {m:Mc} (h:frmM m=true) (k:Int) (hk:k= -1∨alvF m.insts k=true):frmM {m with self:=k}=true:=by
 unfold frmM at h ⊢
 simp only[Bool.and_eq_true,decide_eq_true_eq] at h ⊢
 obtain ⟨a1,a2,a3,a4,a5,a6,a7⟩:=h
 refine ⟨a1,a2,a3,a4, ?_,a6,a7⟩
 rcases hk with hk|hk
 ·simp[hk]
 ·simp[hk]
theorem self_of {m:Mc} (h:frmM m=true):m.self= -1∨alvF m.insts m.self=true:=by
 unfold frmM at h
 simp only[Bool.and_eq_true,Bool.or_eq_true,decide_eq_true_eq] at h
 exact h.2.2.2.2.1
theorem getD_map {α β:Type} (f:α→β) (l:List α) (i:Nat) (d:α):(l.map f).getD i (f d)=f (l.getD i d):=by
 simp only[List.getD_eq_getElem?_getD,List.getElem?_map]
 cases l[i]? <;> rfl
theorem alv_sh {l l':List Iz} (h:l'.map shI=l.map shI) (n:Int):alvF l' n=alvF l n:=by
 have e:l'.length=l.length:=by have:=congrArg List.length h;simpa using this
 have g:shI (l'.getD n.toNat (-1, -1,[],[]))=shI (l.getD n.toNat (-1, -1,[],[])):=by
  rw[←getD_map shI l',←getD_map shI l,h]
 have g':=congrArg Prod.fst g
 unfold shI at g'
 unfold alvF
 rw[e,g']
theorem cells_app' {a b:List Int} (h:cells a) (g:cells b):cells (a++b):=fun x hx=>(List.mem_append.1 hx).elim (h x) (g x)
theorem cells_take' {a:List Int} (h:cells a) (n:Nat):cells (a.take n):=fun x hx=>h x (List.mem_of_mem_take hx)
theorem cells_drop' {a:List Int} (h:cells a) (n:Nat):cells (a.drop n):=fun x hx=>h x (List.mem_of_mem_drop hx)
theorem cells_nil':cells []:=fun x hx=>by simp at hx
theorem cells_one' {y:Int} (h:0≤y∧y < 4294967296):cells [y]:=fun x hx=>by simp at hx;subst hx;exact h
theorem cells_cons' {y:Int} {l:List Int} (h:0≤y∧y < 4294967296) (g:cells l):cells (y::l):=fun x hx=>by
 rcases List.mem_cons.1 hx with rfl|hx
 ·exact h
 ·exact g x hx
theorem cells_rep' (n:Nat):cells (List.replicate n 0):=fun x hx=>by rw[List.mem_replicate] at hx;omega
theorem cells_set' {l:List Int} (h:cells l) (i:Nat) {y:Int} (hy:0≤y∧y < 4294967296):cells (l.set i y):=fun x hx=>by
 rcases List.mem_or_eq_of_mem_set hx with hx|rfl
 ·exact h x hx
 ·exact hy
theorem cells_get' {l:List Int} (h:cells l) (i:Nat):0≤l.getD i 0∧l.getD i 0 < 4294967296:=by
 rw[List.getD_eq_getElem?_getD]
 cases e:l[i]? with
 |none=>simp
 |some x=>exact h x (List.mem_of_getElem? e)
theorem Ran.stack {s:Rs} (h:Ran s) (l:List Int) (hl:l.length≤64) (hc:cells l):Ran {s with m:={s.m with stack:=l}}:=
 ⟨{h.m with stack:=hc,stackZ:=(by simp only;omega)},h.ret,h.retL,h.n0,h.n1⟩
theorem iTop_c {s:Rs} (h:Ran s) (k:Nat):cells (iTop s k).1:=by
 unfold iTop;split
 ·exact cells_nil'
 ·exact cells_drop' h.m.stack _
theorem iSwp_sp {s:Rs} (h:Okr s) (k:Nat) {l:List Int} (hl:cells l):Spr s (iSwp s k l).1:=by
 unfold iSwp
 split
 ·exact Spr.refl h
 ·split
  ·exact Spr.refl h
  ·have e:(s.m.stack.take (s.m.stack.length - k)++l).length≤64:=by simp;omega
   exact ⟨⟨frm_stack h.frm _ e,h.ran.stack _ e (cells_app' (cells_take' h.ran.m.stack _) hl)⟩,rfl,rfl⟩
def Kq (P:Int→Rs→Rs×Int):Prop:=∀c s,Okr s→Spr s (P c s).1
def SprN (s:Rs):Nx→Prop
 | .done r _=>Spr s r
 | .exec _ r=>Spr s r
 | .catch _ r=>Spr s r
 | .meth _ r=>Spr s r
theorem wf64 {n:Int} (h0: -9223372036854775808≤n) (h1:n≤9223372036854775807):(Lit.int .i64 n).wf=true:=by
 simp[Lit.wf,IntKind.min,IntKind.max,IntKind.bits,IntKind.signed]
 omega
theorem iPrm_sp {P:Int→Rs→Rs×Int} (hP:Kq P) (c:Int) (s:Rs) (g:Okr s):SprN s (iPrm P c s):=by
 have m:=iSwp_sp g 3 (l:=[]) cells_nil'
 unfold iPrm
 dsimp only
 repeat' split
 all_goals first
  |exact Spr.refl g
  |exact iSwp_sp g 1 cells_nil'
  |exact hP c s g
  |skip
 rename_i h _ _ _
 have hl:=(cells_get' (iTop_c g.ran 3) 2)
 refine ⟨⟨frm_self m.ok.frm _ (Or.inr ?_),⟨{m.ok.ran.m with self:=wf64 (by simp only;omega) (by simp only;omega)},m.ok.ran.ret,m.ok.ran.retL,m.ok.ran.n0,m.ok.ran.n1⟩⟩,m.words,m.insts⟩
 rw[alv_sh m.insts]
 unfold alvF
 simp only[Bool.and_eq_true,decide_eq_true_eq]
 omega
theorem map_set_same {α β:Type} (f:α→β) (l:List α) (k:Nat) (d y:α) (h:f y=f (l.getD k d)):(l.set k y).map f=l.map f:=by
 apply List.ext_getElem?
 intro i
 simp only[List.getElem?_map,List.getElem?_set]
 by_cases e:k=i
 ·subst e
  simp only[if_true]
  by_cases g:k < l.length
  ·rw[if_pos g]
   rw[List.getD_eq_getElem?_getD,List.getElem?_eq_getElem g] at h
   rw[List.getElem?_eq_getElem g]
   simp only[Option.map_some,h]
   rfl
  ·rw[if_neg g,List.getElem?_eq_none (by omega)]
 ·rw[if_neg e]
theorem chn_sh {l l':List Iz} (h:l'.map shI=l.map shI):∀(f:Nat) (a:Int),chnF l' f a=chnF l f a
 |0,a=>rfl
 |f+1,a=>by
  have g:shI (l'.getD a.toNat (-1, -1,[],[]))=shI (l.getD a.toNat (-1, -1,[],[])):=by
   rw[←getD_map shI l',←getD_map shI l,h]
  have g':=congrArg Prod.snd g
  unfold shI at g'
  dsimp only at g'
  unfold chnF
  rw[g',chn_sh h f]
theorem okI_sh {l l':List Iz} (h:l'.map shI=l.map shI) (t:List Nd) (x:Iz):okI l' t x=okI l t x:=by
 unfold okI
 rw[alv_sh h]
theorem ins_set {l:List Iz} {t:List Nd} (h:insF l t=true) (i:Nat) (c:List Int) (hi:i < l.length) (h0:0≤(l.getD i (-1, -1,[],[])).1) (hc:c.length=(l.getD i (-1, -1,[],[])).2.2.2.length):
  insF (l.set i ((l.getD i (-1, -1,[],[])).1,(l.getD i (-1, -1,[],[])).2.1,(l.getD i (-1, -1,[],[])).2.2.1,c)) t=true∧
  (l.set i ((l.getD i (-1, -1,[],[])).1,(l.getD i (-1, -1,[],[])).2.1,(l.getD i (-1, -1,[],[])).2.2.1,c)).map shI=l.map shI:=by
 generalize hx:l.getD i (-1, -1,[],[])=x at h0 hc ⊢
 have mx:x∈l:=by
  rw[←hx,List.getD_eq_getElem?_getD,List.getElem?_eq_getElem hi]
  exact List.getElem_mem _
 have sm:(l.set i (x.1,x.2.1,x.2.2.1,c)).map shI=l.map shI:=map_set_same shI l i (-1, -1,[],[]) _ (by rw[hx];rfl)
 refine ⟨?_,sm⟩
 unfold insF at h ⊢
 simp only[Bool.and_eq_true,decide_eq_true_eq,List.all_eq_true,List.length_set] at h ⊢
 obtain ⟨h1,h2,h3⟩:=h
 refine ⟨h1,fun y hy=> ?_,fun y hy=> ?_⟩
 ·rw[okI_sh sm]
  rcases List.mem_or_eq_of_mem_set hy with hy|hy
  ·exact h2 y hy
  ·subst hy
   have q:=h2 x mx
   have n1:¬x.1= -1:=by omega
   unfold okI at q ⊢
   dsimp only
   rw[if_neg n1] at q ⊢
   rw[hc]
   exact q
 ·rw[chn_sh sm]
  rcases List.mem_or_eq_of_mem_set hy with hy|hy
  ·exact h3 y hy
  ·subst hy
   exact h3 x mx
theorem wds_kind {ws:List Wd} {t:List Nd} (h:wdsF ws t=true) (k:Nat) (hk:¬(ws.getD k ([],0,0,0,[])).2.2.1=0) (h1:¬(ws.getD k ([],0,0,0,[])).2.2.1=1):
  k < ws.length∧111≤k∧wofF (ws.getD k ([],0,0,0,[])) ws.length t=true:=by
 have hl:k < ws.length:=by
  by_cases g:k < ws.length
  ·exact g
  ·exfalso
   apply hk
   rw[List.getD_eq_getElem?_getD,List.getElem?_eq_none (by omega)]
   rfl
 unfold wdsF at h
 simp only[Bool.and_eq_true,decide_eq_true_eq,List.all_eq_true] at h
 obtain ⟨⟨a1,a2⟩,a3,a4⟩:=h
 have h3:111≤k:=by
  by_cases g:111≤k
  ·exact g
  ·exfalso
   apply h1
   have e:(ws.take 111)[k]? =(prmL.map prmW)[k]? :=by rw[a3]
   rw[List.getElem?_take_of_lt (by omega),List.getElem?_eq_getElem hl,List.getElem?_map,List.getElem?_eq_getElem (by rw[prm_len];omega)] at e
   simp only[Option.map_some,Option.some.injEq] at e
   rw[List.getD_eq_getElem?_getD,List.getElem?_eq_getElem hl]
   simp only[Option.getD_some,e]
   rfl
 refine ⟨hl,h3,a4 _ ?_⟩
 rw[List.getD_eq_getElem?_getD,List.getElem?_eq_getElem hl]
 simp only[Option.getD_some]
 have:=List.getElem_mem (l:=ws.drop 111) (n:=k - 111) (by simp;omega)
 rw[List.getElem_drop] at this
 simp only[show 111+(k - 111)=k by omega] at this
 exact this
theorem wds_set {ws:List Wd} {t:List Nd} (h:wdsF ws t=true) (k:Nat) (w:Wd) (hk:111≤k) (hw:wofF w ws.length t=true):wdsF (ws.set k w) t=true:=by
 unfold wdsF at h ⊢
 simp only[Bool.and_eq_true,decide_eq_true_eq,List.all_eq_true,List.length_set] at h ⊢
 obtain ⟨⟨a1,a2⟩,a3,a4⟩:=h
 refine ⟨⟨a1,a2⟩,by rw[List.take_set_of_le hk];exact a3,fun x hx=> ?_⟩
 rw[List.drop_set] at hx
 rw[if_neg (by omega)] at hx
 rcases List.mem_or_eq_of_mem_set hx with hx|hx
 ·exact a4 x hx
 ·rw[hx];exact hw
theorem wd_num {s:Rs} (h:Okr s) (k:Int):0≤(iWd s k).2.2.2.1∧(iWd s k).2.2.2.1 < 4294967296:=by
 unfold iWd
 rw[List.getD_eq_getElem?_getD]
 cases e:s.m.words[k.toNat]? with
 |none=>simp
 |some x=>exact (h.ran.m.words x (List.mem_of_getElem? e)).num
theorem wd_ops {s:Rs} (h:Okr s) (k:Int):∀y∈(iWd s k).2.2.2.2,0≤y.2∧y.2 < 4294967296:=by
 unfold iWd
 rw[List.getD_eq_getElem?_getD]
 cases e:s.m.words[k.toNat]? with
 |none=>simp
 |some x=>exact fun y hy=>((h.ran.m.words x (List.mem_of_getElem? e)).ops y hy).2
theorem in_cel {s:Rs} (h:Okr s) (i:Nat):cells (s.m.insts.getD i (-1, -1,[],[])).2.2.2:=by
 rw[List.getD_eq_getElem?_getD]
 cases e:s.m.insts[i]? with
 |none=>exact cells_nil'
 |some x=>exact (h.ran.m.insts x (List.mem_of_getElem? e)).cel
theorem iTo_sp {s:Rs} (h:Okr s) (k:Int):Spr s (iTo s k).1:=by
 obtain ⟨p1,p2,p3,p4,p5,p6,p7⟩:=frm_parts h.frm
 have hx0:=cells_get' (iTop_c h.ran 1) 0
 unfold iTo
 dsimp only
 split
 ·exact Spr.refl h
 ·rename_i c1
  simp only[Decidable.not_not] at c1
  split
  ·exact Spr.refl h
  ·split
   ·exact Spr.refl h
   ·rename_i c3
    have c3':(iWd s k).2.2.1=6→(iTop s 1).1.getD 0 0 < s.m.words.length:=fun e=>by
     by_cases g:(iTop s 1).1.getD 0 0 < s.m.words.length
     ·exact g
     ·exact absurd ⟨e,by omega⟩ c3
    obtain ⟨k1,k2,k3⟩:=wds_kind p6 k.toNat (by have:=c1;unfold iWd at this;omega) (by have:=c1;unfold iWd at this;omega)
    split
    ·rename_i c4
     split
     ·exact Spr.refl h
     ·rename_i c5
      have hs:0≤s.m.self∧(s.m.insts.getD s.m.self.toNat (-1, -1,[],[])).1=(iWd s k).2.1:=by
       unfold iSlf at c5
       simpa using c5
      have hn:0≤(iWd s k).2.1:=by
       have q:wofF (iWd s k) s.m.words.length s.m.tree=true:=k3
       unfold wofF at q
       rw[if_neg (by omega)] at q
       simp only[Bool.and_eq_true,decide_eq_true_eq] at q
       exact (q.2.2.2.2.1 c4).1
      have ha:alvF s.m.insts s.m.self=true:=by
       rcases self_of h.frm with e|e
       ·omega
       ·exact e
      have hl:s.m.self.toNat < s.m.insts.length:=by
       unfold alvF at ha
       simp only[Bool.and_eq_true,decide_eq_true_eq] at ha
       omega
      obtain ⟨i1,i2⟩:=ins_set p5 s.m.self.toNat ((s.m.insts.getD s.m.self.toNat (-1, -1,[],[])).2.2.2.set (iWd s k).2.2.2.1.toNat ((iTop s 1).1.getD 0 0)) hl (by rw[hs.2];exact hn) (by simp)
      have hc:=cells_set' (in_cel h s.m.self.toNat) (iWd s k).2.2.2.1.toNat hx0
      have gi:gI (s.m.insts.getD s.m.self.toNat (-1, -1,[],[])):=by
       rw[List.getD_eq_getElem?_getD,List.getElem?_eq_getElem hl]
       exact h.ran.m.insts _ (List.getElem_mem hl)
      generalize hy:s.m.insts.getD s.m.self.toNat (-1, -1,[],[])=y at i1 i2 hc gi ⊢
      have oks:Okr {s with m:={s.m with insts:=s.m.insts.set s.m.self.toNat (y.1,y.2.1,y.2.2.1,y.2.2.2.set (iWd s k).2.2.2.1.toNat ((iTop s 1).1.getD 0 0))}}:=by
       refine ⟨?_,⟨{h.ran.m with insts:=fun x hx=> ?_,instsZ:=(by simp only[List.length_set];exact h.ran.m.instsZ)},h.ran.ret,h.ran.retL,h.ran.n0,h.ran.n1⟩⟩
       ·have hf:=h.frm
        unfold frmM at hf ⊢
        simp only[Bool.and_eq_true,Bool.or_eq_true,decide_eq_true_eq] at hf ⊢
        obtain ⟨a1,a2,a3,a4,a5,a6,a7⟩:=hf
        exact ⟨a1,a2,a3,i1,Or.inr (by rw[alv_sh i2];exact ha),a6,a7⟩
       ·rcases List.mem_or_eq_of_mem_set hx with hx|rfl
        ·exact h.ran.m.insts x hx
        ·exact ⟨gi.node,gi.par,gi.byt,gi.len,hc,by simpa using gi.siz⟩
      exact Spr.trans ⟨oks,rfl,i2⟩ (iSwp_sp oks 1 cells_nil')
    ·rename_i c4
     have q:wofF (iWd s k) s.m.words.length s.m.tree=true:=k3
     have q':wofF ((iWd s k).1,(iWd s k).2.1,(iWd s k).2.2.1,(iTop s 1).1.getD 0 0,(iWd s k).2.2.2.2) s.m.words.length s.m.tree=true:=by
      have n2:¬(iWd s k).2.2.1=2:=by omega
      unfold wofF at q ⊢
      dsimp only
      rw[if_neg n2] at q ⊢
      simp only[Bool.and_eq_true,decide_eq_true_eq] at q ⊢
      obtain ⟨b1,b2,b3,b4,b5,b6⟩:=q
      exact ⟨b1,b2,b3,c3',fun e=>absurd e c4,b6⟩
     have w1:=wds_set p6 k.toNat _ k2 q'
     have w2:(s.m.words.set k.toNat ((iWd s k).1,(iWd s k).2.1,(iWd s k).2.2.1,(iTop s 1).1.getD 0 0,(iWd s k).2.2.2.2)).map shW=s.m.words.map shW:=map_set_same shW _ _ ([],0,0,0,[]) _ rfl
     have gw:gW (iWd s k):=by
      unfold iWd
      rw[List.getD_eq_getElem?_getD,List.getElem?_eq_getElem k1]
      exact h.ran.m.words _ (List.getElem_mem k1)
     have oks:Okr {s with m:={s.m with words:=s.m.words.set k.toNat ((iWd s k).1,(iWd s k).2.1,(iWd s k).2.2.1,(iTop s 1).1.getD 0 0,(iWd s k).2.2.2.2)}}:=by
      refine ⟨?_,⟨{h.ran.m with words:=fun x hx=> ?_,wordsZ:=(by simp only[List.length_set];exact h.ran.m.wordsZ)},h.ran.ret,h.ran.retL,h.ran.n0,h.ran.n1⟩⟩
      ·have hf:=h.frm
       unfold frmM at hf ⊢
       simp only[Bool.and_eq_true,Bool.or_eq_true,decide_eq_true_eq] at hf ⊢
       obtain ⟨a1,a2,a3,a4,a5,a6,a7⟩:=hf
       exact ⟨a1,a2,a3,a4,a5,w1,by simpa using a7⟩
      ·rcases List.mem_or_eq_of_mem_set hx with hx|rfl
       ·exact h.ran.m.words x hx
       ·exact ⟨gw.byt,gw.len,gw.node,gw.kind,hx0,gw.ops,gw.siz⟩
     exact Spr.trans ⟨oks,w2,rfl⟩ (iSwp_sp oks 1 cells_nil')
theorem Spr.ret {s r:Rs} (h:Spr s r) (l:List Int) (hl:l.length≤64) (hc:cells l):Spr s {r with ret:=l}:=⟨⟨h.ok.frm,⟨h.ok.ran.m,hc,hl,h.ok.ran.n0,h.ok.ran.n1⟩⟩,h.words,h.insts⟩
theorem Spr.bd {s r:Rs} (h:Spr s r) (b d:Int):Spr s {r with base:=b,depth:=d}:=⟨⟨h.ok.frm,⟨h.ok.ran.m,h.ok.ran.ret,h.ok.ran.retL,h.ok.ran.n0,h.ok.ran.n1⟩⟩,h.words,h.insts⟩
theorem Okr.bd {r:Rs} (h:Okr r) (b d:Int):Okr {r with base:=b,depth:=d}:=⟨h.frm,⟨h.ran.m,h.ran.ret,h.ran.retL,h.ran.n0,h.ran.n1⟩⟩
theorem iLop_sp {s:Rs} (h:Okr s) (o:Opd):Spr s (iLop s o).1:=by
 have m:=iSwp_sp h 1 (l:=[]) cells_nil'
 have r:=h.ran.retL
 have c:=h.ran.ret
 unfold iLop
 dsimp only
 repeat' split
 all_goals first
  |exact Spr.refl h
  |exact (Spr.refl h).ret _ (by simp;omega) (cells_take' c _)
  |exact (Spr.refl h).ret _ (by simp;omega) (cells_set' c _ (by omega))
  |exact m.ret _ (by simp;omega) (cells_take' c _)
  |exact m.ret _ (by simp;omega) (cells_set' c _ (by omega))
theorem iOp_sp {s:Rs} (h:Okr s) (o:Opd) (ho:0≤o.2∧o.2 < 4294967296):Spr s (iOp s o).1:=by
 have m:=iSwp_sp h 2 (l:=[]) cells_nil'
 have t2:(iTop s 2).1.length≤2:=by unfold iTop;split <;> simp;omega
 unfold iOp
 dsimp only
 repeat' split
 all_goals first
  |exact Spr.refl h
  |exact iSwp_sp h _ cells_nil'
  |exact iSwp_sp h _ (cells_one' ho)
  |exact iTo_sp h _
  |exact iLop_sp h _
  |exact m.ret _ (by simp;omega) (cells_app' h.ran.ret (iTop_c h.ran 2))
theorem iCat_sp {s r:Rs} (h:Okr s) (g:Spr s r) (e:Int) (e0:0≤e) (e1:e < 4294967296):Spr s (iCat s r e).1:=by
 have l:=(frm_parts h.frm).1
 have z0:cells [(0:Int)]:=cells_one' (by omega)
 unfold iCat
 dsimp only
 have e2:0≤(if e=0∧¬iOwn r=0 then 12 else e)∧(if e=0∧¬iOwn r=0 then 12 else e) < 4294967296:=by split <;> omega
 generalize (if e=0∧¬iOwn r=0 then 12 else e)=e' at e2 ⊢
 split
 ·exact g
 ·split
  ·have g':Spr s {r with base:=s.base}:=g.bd s.base r.depth
   exact g'.trans (iSwp_sp g'.ok 0 z0)
  ·have hl:((r.m.stack++List.replicate (s.m.stack.length - r.m.stack.length) 0).take s.m.stack.length).length≤64:=by simp;omega
   have hc:cells ((r.m.stack++List.replicate (s.m.stack.length - r.m.stack.length) 0).take s.m.stack.length):=cells_take' (cells_app' g.ok.ran.m.stack (cells_rep' _)) _
   generalize (r.m.stack++List.replicate (s.m.stack.length - r.m.stack.length) 0).take s.m.stack.length=L at hl hc ⊢
   have k:Spr s {r with m:={r.m with stack:=L,self:=s.m.self},ret:=r.ret.take s.ret.length,base:=s.base,depth:=s.depth}:=by
    refine ⟨⟨frm_self (frm_stack g.ok.frm _ hl) _ ?_,⟨{g.ok.ran.m with stack:=hc,stackZ:=(by simp only;omega),self:=h.ran.m.self},cells_take' g.ok.ran.ret _,by have:=g.ok.ran.retL;simp;omega,g.ok.ran.n0,g.ok.ran.n1⟩⟩,g.words,g.insts⟩
    rcases self_of h.frm with q|q
    ·exact Or.inl q
    ·right
     show alvF r.m.insts s.m.self=true
     rw[alv_sh g.insts]
     exact q
   have n0:=g.ok.ran.n0
   have n1:=g.ok.ran.n1
   exact k.trans (iSwp_sp k.ok 0 (cells_one' (by split <;> omega)))
def Er (e:Int):Prop:=0≤e∧e≤28
theorem iSwp_er (s:Rs) (k:Nat) (l:List Int):Er (iSwp s k l).2:=by
 rcases iSwp_e s k l with h|h|h <;> (unfold Er;(try dsimp only);omega)
theorem iTop_er (s:Rs) (k:Nat):Er (iTop s k).2:=by unfold iTop Er;split <;> simp
theorem iTo_er (s:Rs) (k:Int):Er (iTo s k).2:=by
 have t:=iTop_er s 1
 unfold iTo
 dsimp only
 repeat' split
 all_goals first|exact iSwp_er _ _ _|exact t|(unfold Er;(try dsimp only);omega)
theorem iLop_er (s:Rs) (o:Opd):Er (iLop s o).2.2:=by
 have t:=iTop_er s 1
 unfold iLop
 dsimp only
 repeat' split
 all_goals first|exact t|(unfold Er;(try dsimp only);omega)
theorem iOp_er (s:Rs) (o:Opd):Er (iOp s o).2.2:=by
 have t:=iTop_er s 1
 have t2:=iTop_er s 2
 unfold iOp
 dsimp only
 repeat' split
 all_goals first|exact iSwp_er _ _ _|exact t|exact t2|exact iTo_er _ _|exact iLop_er _ _|(unfold Er;(try dsimp only);omega)
theorem iCat_er (s r:Rs) (e:Int):Er (iCat s r e).2:=by
 unfold iCat
 dsimp only
 generalize (if e=0∧¬iOwn r=0 then 12 else e)=e'
 split
 ·unfold Er;(try dsimp only);omega
 ·split <;> exact iSwp_er _ _ _
def ErN:Nx→Prop
 | .done _ e=>Er e
 |_=>True
theorem iPrm_er {P:Int→Rs→Rs×Int} (hP:∀c s,Okr s→Er (P c s).2) (c:Int) (s:Rs) (g:Okr s) (hm:∀a n,Er (texF s.m.mem a n).2):ErN (iPrm P c s):=by
 have t:=iTop_er s 1
 have t3:=iTop_er s 3
 unfold iPrm
 dsimp only
 repeat' split
 all_goals first|trivial|exact t|exact t3|exact hP c s g|exact hm _ _|(show Er _;unfold Er;(try dsimp only);omega)
theorem tex_er (m:List Int) (a n:Int):Er (texF m a n).2:=by unfold texF Er;split <;> simp
def Cok:Cl→Prop
 | .word _=>True
 | .ops l _=>∀o∈l,0≤o.2∧o.2 < 4294967296
theorem run_sp {P:Int→Rs→Rs×Int} (hP:Kq P) (hE:∀c s,Okr s→Er (P c s).2):∀(f:Nat) (c:Cl) (s:Rs) (left:Nat),Okr s→Cok c→Spr s (runF P f c s left).1∧Er (runF P f c s left).2.2:=by
 intro f
 induction f with
 |zero=>intro c s left g _;exact ⟨Spr.refl g,by simp[runF,Er]⟩
 |succ f ih=>
  intro c s left g hc
  cases c with
  |word xt=>
   cases left with
   |zero=>simp only[runF];exact ⟨Spr.refl g,by unfold Er;(try dsimp only);omega⟩
   |succ k=>
    simp only[runF]
    split
    ·have q:=iPrm_sp hP (iWd s xt).2.2.2.1 s g
     have q2:=iPrm_er hE (iWd s xt).2.2.2.1 s g (tex_er _)
     split
     ·rename_i e;rw[e] at q q2
      exact ⟨q,q2⟩
     ·rename_i x s' e;rw[e] at q
      have z:=ih (.word x) s' k q.ok trivial
      exact ⟨q.trans z.1,z.2⟩
     ·rename_i x s' e;rw[e] at q
      have z:=ih (.word x) {s' with base:=s'.ret.length} k (q.ok.bd s'.ret.length s'.depth) trivial
      have z1:Spr s' (runF P f (.word x) {s' with base:=s'.ret.length} k).1:=⟨z.1.ok,z.1.words,z.1.insts⟩
      have z2:=z.2
      unfold Er at z2
      exact ⟨q.trans (iCat_sp (s:=s') q.ok z1 _ z2.1 (by omega)),iCat_er _ _ _⟩
     ·rename_i x s' e;rw[e] at q
      have z:=ih (.word x) s' k q.ok trivial
      have y:=q.trans z.1
      split
      ·refine ⟨⟨⟨frm_self y.ok.frm _ ?_,⟨{y.ok.ran.m with self:=g.ran.m.self},y.ok.ran.ret,y.ok.ran.retL,y.ok.ran.n0,y.ok.ran.n1⟩⟩,y.words,y.insts⟩,by unfold Er;(try dsimp only);omega⟩
       rcases self_of g.frm with u|u
       ·exact Or.inl u
       ·right
        rw[alv_sh y.insts]
        exact u
      ·exact ⟨y,z.2⟩
    ·split
     ·split
      ·exact ⟨Spr.refl g,by unfold Er;(try dsimp only);omega⟩
      ·have z:=ih (.ops (iWd s xt).2.2.2.2 0) {s with depth:=s.depth+1,base:=s.ret.length} k (g.bd s.ret.length (s.depth+1)) (wd_ops g xt)
       have z2:=z.2
       refine ⟨⟨(z.1.ok.bd _ _),z.1.words,z.1.insts⟩, ?_⟩
       unfold Er at z2 ⊢
       dsimp only
       split <;> omega
     ·split
      ·exact ⟨iSwp_sp g _ (cells_one' (wd_num g xt)),iSwp_er _ _ _⟩
      ·split
       ·split
        ·exact ⟨Spr.refl g,by unfold Er;(try dsimp only);omega⟩
        ·exact ⟨iSwp_sp g _ (cells_one' (cells_get' (in_cel g _) _)),iSwp_er _ _ _⟩
       ·exact ih _ _ _ g trivial
  |ops l pos=>
   simp only[runF]
   split
   ·exact ⟨Spr.refl g,by unfold Er;(try dsimp only);omega⟩
   ·exact ⟨Spr.refl g,by unfold Er;(try dsimp only);omega⟩
   ·rename_i o k hp
    have ho:=hc o (List.mem_of_getElem? hp)
    split
    ·exact ⟨Spr.refl g,by unfold Er;(try dsimp only);omega⟩
    ·split
     ·have z:=ih (.word o.2) s k g trivial
      split
      ·have y:=ih (.ops l (pos+1)) _ (runF P f (.word o.2) s k).2.1 z.1.ok hc
       exact ⟨z.1.trans y.1,y.2⟩
      ·exact z
     ·have z:=iOp_sp g o ho
      split
      ·have y:=ih (.ops l (if (iOp s o).2.1=true then o.2.toNat else pos+1)) _ k z.ok hc
       exact ⟨z.trans y.1,y.2⟩
      ·exact ⟨z,iOp_er s o⟩
structure Sv where
 v:Mv
 m:Mc
 o:ByteArray
 vr:Value
 ret:List Int
structure StL (K:TypeId→Bool) (D:Nat→Prop) (w:World) (s:Sv):Prop where
 stack:Stb K D w (fun u=>Rd .u32 u s.v.vs s.m.stack)
 mem:Stb K D w (fun u=>Rd .u8 u s.v.vm s.m.mem)
 codes:Stb K D w (fun u=>Rd .i64 u s.v.vc s.m.codes)
 tree:Stb K D w (fun u=>RdT u s.v.vt s.m.tree)
 out:strOfNums s.m.out=s.o
 ret:Stb K D w (fun u=>Rd .u32 u s.vr s.ret)
theorem StL.agr {K:TypeId→Bool} {D:Nat→Prop} {w w':World} {s:Sv} (h:StL K D w s) (g:Agr K D w w'):StL K D w' s:=
 ⟨h.stack.agr g,h.mem.agr g,h.codes.agr g,h.tree.agr g,h.out,h.ret.agr g⟩
def WdL (K:TypeId→Bool) (D:Nat→Prop) (B:Nat) (w:World) (v:Value) (l:List Wd):Prop:=
 ∃rows:List (List Value),rows.length=l.length∧(∀r∈rows,r.length=5)∧w.ownsRow B 59 5 v l.length rows.flatten∧
  ∀i (h:i < l.length),∃vc,rows.getD i []=[.string (strOfNums l[i].1), .int .i64 l[i].2.1, .int .i64 l[i].2.2.1, .int .u32 l[i].2.2.2.1,vc]∧Stb K D w (fun u=>RdO u vc l[i].2.2.2.2)
def InL (K:TypeId→Bool) (D:Nat→Prop) (B:Nat) (w:World) (v:Value) (l:List Iz):Prop:=
 ∃rows:List (List Value),rows.length=l.length∧(∀r∈rows,r.length=4)∧Stb K D w (fun u=>SlC 4 u v rows)∧
  (∀i (h:i < l.length),∃vc,rows.getD i []=[.int .i64 l[i].1, .int .i64 l[i].2.1, .string (strOfNums l[i].2.2.1),vc]∧w.ownsRow B 26 1 vc l[i].2.2.2.length (l[i].2.2.2.map (Value.int .u32))∧∀k,vc.ownBlock=some k→D k)∧
  ∀i j k,i < j→j < l.length→((rows.getD i []).getD 3 (.slice none 0 0)).ownBlock=some k→((rows.getD j []).getD 3 (.slice none 0 0)).ownBlock≠some k
theorem WdL.agr {K:TypeId→Bool} {D:Nat→Prop} {B:Nat} {w w':World} {v:Value} {l:List Wd} (h:WdL K D B w v l) (g:Agr K D w w') (hw:∀k,v.ownBlock=some k→w'.heap[k]? =w.heap[k]?):WdL K D B w' v l:=by
 obtain ⟨rows,h1,h2,⟨h3,h3'⟩,h4⟩:=h
 refine ⟨rows,h1,h2,⟨h3, ?_⟩,fun i hi=> ?_⟩
 ·rcases h3' with h|⟨b,cap,cur,rfl,p1,p2,p3⟩
  ·exact Or.inl h
  ·exact Or.inr ⟨b,cap,cur,rfl,p1,by rw[hw b rfl];exact p2,p3⟩
 ·obtain ⟨vc,e,s⟩:=h4 i hi
  exact ⟨vc,e,s.agr g⟩
theorem InL.agr {K:TypeId→Bool} {D:Nat→Prop} {B:Nat} {w w':World} {v:Value} {l:List Iz} (h:InL K D B w v l) (g:Agr K D w w') (hc:∀k cs fr,D k→w.heap[k]? =some (.cells cs 26 fr)→w'.heap[k]? =w.heap[k]?):InL K D B w' v l:=by
 obtain ⟨rows,h1,h2,h3,h4,h5⟩:=h
 refine ⟨rows,h1,h2,h3.agr g,fun i hi=> ?_,h5⟩
 obtain ⟨vc,e,⟨o1,o2⟩,d⟩:=h4 i hi
 refine ⟨vc,e,⟨o1, ?_⟩,d⟩
 rcases o2 with h|⟨b,cap,cur,rfl,p1,p2,p3⟩
 ·exact Or.inl h
 ·exact Or.inr ⟨b,cap,cur,rfl,p1,by rw[hc b _ _ (d b rfl) p2];exact p2,p3⟩
theorem WdL.read {K:TypeId→Bool} {D:Nat→Prop} {B:Nat} {w:World} {v:Value} {l:List Wd} (h:WdL K D B w v l):RdW w v l:=by
 obtain ⟨rows,h1,h2,h3,h4⟩:=h
 have o:OwnR 59 5 wrdR B w v l:=⟨rows,h1,h2,h3,fun i hi=>by
  obtain ⟨vc,e,s⟩:=h4 i hi
  exact ⟨vc,e,s.now⟩⟩
 exact o.read (by decide) (fun _ _ q=>q)
theorem InL.read {K:TypeId→Bool} {D:Nat→Prop} {B:Nat} {w:World} {v:Value} {l:List Iz} (h:InL K D B w v l):RdI w v l:=by
 obtain ⟨rows,h1,h2,h3,h4,h5⟩:=h
 exact ⟨rows,h3.now,h1,fun i hi=>by
  obtain ⟨vc,e,o,d⟩:=h4 i hi
  exact ⟨vc,e,(Rd_own o).1⟩⟩
theorem rdM_of {K:TypeId→Bool} {D:Nat→Prop} {B:Nat} {w:World} {s:Sv} (h:StL K D w s) (hw:WdL K D B w s.v.vw s.m.words) (hi:InL K D B w s.v.vi s.m.insts):RdM w s.v s.m s.o:=
 ⟨h.stack.now,h.mem.now,hw.read,h.codes.now,h.tree.now,hi.read,h.out⟩
theorem gb_of {w w':World} {q:Nat} (b:Below w.heap.size w w'):w.grownBy w' (some q):=⟨b.os,b.tape,b.output,b.size,fun k hk _=>b.block k hk⟩
theorem gb_trans {a b c:World} {r:Option Nat} (h:a.grownBy b r) (g:b.grownBy c r):a.grownBy c r:=
 ⟨g.os.trans h.os,g.tape.trans h.tape,g.output.trans h.output,Nat.le_trans h.size g.size,fun k hk hne=>(g.block k (Nat.lt_of_lt_of_le hk h.size) hne).trans (h.block k hk hne)⟩
theorem gb_below' {a b:World} {q B:Nat} (h:a.grownBy b (some q)) (hq:B≤q) (hB:B≤a.heap.size):Below B a b:=
 ⟨h.os,h.tape,h.output,h.size,fun k hk=>h.block k (by omega) (fun e=>by injection e with e;omega)⟩
theorem st_lt {w:World} {q:Nat} {cs:Array Value} {T:TypeId} (h:Stands w q cs T):q < w.heap.size:=(Array.getElem?_eq_some_iff.1 h).1
theorem Nw.gb {B q:Nat} {e:TypeId} {w w':World} {v:Value} (h:Nw B e w v) (g:w.grownBy w' (some q)) (hq:q < B):Nw B e w' v:=by
 intro k hk
 obtain ⟨h1,cs,fr,h2⟩:=h k hk
 exact ⟨h1,cs,fr,by rw[g.block k (heap_lt' h2) (fun e=>by injection e with e;omega)];exact h2⟩
theorem rd_gb {k:IntKind} {B q:Nat} {e:TypeId} {w w':World} {v:Value} {xs:List Int} (h:Rd k w v xs) (n:Nw B e w v) (g:w.grownBy w' (some q)) (hq:q < B):Rd k w' v xs:=
 rd_stb (K:=fun _=>false) (D:=fun b=>b=q) h n rfl (fun b hb=>by subst hb;exact hq) w' (Agr.grown g (fun k hk=>by injection hk with hk;exact hk.symm))
theorem RdN.gb {B q:Nat} {w w':World} {v:Value} {xs:List Int} (h:Stk.RdN B w v xs) (g:w.grownBy w' (some q)) (hq:q < B):Stk.RdN B w' v xs:=⟨rd_gb h.1 h.2 g hq,h.2.gb g hq⟩
theorem Rn8.gb {B q:Nat} {w w':World} {v:Value} {xs:List Int} (h:Rn8 B w v xs) (g:w.grownBy w' (some q)) (hq:q < B):Rn8 B w' v xs:=⟨rd_gb h.1 h.2 g hq,h.2.gb g hq⟩
def kR (T:TypeId):Bool:=T==67||(T==64||(T==122||(T==59||T==30)))
theorem pop_ok (xs:List Int) (n:Nat) (h:n≤xs.length):Stk.popF xs n=(xs.take (xs.length - n),xs.drop (xs.length - n),0):=by
 unfold Stk.popF
 rw[if_neg (by omega),if_neg (by omega)]
 simp
theorem pop_no (xs:List Int) (n:Nat) (h:xs.length < n):Stk.popF xs n=([],[],5):=by
 unfold Stk.popF
 rw[if_neg (by omega),if_pos (by omega)]
set_option maxHeartbeats 1000000 in
theorem w_take (q:Nat) (cs:Array Value) (T:TypeId) (vs:Value) (xs:List Int) (n:Int) (w:World) (st:Stands w q cs T) (h0:cs[0]? =some vs) (r:Rd .u32 w vs xs) (hx:xs.length≤64):
  Calls Tryz.prog 134 #[.pointer (some ⟨q,0,none⟩), .int .i64 n] w fun e w'=>∃v1 v2,e= .returned (.tuple #[v2, .int .i64 (Stk.popF xs n).2.2])∧Stands w' q (cs.setIfInBounds 0 v1) T∧Stk.RdN w.heap.size w' v1 (Stk.popF xs n).1∧Stk.RdN w.heap.size w' v2 (Stk.popF xs n).2.1∧w.grownBy w' (some q):=by
 have c:=Stk.w_spop vs xs n w r (by omega)
 have f0:=st.cell 0 _ h0
 have hq:=st_lt st
 go_enter Tryz.func134,Tryz.ntmps134
 go_wp2_with (go_at_call 212;refine c.mono ?_;rintro e w2 ⟨v1,v2,rfl,o1,o2,b⟩;obtain ⟨a1,c1,rfl⟩:=rd_slice o1.1;obtain ⟨a2,c2,rfl⟩:=rd_slice o2.1;have g0:=(st.below b).cell 0 _ h0;have g1:=(st.below b).free 0)
 go_ret2
 have gb:=gb_set (gb_of (q:=q) b) 0 (.slice a1 (Stk.popF xs n).1.length c1)
 have gs:w2.grownBy (w2.setCell ⟨q,0,none⟩ (.slice a1 (Stk.popF xs n).1.length c1)) (some q):=gb_set (gb_refl _ _) 0 _
 exact ⟨_,_,rfl,(st.below b).set 0 _,RdN.gb o1 gs hq,RdN.gb o2 gs hq,gb⟩
set_option maxHeartbeats 1000000 in
theorem w_leaveE (q:Nat) (e0:Int) (vl:Value) (w:World) (h:(e0 !=0)=true):
  Calls Tryz.prog 79 #[.pointer (some ⟨q,0,none⟩), .int .i64 e0,vl] w fun e w'=>e= .returned (.int .i64 e0)∧w'=w:=by
 go_enter Tryz.func79,Tryz.ntmps79
 go_wp2_with fail
 go_ret
 exact ⟨rfl,rfl⟩
set_option maxHeartbeats 1000000 in
theorem w_leave (q:Nat) (cs:Array Value) (T:TypeId) (vs vl:Value) (xs ys:List Int) (w:World) (st:Stands w q cs T) (h0:cs[0]? =some vs) (r:Rd .u32 w vs xs) (rl:Rd .u32 w vl ys) (hx:xs.length≤64) (hy:ys.length≤64):
  Calls Tryz.prog 79 #[.pointer (some ⟨q,0,none⟩), .int .i64 0,vl] w fun e w'=>∃v1,e= .returned (.int .i64 (Stk.pushF xs ys).2)∧Stands w' q (cs.setIfInBounds 0 v1) T∧Stk.RdN w.heap.size w' v1 (Stk.pushF xs ys).1∧w.grownBy w' (some q):=by
 have c:=Stk.w_spush vs vl xs ys w r rl (by omega) (by omega)
 have f0:=st.cell 0 _ h0
 have hq:=st_lt st
 go_enter Tryz.func79,Tryz.ntmps79
 go_wp2_with (go_at_call 112;refine c.mono ?_;rintro e w2 ⟨v1,rfl,o1,b⟩;obtain ⟨a1,c1,rfl⟩:=rd_slice o1.1;have g0:=(st.below b).cell 0 _ h0;have g1:=(st.below b).free 0)
 go_ret
 have gb:=gb_set (gb_of (q:=q) b) 0 (.slice a1 (Stk.pushF xs ys).1.length c1)
 have gs:w2.grownBy (w2.setCell ⟨q,0,none⟩ (.slice a1 (Stk.pushF xs ys).1.length c1)) (some q):=gb_set (gb_refl _ _) 0 _
 exact ⟨_,rfl,(st.below b).set 0 _,RdN.gb o1 gs hq,gb⟩
set_option maxHeartbeats 1000000 in
theorem w_isWord (q:Nat) (cs:Array Value) (T:TypeId) (vw:Value) (l:List Wd) (x:Int) (w:World) (st:Stands w q cs T) (h2:cs[2]? =some vw) (r:RdW w vw l) (hx:0≤x∧x < 4294967296) (hl:l.length≤640):
  Calls Tryz.prog 213 #[.pointer (some ⟨q,0,none⟩), .int .u32 x] w fun e w'=>e= .returned (.bool (decide (x < l.length)))∧w'=w:=by
 have f2:=st.cell 2 _ h2
 have hlen:=slr_len r uW (P:=Tryz.prog)
 have hw1:IntKind.u64.wrap x=x:=by rw[IntKind.wrap_u64];omega
 have hw2:IntKind.u64.wrap (l.length:Int)=l.length:=by rw[IntKind.wrap_u64];omega
 go_enter Tryz.func213,Tryz.ntmps213
 go_wp2_with fail
 go_ret
 exact ⟨ret_b rfl,rfl⟩
end Go.Proofs.YtbamcchghecpeaaGreatDoor
