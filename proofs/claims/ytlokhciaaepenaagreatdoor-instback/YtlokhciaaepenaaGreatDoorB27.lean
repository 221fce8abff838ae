import Derived.Lib.LaidTab
import Derived.Test.YtlokhciaaepenaaGreatDoorRows
import Derived.Stop.LaidErr
import Derived.Test.YtlokhciaaepenaaGreatDoorB26
set_option linter.unusedVariables false
set_option linter.unusedSimpArgs false
set_option maxRecDepth 100000
namespace Go.Proofs.YtlokhciaaepenaaGreatDoor
open Go
def flatCells:DataW Unit→List Value
 | .lit (.int k n)=>[.int k n]
 | .lit (.bool b)=>[.bool b]
 | .lit (.string l)=>[.string ⟨l.toArray⟩]
 | .agg ds=>ds.attach.flatMap fun ⟨d,_⟩=>flatCells d
 |_=>[]
theorem flat_agg (ds:List (DataW Unit)):flatCells (.agg ds)=ds.flatMap flatCells:=by
 rw[flatCells]
 conv=>rhs;rw[←List.attach_map_subtype_val ds]
 rw[List.flatMap_map]
def contB (P:Program):List Field→Nat→Nat→Bool
 |[],o,e=>o==e
 |f::fs,o,e=>f.offset==o&&contB P fs (o+P.cellsOf f.type) e
theorem contB_le (P:Program):∀(fs:List Field) (o e:Nat),contB P fs o e=true→o≤e
 |[],o,e,h=>by simp[contB] at h;omega
 |f::fs,o,e,h=>by
  simp[contB] at h
  have:=contB_le P fs _ e h.2
  omega
def flatB (P:Program):Nat→TypeId→Bool
 |0,_=>false
 |m+1,t=>match P.underlying t with
  |some .bool=>true
  |some (.int _)=>true
  |some .string=>true
  |some (.struct fs)=>contB P fs.toList 0 (P.cellsOf t)&&fs.toList.all fun f=>flatB P m f.type
  |some (.array n e)=>P.cellsOf t==n*P.cellsOf e&&flatB P m e
  |_=>false
theorem flat_fields {P:Program} (cs:List Value) (g:TypeId→List Value→Option (DataW Unit×List MemPlace)):
  ∀(fs:List Field) (o e:Nat) (xs:List (DataW Unit×List MemPlace)),contB P fs o e=true→e≤cs.length→
   (∀f∈fs,∀l d p,g f.type l=some (d,p)→l=flatCells d)→
   fs.mapM (fun f=>g f.type ((cs.drop f.offset).take (P.cellsOf f.type)))=some xs→(cs.drop o).take (e - o)=(xs.map (·.1)).flatMap flatCells
 |[],o,e,xs,hc,he,hf,hm=>by
  simp[contB] at hc
  subst hc
  simp at hm
  subst hm
  simp
 |f::fs,o,e,xs,hc,he,hf,hm=>by
  simp only[List.mapM_cons,Option.bind_eq_bind,Option.bind_eq_some_iff,Option.pure_def,Option.some.injEq] at hm
  obtain ⟨⟨d,p⟩,hd,r,hr,rfl⟩:=hm
  simp[contB] at hc
  obtain ⟨ho,hc⟩:=hc
  have hle:=contB_le P fs _ e hc
  have ih:=flat_fields cs g fs _ e r hc he (fun f' h'=>hf f' (List.mem_cons_of_mem _ h')) hr
  have h1:=hf f (List.mem_cons_self ..) _ _ _ hd
  rw[ho] at h1
  simp only[List.map_cons,List.flatMap_cons]
  rw[←h1,←ih,show e - o=P.cellsOf f.type+(e - (o+P.cellsOf f.type)) by omega,List.take_add,List.drop_drop]
theorem flat_rows {P:Program} (cs:List Value) (c:Nat) (g:List Value→Option (DataW Unit×List MemPlace)) (hg:∀l d p,g l=some (d,p)→l=flatCells d):
  ∀(m s:Nat) (xs:List (DataW Unit×List MemPlace)),(List.range' s m).mapM (fun i=>g ((cs.drop (i*c)).take c))=some xs→(cs.drop (s*c)).take (m*c)=(xs.map (·.1)).flatMap flatCells
 |0,s,xs,hm=>by
  simp at hm
  subst hm
  simp
 |m+1,s,xs,hm=>by
  rw[List.range'_succ] at hm
  simp only[List.mapM_cons,Option.bind_eq_bind,Option.bind_eq_some_iff,Option.pure_def,Option.some.injEq] at hm
  obtain ⟨⟨d,p⟩,hd,r,hr,rfl⟩:=hm
  have ih:=flat_rows (P:=P) cs c g hg m (s+1) r hr
  have h1:=hg _ _ _ hd
  simp only[List.map_cons,List.flatMap_cons]
  rw[←h1,←ih,Nat.succ_mul,Nat.add_comm (m*c) c,List.take_add,List.drop_drop,Nat.succ_mul]
theorem flat_of_trod {enc:TypeId×Value→Unit} {P:Program} {w:World} {base:Nat} {sp:Nat→Bool} {held:Bool}:∀(m fuel:Nat) (t:TypeId) (cs:List Value) (d:DataW Unit) (p:List MemPlace),flatB P m t=true→
  DataW.trod enc P w base sp held fuel t cs=some (d,p)→cs=flatCells d
 |0,_,_,_,_,_,hf,_=>by simp[flatB] at hf
 |m+1,0,_,_,_,_,_,h=>by simp[DataW.trod] at h
 |m+1,fuel+1,t,cs,d,p,hf,h=>by
  unfold flatB at hf
  cases hu:P.underlying t with
  |none=>rw[hu] at hf;simp at hf
  |some u=>
   rw[hu] at hf
   cases u <;> simp only[] at hf
   case bool=>
    obtain ⟨z,hc,hx⟩:=DataW.trod_bool hu h
    obtain ⟨rfl,_⟩:=Prod.mk.inj hx
    simp[hc,flatCells]
   case int k=>
    obtain ⟨z,hc,hx,_⟩:=DataW.trod_int hu h
    obtain ⟨rfl,_⟩:=Prod.mk.inj hx
    simp[hc,flatCells]
   case string=>
    obtain ⟨z,hc,hx,_⟩:=DataW.trod_string hu h
    obtain ⟨rfl,_⟩:=Prod.mk.inj hx
    simp[hc,flatCells]
   case struct fs=>
    simp only[DataW.trod,hu] at h
    split at h
    ·rename_i hl
     obtain ⟨xs,hm,hx⟩:=Option.map_eq_some_iff.1 h
     rw[Bool.and_eq_true] at hf
     obtain ⟨rfl,_⟩: .agg (xs.map (·.1))=d∧_:=by simpa using hx
     rw[flat_agg]
     have:=flat_fields (P:=P) cs (fun t l=>DataW.trod enc P w base sp held fuel t l) fs.toList 0 (P.cellsOf t) xs hf.1 (by omega) (fun f hf' l d p hd=>flat_of_trod m fuel f.type l d p (List.all_eq_true.1 hf.2 f hf') hd) hm
     rw[←this,List.drop_zero,Nat.sub_zero,List.take_of_length_le (by omega)]
    ·cases h
   case array n e=>
    simp only[DataW.trod,hu] at h
    split at h
    ·rename_i hl
     obtain ⟨xs,hm,hx⟩:=Option.map_eq_some_iff.1 h
     rw[Bool.and_eq_true,beq_iff_eq] at hf
     obtain ⟨rfl,_⟩: .agg (xs.map (·.1))=d∧_:=by simpa using hx
     rw[flat_agg]
     rw[List.range_eq_range'] at hm
     have:=flat_rows (P:=P) cs (P.cellsOf e) (fun l=>DataW.trod enc P w base sp held fuel e l) (fun l d p hd=>flat_of_trod m fuel e l d p hf.2 hd) n 0 xs hm
     rw[←this,Nat.zero_mul,List.drop_zero,List.take_of_length_le (by omega)]
    ·cases h
   all_goals exact absurd hf (by decide)
theorem flat_laid {P:Program} {W:World} {name:String} {d:DataW Unit} {rest:List (String×DataW Unit)} {g:Nat} {t:TypeId} (m:Nat) (hg:P.globalNamed name=some g) (hty:(P.globals[g]?).map (·.type)=some t) (hf:flatB P m t=true)
  (h:laidMet P ((name,d)::rest) W):∀j v,(flatCells d)[j]? =some v→W.cell? ⟨g,j,none⟩=some v:=by
 obtain ⟨ps,⟨g',t',cs,fuel,p,q,hg',ht',hvar,hd,_,_⟩,_⟩:=h
 obtain rfl:=Option.some.inj (hg.symm.trans hg')
 obtain rfl:=Option.some.inj (hty.symm.trans ht')
 have e:=flat_of_trod m fuel t cs.toList d p hf hd
 intro j v hv
 rw[World.var?_cell hg hvar j,←Array.getElem?_toList,e,hv]
theorem g64 : Tryz.prog.globalNamed "math/bits.deBruijn64tab" = some 8 := by kernel_rfl
theorem g64T:(Tryz.prog.globals[8]?).map (·.type)=some 303:=by kernel_rfl
theorem g64F:flatB Tryz.prog 4 303=true:=by kernel_rfl
theorem gES : Tryz.prog.globalNamed "strconv.ErrSyntax" = some 3 := by kernel_rfl
theorem gEST:(Tryz.prog.globals[3]?).map (·.type)=some 171:=by kernel_rfl
theorem cellsE:Tryz.prog.cellsOf 238=1:=by kernel_rfl
theorem cellsS:Tryz.prog.cellsOf 9=1:=by kernel_rfl
theorem star : "*" ++ "errors.errorString" = "*errors.errorString" := by decide
theorem rowE (u : TypeId) (h : Tryz.prog.typeName? 3 u = some "*errors.errorString") : u = 236 :=
 typeName_ptr_named (nm := "errors.errorString") (by rw [star]; kernel_rfl) (by kernel_rfl) (by decide) u (by rw [star]; exact h)
theorem tab_of_laid {W : World} (h : laidMetH Tryz.prog [("math/bits.deBruijn32tab", Rows.laid_math_bits_deBruijn32tab), ("math/bits.deBruijn64tab", Rows.laid_math_bits_deBruijn64tab), ("internal/strconv.uint64pow10", Rows.laid_internal_strconv_uint64pow10), ("unicode/utf8.acceptRanges", Rows.laid_unicode_utf8_acceptRanges), ("strconv.ErrRange", Rows.laid_strconv_ErrRange), ("strconv.ErrSyntax", Rows.laid_strconv_ErrSyntax), ("tinder/stack.turns", Rows.laid_tinder_stack_turns), ("unicode/utf8.first", Rows.laid_unicode_utf8_first)] W) : Tab W := by
 have h : laidMet Tryz.prog [("math/bits.deBruijn32tab", Rows.laid_math_bits_deBruijn32tab), ("math/bits.deBruijn64tab", Rows.laid_math_bits_deBruijn64tab), ("internal/strconv.uint64pow10", Rows.laid_internal_strconv_uint64pow10), ("unicode/utf8.acceptRanges", Rows.laid_unicode_utf8_acceptRanges), ("strconv.ErrRange", Rows.laid_strconv_ErrRange), ("strconv.ErrSyntax", Rows.laid_strconv_ErrSyntax), ("tinder/stack.turns", Rows.laid_tinder_stack_turns), ("unicode/utf8.first", Rows.laid_unicode_utf8_first)] W := h
 have h1:=flat_laid 4 g64 g64T g64F h.tail 15 (.int .u8 4) (by simp[Rows.laid_math_bits_deBruijn64tab,flat_agg,flatCells])
 obtain ⟨a0,s0,hv0, -, -, -⟩:=laid_sentinel h.tail.tail.tail.tail.tail gES gEST Tryz.underlying171 rowE Tryz.underlying236 Tryz.underlying238 rfl rfl Tryz.underlying9 cellsE cellsS
 exact ⟨⟨_,_,by have h0:=World.var?_cell gES hv0 0;simpa using h0⟩,h1⟩
def laidObjs:Array Obj:=#[.cells #[.string ⟨#[118,97,108,117,101,32,111,117,116,32,111,102,32,114,97,110,103,101]⟩] 238, .cells #[.string ⟨#[105,110,118,97,108,105,100,32,115,121,110,116,97,120]⟩] 238]
noncomputable def low:Nat:=(World.holding Tryz.prog default ⟨#[],#[],[]⟩).heap.size
noncomputable def laidBlocks:List (Nat×Array Value):=
 [(7,(([0,1,28,2,29,14,24,3,30,22,20,15,25,17,4,8,31,27,13,23,21,19,16,7,26,12,18,6,11,5,10,9]:List Int).map (Value.int .u8)).toArray),(8,(([0,1,56,2,57,49,28,3,61,58,42,50,38,29,17,4,62,47,59,36,45,43,51,22,53,39,33,30,24,18,12,5,63,55,48,27,60,41,37,16,46,35,44,21,52,32,23,11,54,26,40,15,34,20,31,10,25,14,19,9,13,8,7,6]:List Int).map (Value.int .u8)).toArray),(6,(([1,10,100,1000,10000,100000,1000000,10000000,100000000,1000000000,10000000000,100000000000,1000000000000,10000000000000,100000000000000,1000000000000000,10000000000000000,100000000000000000,1000000000000000000,10000000000000000000]:List Int).map (Value.int .u64)).toArray),
  (2,(([128,191,160,191,128,159,144,191,128,143,0,0,0,0,0,0,0,0,0,0,0,0,0,0,0,0,0,0,0,0,0,0]:List Int).map (Value.int .u8)).toArray),(1,(Go.Pinned.utf8FirstZ.map (fun n:Nat=>Value.int .u8 (n:Int))).toArray),
  (5,#[.int .i64 70, .int .i64 1, .string ⟨#[]⟩, .int .i64 71, .int .i64 1, .string ⟨#[97,97]⟩, .int .i64 72, .int .i64 2, .string ⟨#[97,98,97]⟩, .int .i64 73, .int .i64 2, .string ⟨#[98,97]⟩, .int .i64 74, .int .i64 3, .string ⟨#[98,99,97]⟩, .int .i64 75, .int .i64 3, .string ⟨#[99,97,98]⟩, .int .i64 76, .int .i64 2, .string ⟨#[98,97,98]⟩, .int .i64 77, .int .i64 2, .string ⟨#[98]⟩, .int .i64 82, .int .i64 2, .string ⟨#[]⟩, .int .i64 83, .int .i64 2, .string ⟨#[97,98,97,98]⟩, .int .i64 84, .int .i64 4, .string ⟨#[97,98,99,100,97,98]⟩, .int .i64 85, .int .i64 4, .string ⟨#[99,100,97,98]⟩, .int .i64 86, .int .i64 6, .string ⟨#[99,100,101,102,97,98]⟩]),
  (4,#[.iface 236 (.pointer (some ⟨low,0,none⟩))]),(3,#[.iface 236 (.pointer (some ⟨low+1,0,none⟩))])]
end Go.Proofs.YtlokhciaaepenaaGreatDoor
