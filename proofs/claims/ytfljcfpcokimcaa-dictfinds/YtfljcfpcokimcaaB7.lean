/-
  Texts of one proof, laid one behind the other: Mcp Mco Dgm Fni Rp1 Rmf Rp2 Rp3 Rp4.
-/
import Derived.Test.YtfljcfpcokimcaaB6
namespace Go.Proofs.Ytfljcfpcokimcaa
open Go.ChangeShapes Go.WideShapes Go.ChangeAt Go.RowKit
set_option linter.unusedVariables false
set_option linter.unusedSimpArgs false

/-
  Machines and words that came in: what they read as, and how much they hold.
-/
set_option maxRecDepth 100000

/-- what is known of instructions, words, instances, machines that came in -/
def gO (y : Opd) : Prop := (Lit.int .i64 y.1).wf = true ∧ 0 ≤ y.2 ∧ y.2 < 4294967296
structure gW (x : Wd) : Prop where
  byt : bytesL x.1
  len : x.1.length ≤ maxLen
  node : (Lit.int .i64 x.2.1).wf = true
  kind : (Lit.int .i64 x.2.2.1).wf = true
  num : 0 ≤ x.2.2.2.1 ∧ x.2.2.2.1 < 4294967296
  ops : ∀ y ∈ x.2.2.2.2, gO y
  siz : x.2.2.2.2.length * 16 ≤ 140737488351232
structure gI (x : Iz) : Prop where
  node : (Lit.int .i64 x.1).wf = true
  par : (Lit.int .i64 x.2.1).wf = true
  byt : bytesL x.2.2.1
  len : x.2.2.1.length ≤ maxLen
  cel : cells x.2.2.2
  siz : x.2.2.2.length * 4 ≤ 140737488351232
structure gM (m : Mc) : Prop where
  stack : cells m.stack
  stackZ : m.stack.length * 4 ≤ 140737488351232
  mem : bytesL m.mem
  memZ : m.mem.length ≤ 140737488351232
  words : ∀ x ∈ m.words, gW x
  wordsZ : m.words.length * 64 ≤ 140737488351232
  codes : ∀ x ∈ m.codes, (Lit.int .i64 x).wf = true
  codesZ : m.codes.length * 8 ≤ 140737488351232
  base : 0 ≤ m.base ∧ m.base < 4294967296
  tree : ∀ x ∈ m.tree, goodN x
  treeZ : m.tree.length * 96 ≤ 140737488351232
  node : (Lit.int .i64 m.node).wf = true
  insts : ∀ x ∈ m.insts, gI x
  instsZ : m.insts.length * 56 ≤ 140737488351232
  self : (Lit.int .i64 m.self).wf = true
  out : bytesL m.out
  outZ : m.out.length ≤ 140737488351232
theorem op_str : Try.prog.underlying 78 = some (.struct (Try.prog.fieldsOf 78)) := by kernel_rfl
theorem opFs : (Try.prog.fieldsOf 78).toList.map (fun f => (f.type, f.offset)) = [(3, 0), (28, 1)] := by kernel_rfl
theorem wrd_str : Try.prog.underlying 51 = some (.struct (Try.prog.fieldsOf 51)) := by kernel_rfl
theorem wrdFs : (Try.prog.fieldsOf 51).toList.map (fun f => (f.type, f.offset)) = [(9, 0), (3, 1), (3, 2), (28, 3), (45, 4)] := by kernel_rfl
theorem ins_str : Try.prog.underlying 83 = some (.struct (Try.prog.fieldsOf 83)) := by kernel_rfl
theorem insFs : (Try.prog.fieldsOf 83).toList.map (fun f => (f.type, f.offset)) = [(3, 0), (3, 1), (9, 2), (24, 3)] := by kernel_rfl
theorem mch_str : Try.prog.underlying 32 = some (.struct (Try.prog.fieldsOf 32)) := by kernel_rfl
theorem mchFs : (Try.prog.fieldsOf 32).toList.map (fun f => (f.type, f.offset)) = [(24, 0), (25, 1), (26, 2), (27, 3), (28, 4), (29, 5), (3, 6), (30, 7), (3, 8), (9, 9)] := by kernel_rfl
theorem bytOp : Try.prog.bytesOf 78 = 16 := by kernel_rfl
theorem bytWd : Try.prog.bytesOf 51 = 64 := by kernel_rfl
theorem bytIz : Try.prog.bytesOf 83 = 56 := by kernel_rfl
theorem bytI64 : Try.prog.bytesOf 3 = 8 := by kernel_rfl

theorem op_trod {H : Type} {enc : TypeId × Value → H} {W : World} (fuel : Nat) (cs : List Value) (y : DataW H × List MemPlace) (h : DataW.trod enc Try.prog W 0 (fun _ => true) true fuel 78 cs = some y) (hw : ∀ n ∈ y.1.weights Try.prog 78, n ≤ reachBytes) :
    ∃ x : Opd, opR W cs x ∧ gO x := by
  obtain ⟨xs, n, _, rfl, hl, hlen, hf⟩ := DataW.trod_struct op_str h
  rw [show Try.prog.cellsOf 78 = 2 by kernel_rfl] at hl
  rw [show (Try.prog.fieldsOf 78).size = 2 by kernel_rfl] at hlen
  match cs, hl with
  | [c0, c1], _ =>
    have g0 := str_field op_str hf opFs hw 0 3 0 rfl (by kernel_rfl) (by omega)
    have g1 := str_field op_str hf opFs hw 1 28 1 rfl (by kernel_rfl) (by omega)
    obtain ⟨a, a1, a2, a3⟩ := DataW.trod_int Try.underlying3 g0.1
    obtain ⟨b, b1, b2, b3⟩ := DataW.trod_int Try.underlying28 g1.1
    simp at a1 b1
    subst a1 b1
    exact ⟨(a, b), rfl, a3, wf8 b3⟩
theorem wrd_trod {H : Type} {enc : TypeId × Value → H} {W : World} (fuel : Nat) (cs : List Value) (y : DataW H × List MemPlace) (h : DataW.trod enc Try.prog W 0 (fun _ => true) true fuel 51 cs = some y) (hw : ∀ n ∈ y.1.weights Try.prog 51, n ≤ reachBytes) :
    ∃ x : Wd, wrdR W cs x ∧ gW x := by
  obtain ⟨xs, n, _, rfl, hl, hlen, hf⟩ := DataW.trod_struct wrd_str h
  rw [show Try.prog.cellsOf 51 = 5 by kernel_rfl] at hl
  rw [show (Try.prog.fieldsOf 51).size = 5 by kernel_rfl] at hlen
  match cs, hl with
  | [c0, c1, c2, c3, c4], _ =>
    have g0 := str_field wrd_str hf wrdFs hw 0 9 0 rfl (by kernel_rfl) (by omega)
    have g1 := str_field wrd_str hf wrdFs hw 1 3 1 rfl (by kernel_rfl) (by omega)
    have g2 := str_field wrd_str hf wrdFs hw 2 3 2 rfl (by kernel_rfl) (by omega)
    have g3 := str_field wrd_str hf wrdFs hw 3 28 3 rfl (by kernel_rfl) (by omega)
    have g4 := str_field wrd_str hf wrdFs hw 4 45 4 rfl (by kernel_rfl) (by omega)
    obtain ⟨k, k1, k2, k3⟩ := DataW.trod_string Try.underlying9 g0.1
    obtain ⟨a, a1, a2, a3⟩ := DataW.trod_int Try.underlying3 g1.1
    obtain ⟨b, b1, b2, b3⟩ := DataW.trod_int Try.underlying3 g2.1
    obtain ⟨c, d1, d2, d3⟩ := DataW.trod_int Try.underlying28 g3.1
    obtain ⟨a4, l4, r4, q, e4, hq, hf4, hz4⟩ := slr_trod (sz := 2) opR gO Try.underlying45 (by kernel_rfl) (by omega) g4.1 g4.2 op_trod
    simp at k1 a1 b1 d1 e4
    subst k1 a1 b1 d1 e4
    rw [bytOp] at hz4
    unfold reachBytes at hz4
    exact ⟨(LB k, a, b, c, q), ⟨_, by simp [nums_LB], hq⟩, ⟨LB_bytes k, by rw [LB_len]; exact k3, a3, b3, wf8 d3, hf4, hz4⟩⟩
theorem ins_trod {H : Type} {enc : TypeId × Value → H} {W : World} (fuel : Nat) (cs : List Value) (y : DataW H × List MemPlace) (h : DataW.trod enc Try.prog W 0 (fun _ => true) true fuel 83 cs = some y) (hw : ∀ n ∈ y.1.weights Try.prog 83, n ≤ reachBytes) :
    ∃ x : Iz, insR W cs x ∧ gI x := by
  obtain ⟨xs, n, _, rfl, hl, hlen, hf⟩ := DataW.trod_struct ins_str h
  rw [show Try.prog.cellsOf 83 = 4 by kernel_rfl] at hl
  rw [show (Try.prog.fieldsOf 83).size = 4 by kernel_rfl] at hlen
  match cs, hl with
  | [c0, c1, c2, c3], _ =>
    have g0 := str_field ins_str hf insFs hw 0 3 0 rfl (by kernel_rfl) (by omega)
    have g1 := str_field ins_str hf insFs hw 1 3 1 rfl (by kernel_rfl) (by omega)
    have g2 := str_field ins_str hf insFs hw 2 9 2 rfl (by kernel_rfl) (by omega)
    have g3 := str_field ins_str hf insFs hw 3 24 3 rfl (by kernel_rfl) (by omega)
    obtain ⟨a, a1, a2, a3⟩ := DataW.trod_int Try.underlying3 g0.1
    obtain ⟨b, b1, b2, b3⟩ := DataW.trod_int Try.underlying3 g1.1
    obtain ⟨k, k1, k2, k3⟩ := DataW.trod_string Try.underlying9 g2.1
    obtain ⟨a4, l4, r4, u, e4, hu, hf4, hz4⟩ := rd_trod Try.underlying24 Try.underlying28 (by kernel_rfl) g3.1 g3.2
    simp at k1 a1 b1 e4
    subst k1 a1 b1 e4
    rw [bytI32] at hz4
    unfold reachBytes at hz4
    exact ⟨(a, b, LB k, u), ⟨_, by simp [nums_LB], hu⟩, ⟨a3, b3, LB_bytes k, by rw [LB_len]; exact k3, fun n hn => wf8 (hf4 n hn), hz4⟩⟩
/-- a machine as a parameter -/
theorem mch_open {H : Type} {enc : TypeId × Value → H} {W : World} {base : Nat} {v : Value} {d : DataW H} {ps : List MemPlace} (hok : Value.okWide Try.prog W .any base 32 v) (h : DataW.Trod enc Try.prog W 0 (fun _ => true) true 32 v d ps) (hw : ∀ n ∈ d.weights Try.prog 32, n ≤ reachBytes) :
    ∃ (mv : Mv) (m : Mc) (o : ByteArray), v = .agg (mv.cs m o) ∧ RdM W mv m o ∧ gM m ∧ o.size ≤ maxLen := by
  obtain ⟨cs0, rfl, _, _⟩ : ∃ cs, v = .agg cs ∧ cs.size = Try.prog.cellsOf 32 ∧ Row.okWide Try.prog W .any base 32 cs := by
    simpa [Value.okWide, mch_str] using hok
  obtain ⟨fuel, hf0⟩ := h
  have hf2 : DataW.trod enc Try.prog W 0 (fun _ => true) true fuel 32 cs0.toList = some (d, ps) := hf0
  obtain ⟨xs, n, _, hd, hl, hlen, hf⟩ := DataW.trod_struct mch_str hf2
  obtain ⟨rfl, _⟩ := Prod.mk.inj hd
  rw [show Try.prog.cellsOf 32 = 10 by kernel_rfl] at hl
  rw [show (Try.prog.fieldsOf 32).size = 10 by kernel_rfl] at hlen
  obtain ⟨cs⟩ := cs0
  match cs, hl with
  | [c0, c1, c2, c3, c4, c5, c6, c7, c8, c9], _ =>
    have g0 := str_field mch_str hf mchFs hw 0 24 0 rfl (by kernel_rfl) (by omega)
    have g1 := str_field mch_str hf mchFs hw 1 25 1 rfl (by kernel_rfl) (by omega)
    have g2 := str_field mch_str hf mchFs hw 2 26 2 rfl (by kernel_rfl) (by omega)
    have g3 := str_field mch_str hf mchFs hw 3 27 3 rfl (by kernel_rfl) (by omega)
    have g4 := str_field mch_str hf mchFs hw 4 28 4 rfl (by kernel_rfl) (by omega)
    have g5 := str_field mch_str hf mchFs hw 5 29 5 rfl (by kernel_rfl) (by omega)
    have g6 := str_field mch_str hf mchFs hw 6 3 6 rfl (by kernel_rfl) (by omega)
    have g7 := str_field mch_str hf mchFs hw 7 30 7 rfl (by kernel_rfl) (by omega)
    have g8 := str_field mch_str hf mchFs hw 8 3 8 rfl (by kernel_rfl) (by omega)
    have g9 := str_field mch_str hf mchFs hw 9 9 9 rfl (by kernel_rfl) (by omega)
    obtain ⟨a0, l0, r0, x0, e0, h0, w0, z0⟩ := rd_trod Try.underlying24 Try.underlying28 (by kernel_rfl) g0.1 g0.2
    obtain ⟨a1, l1, r1, x1, e1, h1, w1, z1⟩ := rd_trod Try.underlying25 Try.underlying5 (by kernel_rfl) g1.1 g1.2
    obtain ⟨a2, l2, r2, x2, e2, h2, w2, z2⟩ := slr_trod (sz := 5) wrdR gW Try.underlying26 (by kernel_rfl) (by omega) g2.1 g2.2 wrd_trod
    obtain ⟨a3, l3, r3, x3, e3, h3, w3, z3⟩ := rd_trod Try.underlying27 Try.underlying3 (by kernel_rfl) g3.1 g3.2
    obtain ⟨x4, e4, _, w4⟩ := DataW.trod_int Try.underlying28 g4.1
    obtain ⟨a5, l5, r5, x5, e5, h5, w5, z5⟩ := slr_trod (sz := 5) nodR goodN Try.underlying29 (by kernel_rfl) (by omega) g5.1 g5.2 nod_trod
    obtain ⟨x6, e6, _, w6⟩ := DataW.trod_int Try.underlying3 g6.1
    obtain ⟨a7, l7, r7, x7, e7, h7, w7, z7⟩ := slr_trod (sz := 4) insR gI Try.underlying30 (by kernel_rfl) (by omega) g7.1 g7.2 ins_trod
    obtain ⟨x8, e8, _, w8⟩ := DataW.trod_int Try.underlying3 g8.1
    obtain ⟨x9, e9, k9, w9⟩ := DataW.trod_string Try.underlying9 g9.1
    have z9 := g9.2
    rw [k9] at z9
    have z9' := z9 x9.data.toList.length (by simp [DataW.weights])
    simp at e0 e1 e2 e3 e4 e5 e6 e7 e8 e9
    subst e0 e1 e2 e3 e4 e5 e6 e7 e8 e9
    rw [bytI32] at z0
    rw [bytI8] at z1
    rw [bytWd] at z2
    rw [bytI64] at z3
    rw [bytNo] at z5
    rw [bytIz] at z7
    unfold reachBytes at z0 z1 z2 z3 z5 z7 z9'
    have s9 : x9.data.toList.length = x9.size := by simp
    exact ⟨⟨_, _, _, _, _, _⟩, ⟨x0, x1, x2, x3, x4, x5, x6, x7, x8, LB x9⟩, x9, rfl, ⟨h0, h1, h2, h3, h5, h7, nums_LB x9⟩, ⟨fun n hn => wf8 (w0 n hn), z0, wf_bytes w1, by simp only; omega, w2, z2, w3, z3, wf8 w4, w5, z5, w6, w7, z7, w8, LB_bytes x9, by simp only; rw [LB_len]; omega⟩, w9⟩
/-- a word as a parameter -/
theorem wrd_open {H : Type} {enc : TypeId × Value → H} {W : World} {base : Nat} {v : Value} {d : DataW H} {ps : List MemPlace} (hok : Value.okWide Try.prog W .any base 51 v) (h : DataW.Trod enc Try.prog W 0 (fun _ => true) true 51 v d ps) (hw : ∀ n ∈ d.weights Try.prog 51, n ≤ reachBytes) :
    ∃ (nm : ByteArray) (vc : Value) (x : Wd), v = .agg #[.string nm, .int .i64 x.2.1, .int .i64 x.2.2.1, .int .u32 x.2.2.2.1, vc] ∧ strOfNums x.1 = nm ∧ RdO W vc x.2.2.2.2 ∧ gW x := by
  obtain ⟨cs0, rfl, _, _⟩ : ∃ cs, v = .agg cs ∧ cs.size = Try.prog.cellsOf 51 ∧ Row.okWide Try.prog W .any base 51 cs := by
    simpa [Value.okWide, wrd_str] using hok
  obtain ⟨fuel, hf0⟩ := h
  obtain ⟨x, ⟨vc, h1, h2⟩, h3⟩ := wrd_trod fuel cs0.toList (d, ps) hf0 hw
  obtain ⟨cs⟩ := cs0
  simp only at h1
  subst h1
  exact ⟨_, vc, x, rfl, rfl, h2, h3⟩

/-
  Instructions that came in.
-/
theorem ops_open {H : Type} {enc : TypeId × Value → H} {W : World} {a : Option Addr} {len cap : Nat} {d : DataW H} {ps : List MemPlace} (h : DataW.Trod enc Try.prog W 0 (fun _ => true) true 45 (.slice a len cap) d ps) (hw : ∀ n ∈ d.weights Try.prog 45, n ≤ reachBytes) :
    ∃ t : List Opd, RdO W (.slice a len cap) t ∧ (∀ x ∈ t, gO x) ∧ t.length * 16 ≤ 140737488351232 := by
  obtain ⟨fuel, hf⟩ := h
  obtain ⟨a', l', c', xs, e, h1, h2, h3⟩ := slr_trod (y := (d, ps)) (sz := 2) opR gO Try.underlying45 (by kernel_rfl) (by omega) (show DataW.trod enc Try.prog W 0 (fun _ => true) true fuel 45 [.slice a len cap] = some (d, ps) from hf) hw op_trod
  simp at e
  obtain ⟨rfl, rfl, rfl⟩ := e
  rw [bytOp] at h3
  unfold reachBytes at h3
  exact ⟨xs, h1, h2, h3⟩

/-
  What is known of machines that came in, and of what is made of them.
-/
theorem nil_gM : gM nilM := by
  constructor <;> first | (intro x hx; simp [nilM] at hx) | (simp [nilM]; done) | (simp only [nilM]; decide)
theorem root_goodN : goodN ([], [], -1, [], []) := by
  refine ⟨⟨fun c hc => by simp at hc, fun p hp => by simp at hp⟩, ⟨by simp, fun p hp => by simp at hp⟩, ⟨by simp, by simp, by simp, fun p hp => by simp at hp⟩, fun c hc => by simp at hc, fun c hc => by simp at hc, by decide⟩
theorem prm_good : prmL.all (fun p => decide (0 ≤ p.2 ∧ p.2 < 4294967296) && (decide (p.1.length ≤ 31) && p.1.all (fun c => decide (0 ≤ c ∧ c < 256)))) = true := by decide +kernel
theorem new_gM : gM newM := by
  have hw : ∀ x ∈ newM.words, gW x := by
    intro x hx
    obtain ⟨p, hp, rfl⟩ := List.mem_map.1 (show x ∈ prmL.map prmW from hx)
    have h := List.all_eq_true.1 prm_good p hp
    simp only [Bool.and_eq_true, decide_eq_true_eq, List.all_eq_true] at h
    exact ⟨fun c hc => h.2.2 c hc, by unfold maxLen; have := h.2.1; show p.1.length ≤ _; omega, by show (Lit.int .i64 (-1)).wf = true; decide, by show (Lit.int .i64 1).wf = true; decide, h.1, fun y hy => by simp [prmW] at hy, by simp [prmW]⟩
  refine ⟨fun c hc => by simp [newM] at hc, by simp [newM], fun c hc => by simp [newM] at hc, by simp [newM], hw, ?_, fun c hc => by simp [newM] at hc, by simp [newM], by simp [newM], fun x hx => ?_, by simp [newM], by show (Lit.int .i64 (-1)).wf = true; decide, fun x hx => by simp [newM] at hx, by simp [newM], by show (Lit.int .i64 (-1)).wf = true; decide, fun c hc => by simp [newM] at hc, by simp [newM]⟩
  · show (prmL.map prmW).length * 64 ≤ _
    rw [List.length_map, prm_len]
    omega
  · have : x = ([], [], -1, [], []) := by simpa [newM] using hx
    subst this
    exact root_goodN
theorem dfn_gM {m : Mc} {x : Wd} (h : gM m) (hx : gW x) : gM (dfnF m x).1 := by
  unfold dfnF
  split
  · exact nil_gM
  · split
    · exact nil_gM
    · rename_i c1 c2
      refine ⟨h.stack, h.stackZ, h.mem, h.memZ, fun y hy => ?_, ?_, h.codes, h.codesZ, h.base, h.tree, h.treeZ, h.node, h.insts, h.instsZ, h.self, h.out, h.outZ⟩
      · rcases List.mem_append.1 hy with hy | hy
        · exact h.words y hy
        · rw [List.mem_singleton] at hy
          subst hy
          exact hx
      · show (m.words ++ [x]).length * 64 ≤ _
        rw [List.length_append, List.length_singleton]
        omega
theorem bnd_gM {m : Mc} {code xt : Int} (h : gM m) (hx : (Lit.int .i64 xt).wf = true) : gM (bndF m code xt).1 := by
  unfold bndF
  split
  · exact nil_gM
  · split
    · exact nil_gM
    · split
      · exact nil_gM
      · rename_i c1 c2 c3
        refine ⟨h.stack, h.stackZ, h.mem, h.memZ, h.words, h.wordsZ, fun y hy => ?_, ?_, h.base, h.tree, h.treeZ, h.node, h.insts, h.instsZ, h.self, h.out, h.outZ⟩
        · have hy' : y ∈ bdcF m.codes (code - 2048).toNat xt := hy
          unfold bdcF at hy'
          rcases List.mem_or_eq_of_mem_set hy' with hy' | rfl
          · rcases List.mem_append.1 hy' with hy' | hy'
            · exact h.codes y hy'
            · obtain ⟨_, rfl⟩ := List.mem_replicate.1 hy'
              decide
          · exact hx
        · show (bdcF m.codes (code - 2048).toNat xt).length * 8 ≤ _
          rw [bdc_len]
          have hh : frmM m = true := by simpa using c1
          unfold frmM cdsF at hh
          simp only [Bool.and_eq_true, decide_eq_true_eq] at hh
          omega

/-
  What is plain about looking for words, for the document's answer and for the package alike.
-/
/-- a place that was found, as a number -/
def fnI (r : Option Nat) : Int := match r with
  | some k => (k : Nat)
  | none => 0
theorem lst_take {α : Type} (p : α → Bool) (l : List α) (k : Nat) (h : k < l.length) (hp : p l[k] = false) : lstF p (l.take (k + 1)) = lstF p (l.take k) := by
  rw [List.take_succ_eq_append_getElem h, lst_snoc, if_neg (by simp [hp])]
theorem lst_hit {α : Type} (p : α → Bool) (l : List α) (k : Nat) (h : k < l.length) (hp : p l[k] = true) : lstF p (l.take (k + 1)) = some k := by
  rw [List.take_succ_eq_append_getElem h, lst_snoc, if_pos hp, List.length_take]
  congr 1
  omega
theorem L_nil {s : ByteArray} (h : L s = []) : s = ⟨#[]⟩ := by
  have h1 := nums_LB s
  rw [show LB s = [] from h] at h1
  rw [← h1]
  decide +kernel

theorem emp_no {s : ByteArray} (h : ¬ s = ⟨#[]⟩) : s.toList.isEmpty = false := by
  rw [Bool.eq_false_iff]
  intro g
  rw [List.isEmpty_iff, ByteArray.toList_eq] at g
  apply h
  obtain ⟨⟨l⟩⟩ := s
  simp at g
  subst g
  rfl

/-- a word that was found, as a number -/
def cdI (r : Option Int) : Int := match r with
  | some k => k
  | none => 0
theorem uJ : Try.prog.underlying 27 = some (.slice (Try.prog.elem 27)) := by kernel_rfl
theorem eJ : Try.prog.elem 27 = 3 := by kernel_rfl
theorem zJ (w : World) : (sizeOf (Try.prog.elem 27)).run Try.prog w = .ok 1 w := by rw [eJ]; exact Try.sizeOf3 w
theorem fix_take {α : Type} (p : α → Bool) (l : List α) (k : Nat) (h : k < l.length) (ha : (l.take k).findIdx? p = none) (hp : p l[k] = false) : (l.take (k + 1)).findIdx? p = none := by
  rw [List.findIdx?_eq_none_iff] at ha ⊢
  intro x hx
  rw [List.take_succ_eq_append_getElem h] at hx
  rcases List.mem_append.1 hx with hx | hx
  · exact ha x hx
  · simp at hx
    rw [hx]
    exact hp
theorem fix_hit {α : Type} (p : α → Bool) (l : List α) (k : Nat) (h : k < l.length) (ha : (l.take k).findIdx? p = none) (hp : p l[k] = true) : l.findIdx? p = some k := by
  rw [List.findIdx?_eq_some_iff_getElem]
  refine ⟨h, hp, fun j hj => ?_⟩
  rw [List.findIdx?_eq_none_iff] at ha
  have := ha l[j] (by rw [List.mem_take_iff_getElem]; exact ⟨j, by omega, rfl⟩)
  simp [this]

/-
  Named, EncodeInt, EncodeText of the document's answer for properties.
-/
theorem run_at {w : World} (s : ByteArray) (k : Nat) (h : k < s.size) (hm : s.size ≤ maxLen) : (Instr.index 9 (.string s) (.int .i64 (k : Int))).run Try.prog w = .ok (.int .u8 (s[k].toNat : Int)) w := by
  unfold maxLen at hm
  rw [run_index_string (h := Try.underlying9)]
  simp [h]

theorem run_bad (k : Nat) (hk : k < 6) (w : World) : (Instr.index 9 (.string ⟨#[47, 92, 58, 91, 93, 64]⟩) (.int .i64 (k : Int))).run Try.prog w = .ok (.int .u8 (([47, 92, 58, 91, 93, 64] : List Int).getD k 0)) w := by
  rw [run_at ⟨#[47, 92, 58, 91, 93, 64]⟩ k (show k < 6 from hk) (by decide)]
  have : k = 0 ∨ k = 1 ∨ k = 2 ∨ k = 3 ∨ k = 4 ∨ k = 5 := by omega
  rcases this with rfl | rfl | rfl | rfl | rfl | rfl <;> rfl

set_option maxHeartbeats 1000000 in
set_option maxRecDepth 100000 in
theorem w_rnamed (s : ByteArray) (w : World) (hs : s.size ≤ maxLen) :
    Calls Try.prog 78 #[.string s] w fun e w' => e = .returned (.bool (nmF (L s))) ∧ Below w.heap.size w w' := by
  have hs2 := hs
  unfold maxLen at hs2
  have z0 := run_bad 0 (by omega)
  have z1 := run_bad 1 (by omega)
  have z2 := run_bad 2 (by omega)
  have z3 := run_bad 3 (by omega)
  have z4 := run_bad 4 (by omega)
  have z5 := run_bad 5 (by omega)
  simp only [List.getD_eq_getElem?_getD, List.getElem?_cons_zero, List.getElem?_cons_succ, Option.getD_some, Int.cast_ofNat_Int] at z0 z1 z2 z3 z4 z5
  by_cases h1 : 1 ≤ s.size ∧ s.size ≤ 31
  · obtain ⟨h1, h31⟩ := h1
    go_enter Try.func78, Try.ntmps78
    go_wp2_with fail
    go_loopw [3] (fun I wx => ∃ (k : Nat), (k : Int) ≤ s.size ∧ I = .int .i64 k ∧ Hid (((L s).take k).all nmC = true) ∧ Below w.heap.size w wx) (fun I _ => (s.size - intOf I).toNat)
    case atStart => exact ⟨0, by omega, rfl, hid rfl, Below.refl _ _⟩
    case round =>
      obtain ⟨k, hk, rfl, ha, hb⟩ := hrel
      by_cases hlt : (k : Int) < s.size
      · have hkk : k < s.size := by omega
        obtain ⟨c, hc⟩ : ∃ c, (s[k].toNat : Int) = c := ⟨_, rfl⟩
        have hcb := L_bd s k hkk
        rw [hc] at hcb
        obtain ⟨c0, c1⟩ := hcb
        have hLd : Hid (L s = (L s).take k ++ c :: (L s).drop (k + 1)) := by
          show _ = _
          rw [← hc, ← L_drop s k hkk, List.take_append_drop]
        have hLt : Hid ((L s).take (k + 1) = (L s).take k ++ [c]) := by show _ = _; rw [← hc]; exact L_take s k hkk
        cases hcc : nmC c
        · have hf : Hid (nmF (L s) = false) := by show _ = _; rw [hLd.out]; exact nm_mid _ _ _ hcc
          have hcs : c < 33 ∨ 126 < c ∨ (65 ≤ c ∧ c ≤ 90) ∨ c = 47 ∨ c = 92 ∨ c = 58 ∨ c = 91 ∨ c = 93 ∨ c = 64 := by simp [nmC] at hcc; omega
          have hrun := run_at (w := wr) s k hkk hs
          rw [hc] at hrun
          clear hcc hLd hLt hc
          rcases hcs with h | h | h | h | h | h | h | h | h
          · go_wp2_with fail
            go_ret
            exact ⟨ret_b hf.out.symm, hb⟩
          · go_wp2_with fail
            go_ret
            exact ⟨ret_b hf.out.symm, hb⟩
          · obtain ⟨h, h'⟩ := h
            go_wp2_with fail
            go_ret
            exact ⟨ret_b hf.out.symm, hb⟩
          all_goals subst h
          all_goals go_wp2_with fail
          all_goals go_rounds 7
          all_goals go_ret
          all_goals exact ⟨ret_b hf.out.symm, hb⟩
        · have ha2 : Hid (((L s).take (k + 1)).all nmC = true) := by
            show _ = _
            rw [hLt.out, List.all_append, ha.out]
            simp [hcc]
          simp [nmC] at hcc
          have hrun := run_at (w := wr) s k hkk hs
          rw [hc] at hrun
          obtain ⟨q1, q2, q3, n1, n2, n3, n4, n5, n6⟩ := hcc
          clear hLd hLt hc
          rcases q3 with hq | hq
          all_goals go_wp2_with fail
          all_goals go_rounds 7
          all_goals go_roundw
          case rel => exact ⟨k + 1, by omega, by go_num, ha2, hb⟩
          case measure => simp [intOf]; omega
          case rel => exact ⟨k + 1, by omega, by go_num, ha2, hb⟩
          case measure => simp [intOf]; omega
      · have hf : Hid (nmF (L s) = true) := by
          show _ = _
          have := ha.out
          rw [List.take_of_length_le (by rw [L_len]; omega)] at this
          unfold nmF
          rw [this, L_len]
          simp
          omega
        go_wp2_with fail
        go_ret
        exact ⟨ret_b hf.out.symm, hb⟩
  · have hf : Hid (nmF (L s) = false) := by
      show _ = _
      unfold nmF
      rw [L_len]
      simp
      omega
    by_cases h0 : s.size < 1
    · go_enter Try.func78, Try.ntmps78
      go_wp2_with fail
      go_ret
      exact ⟨ret_b hf.out.symm, Below.refl _ _⟩
    · have h32 : (31 : Int) < s.size := by omega
      go_enter Try.func78, Try.ntmps78
      go_wp2_with fail
      go_ret
      exact ⟨ret_b hf.out.symm, Below.refl _ _⟩

/-- one byte more on a row of bytes of the call's own -/
def Own8 (base : Nat) (w : World) (v : Value) (xs : List Int) : Prop := w.ownsRow base 5 1 v xs.length (xs.map (Value.int .u8))

theorem enc_at (n : Int) (h0 : 0 ≤ n) (k : Nat) (hk : k ≤ 3) : (beB 4 n).take (3 - k + 1) = (beB 4 n).take (3 - k) ++ [n / 2 ^ (8 * k) % 256] := by
  have e : beB 4 n = [n / 256 / 256 / 256 % 256, n / 256 / 256 % 256, n / 256 % 256, n % 256] := by simp [beB]
  rw [e]
  have : k = 0 ∨ k = 1 ∨ k = 2 ∨ k = 3 := by omega
  rcases this with rfl | rfl | rfl | rfl
  all_goals simp
  all_goals omega

/-
  Fetch and Text of the document's answer for a memory of bytes.
-/
/-- a byte of the memory: its address' rule, its cell, its bounds -/
theorem mem_at {w : World} {v : Value} {xs : List Int} (h : Rd .u8 w v xs) (hb : bytesL xs) (i : Int) (h0 : 0 ≤ i) (h1 : i < xs.length) :
    ∃ (ad : Addr) (b : Int), (∀ w', (Instr.indexAt 25 v (.int .i64 i)).run Try.prog w' = .ok (.pointer (some ad)) w') ∧ w.cell? ad = some (.int .u8 b) ∧ 0 ≤ b ∧ b < 256 ∧ xs.getD i.toNat 0 = b := by
  obtain ⟨ad, h2, h3⟩ := rd_idx h uB zB i h0 h1
  have hm : xs.getD i.toNat 0 ∈ xs := by
    rw [List.getD_eq_getElem?_getD, List.getElem?_eq_getElem (by omega)]
    simp
  exact ⟨ad, _, h2, h3, (hb _ hm).1, (hb _ hm).2, rfl⟩
theorem take_one (xs : List Int) (p : Nat) (h : p < xs.length) : (xs.drop p).take 1 = [xs.getD p 0] := by
  rw [List.drop_eq_getElem_cons h, List.getD_eq_getElem?_getD, List.getElem?_eq_getElem h]; rfl
theorem take_more (xs : List Int) (p n : Nat) (h : p < xs.length) : (xs.drop p).take (n + 1) = xs.getD p 0 :: (xs.drop (p + 1)).take n := by
  rw [List.drop_eq_getElem_cons h, List.getD_eq_getElem?_getD, List.getElem?_eq_getElem h]; rfl

/-
  EncodeText, DecodeInt, DecodeText, Join, Ints, Texts of the document's answer for properties.
-/
/-- append of one cell onto a row of the call's own -/
theorem wpList_append_one {P : Program} {w : World} {ops : Array Oper} {rest : List Oper} {o : Oper} {a : Act} {Q : Exit → Act → World → Prop} (hgd : o.guard = none) (s x : Operand) (t : TypeId)
    (ho : o.op = .call { callee := .builtin .append, args := #[s, x], argTypes := #[t, t] })
    (base : Nat) (e : TypeId) (i : TypeInfo) (z : Value) (bytes : Nat) (ht : P.underlying t = some (.slice e)) (hi : P.info? e = some i) (hz : i.zero = some z) (hsize : i.size = 1) (hby : i.bytes = bytes) (hz1 : z.cells = #[z])
    (v : Value) (cs : List Value) (hs : a.eval s = v) (hown : w.ownsRow base e 1 v cs.length cs)
    (b : Nat) (c : Value) (hx : a.eval x = .slice (some ⟨b, 0, none⟩) 1 1) (hc : w.cell? ⟨b, 0, none⟩ = some c) (hc1 : c.oneCell' = true)
    (h63 : cs.length + 1 ≤ maxLen) (hbytes : (cs.length + 1) * bytes ≤ 140737488355328) (hbase : base ≤ w.heap.size)
    (h : ∀ v' w', w'.ownsRow base e 1 v' (cs ++ [c]).length (cs ++ [c]) → w.grownBy w' v.ownBlock → wpList P ops Q rest (a.put o.dst v') w') : wpList P ops Q (o :: rest) a w := by
  refine wpList_plain hgd fun _ hK => ?_
  refine wp_append_own w s x t ho base e i z 1 bytes ht hi hz hsize hby (by rw [hz1]; rfl) (by decide) v cs.length _ hs hown ⟨b, 0, none⟩ 1 1 [c] hx (by simp) ?_ ?_ (by simpa using h63) (by simpa using hbytes) hbase ?_
  · intro j u hj
    have : j = 0 := by
      rcases Nat.eq_zero_or_pos j with h | h
      · exact h
      · rw [List.getElem?_eq_none (by simp; omega)] at hj; cases hj
    subst this
    simp at hj
    subst hj
    simpa [Addr.add] using hc
  · intro u hu
    simp at hu
    subst hu
    exact hc1
  · intro v' w' h2 h3 _
    exact hK _ _ (h v' w' (by simpa using h2) h3)

theorem enT_zero (l : List Int) (k : Nat) (h : k < l.length) (hz : l[k] = 0) : enTF l = ([], 15) := by
  unfold enTF
  rw [if_pos]
  rw [Bool.eq_false_iff]
  intro hall
  rw [List.all_eq_true] at hall
  have := hall l[k] (List.getElem_mem h)
  simp [hz] at this
theorem enT_long (l : List Int) (h : l.all (fun c => decide (¬ c = 0)) = true) (hl : 256 ≤ l.length) : enTF l = ([], 3) := by
  unfold enTF
  rw [h, if_neg (by decide), if_pos hl]
theorem enT_ok (l : List Int) (h : l.all (fun c => decide (¬ c = 0)) = true) (hl : ¬ 256 ≤ l.length) : enTF l = (l ++ [0], 0) := by
  unfold enTF
  rw [h, if_neg (by decide), if_neg hl]

theorem deT_hit (l : List Int) (i : Nat) (h : i < l.length) (hz : l[i] = 0) (inv : spl 0 [] l = spl 0 (l.take i) (l.drop i)) : deTF l = (l.take i, l.drop (i + 1), 0) := by
  have hl := spl_len 0 (l.drop (i + 1)) []
  unfold deTF
  rw [inv, List.drop_eq_getElem_cons h, spl, if_pos hz]
  cases hq : spl 0 [] (l.drop (i + 1)) with
  | nil => rw [hq] at hl; simp at hl
  | cons q r =>
    simp
    omega
theorem deT_miss (l : List Int) (inv : spl 0 [] l = spl 0 l []) : deTF l = ([], [], 2) := by
  unfold deTF
  rw [inv]
  rfl
theorem spl_step (l : List Int) (i : Nat) (h : i < l.length) (hz : ¬ l[i] = 0) (inv : spl 0 [] l = spl 0 (l.take i) (l.drop i)) : spl 0 [] l = spl 0 (l.take (i + 1)) (l.drop (i + 1)) := by
  rw [inv, List.drop_eq_getElem_cons h, spl, if_neg hz, List.take_succ_eq_append_getElem h]

/-
  Lists of texts compared; Join, Ints, Texts of the document's answer for properties.
-/
theorem sameS_take (xs ys : List ByteArray) (k : Nat) (h1 : k < xs.length) (h2 : k < ys.length) (h : xs.take k = ys.take k) (e : xs[k] = ys[k]) : xs.take (k + 1) = ys.take (k + 1) := by
  rw [List.take_succ_eq_append_getElem h1, List.take_succ_eq_append_getElem h2, h, e]

theorem joi_step (ps : List (List Int)) (k : Nat) (h : k < ps.length) : (ps.take (k + 1)).flatten = (ps.take k).flatten ++ ps[k] := by
  rw [List.take_succ_eq_append_getElem h, List.flatten_append, List.flatten_cons, List.flatten_nil, List.append_nil]
theorem joi_over (ps : List (List Int)) (k : Nat) (h : k < ps.length) (hl : 256 < (ps.take k).flatten.length + ps[k].length) : joiF ps = ([], 3) := by
  unfold joiF
  rw [if_pos]
  have : ps.flatten = (ps.take (k + 1)).flatten ++ (ps.drop (k + 1)).flatten := by rw [← List.flatten_append, List.take_append_drop]
  rw [this, joi_step ps k h]
  simp only [List.length_append]
  omega
theorem joi_all (ps : List (List Int)) (hl : ps.flatten.length ≤ 256) : joiF ps = (ps.flatten, 0) := by
  unfold joiF
  rw [if_neg (by omega)]

/-
  Ints and Texts of the document's answer for properties.
-/
theorem int_step (l : List Int) (h : 4 ≤ l.length) : intL l = beV (l.take 4) :: intL (l.drop 4) := by
  match l, h with
  | a :: b :: c :: d :: r, _ => simp [intL]
theorem int_none (l : List Int) (h : l.length < 4) : intL l = [] := by
  match l, h with
  | [], _ => rfl
  | [_], _ => rfl
  | [_, _], _ => rfl
  | [_, _, _], _ => rfl
theorem beV_u32 (l : List Int) (h : l.length = 4) (hb : bytesL l) : 0 ≤ beV l ∧ beV l < 4294967296 := by
  match l, h with
  | [a, b, c, d], _ =>
    have h1 := hb a (by simp)
    have h2 := hb b (by simp)
    have h3 := hb c (by simp)
    have h4 := hb d (by simp)
    simp [beV]
    omega

theorem spl_tex : ∀ (l cur : List Int),
    (spl 0 cur l = [cur ++ l] ∧ texL cur l = if cur ++ l = [] then some [] else none) ∨
    ∃ a b q r, l = a ++ 0 :: b ∧ spl 0 cur l = (cur ++ a) :: q :: r ∧ texL cur l = (texL [] b).map ((cur ++ a) :: ·)
  | [], cur => Or.inl ⟨by simp [spl], by simp [texL]⟩
  | c :: l, cur => by
    by_cases hc : c = 0
    · subst hc
      have hl := spl_len 0 l []
      cases hq : spl 0 [] l with
      | nil => rw [hq] at hl; simp at hl
      | cons q r => exact Or.inr ⟨[], l, q, r, rfl, by rw [spl, if_pos rfl, hq, List.append_nil], by rw [texL, if_pos rfl, List.append_nil]⟩
    · rcases spl_tex l (cur ++ [c]) with ⟨h1, h2⟩ | ⟨a, b, q, r, h1, h2, h3⟩
      · refine Or.inl ⟨?_, ?_⟩
        · rw [spl, if_neg hc, h1]; simp
        · rw [texL, if_neg hc, h2]; simp
      · refine Or.inr ⟨c :: a, b, q, r, by rw [h1]; rfl, ?_, ?_⟩
        · rw [spl, if_neg hc, h2]; simp
        · rw [texL, if_neg hc, h3]; simp
/-- taking the first text off, and what is read of all -/
theorem deT_tex (l : List Int) (h : l ≠ []) : (deTF l = ([], [], 2) ∧ texL [] l = none) ∨ ∃ p D, deTF l = (p, D, 0) ∧ texL [] l = (texL [] D).map (p :: ·) ∧ l = p ++ 0 :: D := by
  rcases spl_tex l [] with ⟨h1, h2⟩ | ⟨a, b, q, r, h1, h2, h3⟩
  · refine Or.inl ⟨?_, ?_⟩
    · unfold deTF; rw [h1]
    · rw [h2, List.nil_append, if_neg h]
  · refine Or.inr ⟨a, b, ?_, by simpa using h3, h1⟩
    unfold deTF
    rw [h2, h1]
    simp
theorem bytes_of_app {a b : List Int} {c : Int} (h : bytesL (a ++ c :: b)) : bytesL a ∧ bytesL b :=
  ⟨fun x hx => h x (by simp [hx]), fun x hx => h x (by simp [hx])⟩

end Go.Proofs.Ytfljcfpcokimcaa
