/-
  Texts of one proof, laid one behind the other: Tro Trp Pt2.
-/
import Derived.Test.YtfljcfpcokimcaaB4
import Derived.Test.YtfljcfpcokimcaaRows
import Derived.SizedLaws
import Derived.ChangeSame
namespace Go.Proofs.Ytfljcfpcokimcaa
open Go.ChangeShapes Go.WideShapes Go.ChangeAt Go.RowKit
set_option linter.unusedVariables false
set_option linter.unusedSimpArgs false

/-
  What came in, read with its weight: slices of rows, slices of integers, structs of one-cell fields.
-/
theorem wf8 {n : Int} (h : (Lit.int .u32 n).wf = true) : 0 ≤ n ∧ n < 4294967296 := by
  simp [Lit.wf, IntKind.min, IntKind.max, IntKind.bits, IntKind.signed] at h
  omega
theorem all_weights {H : Type} {P : Program} {e : TypeId} {d : DataW H} {n : Nat} : ∀ {ds : List (DataW H)}, d ∈ ds → n ∈ d.weights P e → n ∈ DataW.weightsAll P e ds
  | x :: r, h, hn => by
    simp only [DataW.weightsAll, List.mem_append]
    rcases List.mem_cons.1 h with rfl | h
    · exact Or.inl hn
    · exact Or.inr (all_weights h hn)
/-- a slice's rows, each read as R says, each of which Q is true -/
theorem slr_trod {α H : Type} {enc : TypeId × Value → H} {W : World} {t e : TypeId} {cs : List Value} {y : DataW H × List MemPlace} {sz fuel : Nat} (R : World → List Value → α → Prop) (Q : α → Prop)
    (ht : Try.prog.underlying t = some (.slice e)) (hc : Try.prog.cellsOf e = sz) (hsz : 0 < sz) (h : DataW.trod enc Try.prog W 0 (fun _ => true) true fuel t cs = some y) (hw : ∀ n ∈ y.1.weights Try.prog t, n ≤ reachBytes)
    (hR : ∀ n cs z, DataW.trod enc Try.prog W 0 (fun _ => true) true n e cs = some z → (∀ m ∈ z.1.weights Try.prog e, m ≤ reachBytes) → ∃ x, R W cs x ∧ Q x) :
    ∃ a l c xs, cs = [.slice a l c] ∧ SlR sz R W (.slice a l c) xs ∧ (∀ x ∈ xs, Q x) ∧ xs.length * Try.prog.bytesOf e ≤ reachBytes := by
  have g' : ∃ x l c, cs = [.slice x l c] := by
    rcases DataW.trod_slice ht h with ⟨h0, _⟩ | ⟨x, l, c, _, _, _, _, h0, _⟩
    · exact ⟨none, 0, 0, h0⟩
    · exact ⟨some x, l, c, h0⟩
  obtain ⟨a, l, c, rfl⟩ := g'
  obtain ⟨d, ps⟩ := y
  obtain ⟨rows, h1, h2, h3⟩ := slc_open ht hc hsz h
  rcases h3 with ⟨rfl, rfl⟩ | ⟨ds, zs, rfl, hl, h3⟩
  · exact ⟨a, l, c, [], rfl, ⟨[], h1, rfl, fun i hi => by simp at hi⟩, fun x hx => by simp at hx, by simp⟩
  · have hwt : (ds.length + zs.length) * Try.prog.bytesOf e ≤ reachBytes := hw _ (by simp [DataW.weights, ht])
    obtain ⟨xs, hx1, hx2⟩ := choose_list (rows.zip ds) (fun (r : List Value × DataW H) (x : α) => R W r.1 x ∧ Q x) (fun r hr => by
      obtain ⟨i, hi, rfl⟩ := List.getElem_of_mem hr
      have hi2 : i < rows.length := by simp at hi; omega
      obtain ⟨n, y, g, g2⟩ := h3 i hi2
      rw [List.getD_eq_getElem?_getD, List.getElem?_eq_getElem hi2] at g
      obtain ⟨x, k1, k2⟩ := hR _ _ _ g (fun m hm => hw m (by
        simp only [DataW.weights, ht, List.mem_cons, List.mem_append]
        exact Or.inr (Or.inl (all_weights (List.mem_of_getElem? g2) hm))))
      refine ⟨x, ?_, k2⟩
      rw [List.getElem_zip]; exact k1)
    have hzl : (rows.zip ds).length = rows.length := by simp [hl]
    refine ⟨a, l, c, xs, rfl, ⟨rows, h1, by omega, fun i hi => ?_⟩, fun x hx => ?_, ?_⟩
    · have := (hx2 i (by omega) hi).1
      rw [List.getElem_zip] at this
      rw [List.getD_eq_getElem?_getD, List.getElem?_eq_getElem (by omega)]
      exact this
    · obtain ⟨i, hi, rfl⟩ := List.getElem_of_mem hx
      exact (hx2 i (by omega) hi).2
    · refine Nat.le_trans (Nat.mul_le_mul_right _ ?_) hwt
      omega
/-- a slice of integers -/
theorem rd_trod {H : Type} {enc : TypeId × Value → H} {W : World} {t e : TypeId} {k : IntKind} {cs : List Value} {y : DataW H × List MemPlace} {fuel : Nat}
    (ht : Try.prog.underlying t = some (.slice e)) (he : Try.prog.underlying e = some (.int k)) (hc : Try.prog.cellsOf e = 1) (h : DataW.trod enc Try.prog W 0 (fun _ => true) true fuel t cs = some y) (hw : ∀ n ∈ y.1.weights Try.prog t, n ≤ reachBytes) :
    ∃ a l c xs, cs = [.slice a l c] ∧ Rd k W (.slice a l c) xs ∧ (∀ n ∈ xs, (Lit.int k n).wf = true) ∧ xs.length * Try.prog.bytesOf e ≤ reachBytes := by
  have g' : ∃ x l c, cs = [.slice x l c] := by
    rcases DataW.trod_slice ht h with ⟨h0, _⟩ | ⟨x, l, c, _, _, _, _, h0, _⟩
    · exact ⟨none, 0, 0, h0⟩
    · exact ⟨some x, l, c, h0⟩
  obtain ⟨a, l, c, rfl⟩ := g'
  obtain ⟨d, ps⟩ := y
  obtain ⟨u, hu, hf, hd⟩ := rd_open (k := k) (d := d) (ps := ps) ht he hc ⟨_, h⟩
  refine ⟨a, l, c, u, rfl, hu, hf, ?_⟩
  rcases hd with rfl | ⟨ys, zs, rfl, hle⟩
  · simp
  · have hwt : (ys.length + zs.length) * Try.prog.bytesOf e ≤ reachBytes := hw _ (by simp [DataW.weights, ht])
    refine Nat.le_trans (Nat.mul_le_mul_right _ ?_) hwt
    omega
/-- a struct's fields, one after another: each field's cells are one, its weights are the struct's -/
theorem str_field {H : Type} {enc : TypeId × Value → H} {W : World} {t : TypeId} {fs : Array Field} {cs : List Value} {xs : List (DataW H × List MemPlace)} {n : Nat} (hu : Try.prog.underlying t = some (.struct fs))
    (hf : ∀ (i : Nat) f, fs[i]? = some f → DataW.trod enc Try.prog W 0 (fun _ => true) true n f.type ((cs.drop f.offset).take (Try.prog.cellsOf f.type)) = xs[i]?) {l : List (TypeId × Nat)} (hl : fs.toList.map (fun f => (f.type, f.offset)) = l) (hw : ∀ m ∈ (DataW.agg (xs.map (·.1))).weights Try.prog t, m ≤ reachBytes)
    (i : Nat) (a : TypeId) (o : Nat) (h : l[i]? = some (a, o)) (hc : Try.prog.cellsOf a = 1) (hi : i < xs.length) :
    DataW.trod enc Try.prog W 0 (fun _ => true) true n a ((cs.drop o).take 1) = some xs[i] ∧ ∀ m ∈ xs[i].1.weights Try.prog a, m ≤ reachBytes := by
  subst hl
  rw [List.getElem?_map] at h
  obtain ⟨f, g1, g2⟩ := Option.map_eq_some_iff.1 h
  obtain ⟨rfl, rfl⟩ := Prod.mk.inj g2
  have h1 := hf i f (by rw [← Array.getElem?_toList]; exact g1)
  rw [hc, List.getElem?_eq_getElem hi] at h1
  refine ⟨h1, fun m hm => hw m ?_⟩
  simp only [DataW.weights, hu]
  refine DataW.weights_mem_each (j := i) (t := f.type) (d := xs[i].1) ?_ ?_ m hm
  · rw [List.getElem?_map, g1]; rfl
  · rw [List.getElem?_map, List.getElem?_eq_getElem hi]; rfl

/-
  Slices of devices that came in, and a case of them: what they read as, and how much they hold.
-/
theorem prp_str : Try.prog.underlying 101 = some (.struct (Try.prog.fieldsOf 101)) := by kernel_rfl
theorem prpFs : (Try.prog.fieldsOf 101).toList.map (fun f => (f.type, f.offset)) = [(9, 0), (25, 1)] := by kernel_rfl
theorem nod_str : Try.prog.underlying 91 = some (.struct (Try.prog.fieldsOf 91)) := by kernel_rfl
theorem nodFs : (Try.prog.fieldsOf 91).toList.map (fun f => (f.type, f.offset)) = [(9, 0), (24, 1), (3, 2), (89, 3), (24, 4)] := by kernel_rfl
theorem bytI8 : Try.prog.bytesOf 5 = 1 := by kernel_rfl
theorem bytI32 : Try.prog.bytesOf 28 = 4 := by kernel_rfl
theorem bytPr : Try.prog.bytesOf 101 = 40 := by kernel_rfl
theorem bytNo : Try.prog.bytesOf 91 = 96 := by kernel_rfl
set_option maxRecDepth 100000 in
theorem prp_trod {H : Type} {enc : TypeId × Value → H} {W : World} (fuel : Nat) (cs : List Value) (y : DataW H × List MemPlace) (h : DataW.trod enc Try.prog W 0 (fun _ => true) true fuel 101 cs = some y) (hw : ∀ n ∈ y.1.weights Try.prog 101, n ≤ reachBytes) :
    ∃ x : Pp, propR W cs x ∧ bytesL x.1 ∧ bytesL x.2 ∧ x.1.length ≤ maxLen ∧ x.2.length ≤ 140737488351232 := by
  obtain ⟨xs, n, _, rfl, hl, hlen, hf⟩ := DataW.trod_struct prp_str h
  rw [show Try.prog.cellsOf 101 = 2 by kernel_rfl] at hl
  rw [show (Try.prog.fieldsOf 101).size = 2 by kernel_rfl] at hlen
  match cs, hl with
  | [c0, c1], _ =>
    have g0 := str_field prp_str hf prpFs hw 0 9 0 rfl (by kernel_rfl) (by omega)
    have g1 := str_field prp_str hf prpFs hw 1 25 1 rfl (by kernel_rfl) (by omega)
    obtain ⟨k, k1, k2, k3⟩ := DataW.trod_string Try.underlying9 g0.1
    obtain ⟨a, l, c, u, e1, hu, hf1, hz⟩ := rd_trod Try.underlying25 Try.underlying5 (by kernel_rfl) g1.1 g1.2
    simp at k1 e1
    subst k1 e1
    rw [bytI8] at hz
    unfold reachBytes at hz
    exact ⟨(LB k, u), ⟨_, by simp [nums_LB], hu⟩, LB_bytes k, wf_bytes hf1, by rw [LB_len]; exact k3, by simp only; omega⟩
/-- what is known of devices that came in -/
def goodN (x : Nd) : Prop := bytN x ∧ lenN x ∧ sizN x ∧ cells x.2.1 ∧ cells x.2.2.2.2 ∧ (Lit.int .i64 x.2.2.1).wf = true
set_option maxRecDepth 100000 in
theorem nod_trod {H : Type} {enc : TypeId × Value → H} {W : World} (fuel : Nat) (cs : List Value) (y : DataW H × List MemPlace) (h : DataW.trod enc Try.prog W 0 (fun _ => true) true fuel 91 cs = some y) (hw : ∀ n ∈ y.1.weights Try.prog 91, n ≤ reachBytes) :
    ∃ x : Nd, nodR W cs x ∧ goodN x := by
  obtain ⟨xs, n, _, rfl, hl, hlen, hf⟩ := DataW.trod_struct nod_str h
  rw [show Try.prog.cellsOf 91 = 5 by kernel_rfl] at hl
  rw [show (Try.prog.fieldsOf 91).size = 5 by kernel_rfl] at hlen
  match cs, hl with
  | [c0, c1, c2, c3, c4], _ =>
    have g0 := str_field nod_str hf nodFs hw 0 9 0 rfl (by kernel_rfl) (by omega)
    have g1 := str_field nod_str hf nodFs hw 1 24 1 rfl (by kernel_rfl) (by omega)
    have g2 := str_field nod_str hf nodFs hw 2 3 2 rfl (by kernel_rfl) (by omega)
    have g3 := str_field nod_str hf nodFs hw 3 89 3 rfl (by kernel_rfl) (by omega)
    have g4 := str_field nod_str hf nodFs hw 4 24 4 rfl (by kernel_rfl) (by omega)
    obtain ⟨k, k1, k2, k3⟩ := DataW.trod_string Try.underlying9 g0.1
    obtain ⟨a1, l1, r1, u, e1, hu, hf1, hz1⟩ := rd_trod Try.underlying24 Try.underlying28 (by kernel_rfl) g1.1 g1.2
    obtain ⟨p, p1, p2, p3⟩ := DataW.trod_int Try.underlying3 g2.1
    obtain ⟨a3, l3, r3, q, e3, hq, hf3, hz3⟩ := slr_trod (sz := 2) propR (fun x : Pp => bytesL x.1 ∧ bytesL x.2 ∧ x.1.length ≤ maxLen ∧ x.2.length ≤ 140737488351232) Try.underlying89 (by kernel_rfl) (by omega) g3.1 g3.2 prp_trod
    obtain ⟨a4, l4, r4, c, e4, hc, hf4, hz4⟩ := rd_trod Try.underlying24 Try.underlying28 (by kernel_rfl) g4.1 g4.2
    simp at k1 e1 p1 e3 e4
    subst k1 e1 p1 e3 e4
    rw [bytI32] at hz1 hz4
    rw [bytPr] at hz3
    unfold reachBytes at hz1 hz3 hz4
    exact ⟨(LB k, u, p, q, c), ⟨_, _, _, by simp [nums_LB], hu, hq, hc⟩, ⟨LB_bytes k, fun x hx => ⟨(hf3 x hx).1, (hf3 x hx).2.1⟩⟩, ⟨by rw [LB_len]; exact k3, fun x hx => (hf3 x hx).2.2.1⟩, ⟨by simp only; omega, by simp only; omega, by simp only; omega, fun x hx => by have := (hf3 x hx).2.2.2; omega⟩, fun n hn => wf8 (hf1 n hn), fun n hn => wf8 (hf4 n hn), p3⟩
set_option maxRecDepth 100000 in
/-- a list of devices as a parameter -/
theorem nod_open {H : Type} {enc : TypeId × Value → H} {W : World} {a : Option Addr} {len cap : Nat} {d : DataW H} {ps : List MemPlace} (h : DataW.Trod enc Try.prog W 0 (fun _ => true) true 29 (.slice a len cap) d ps) (hw : ∀ n ∈ d.weights Try.prog 29, n ≤ reachBytes) :
    ∃ t : List Nd, RdT W (.slice a len cap) t ∧ (∀ x ∈ t, goodN x) ∧ t.length * 96 ≤ 140737488351232 := by
  obtain ⟨fuel, hf⟩ := h
  obtain ⟨a', l', c', xs, e, h1, h2, h3⟩ := slr_trod (y := (d, ps)) (sz := 5) nodR goodN Try.underlying29 (by kernel_rfl) (by omega) (show DataW.trod enc Try.prog W 0 (fun _ => true) true fuel 29 [.slice a len cap] = some (d, ps) from hf) hw nod_trod
  simp at e
  obtain ⟨rfl, rfl, rfl⟩ := e
  rw [bytNo] at h3
  unfold reachBytes at h3
  exact ⟨xs, h1, h2, h3⟩

/-
  Properties of devices set, dropped, got and gone through, as plain lists. No Go text in sight.
-/
/-- what wrong answers -/
def wrgF (t : List Nd) (n : Int) : Int := if frmT t = false then 1 else if n < 0 ∨ (t.length : Int) ≤ n then 19 else 0
/-- the properties of a device; its device with others -/
def prpF (t : List Nd) (n : Int) : List Pp := (t.getD n.toNat ([], [], 0, [], [])).2.2.2.1
def putN (t : List Nd) (n : Int) (l : List Pp) : List Nd := match t[n.toNat]? with
  | none => t
  | some x => t.set n.toNat (x.1, x.2.1, x.2.2.1, l, x.2.2.2.2)
/-- what Set, Drop, Get, Next answer -/
def setF (t : List Nd) (n : Int) (nm d : List Int) : List Nd × Int :=
  if wrgF t n ≠ 0 then ([], wrgF t n) else if nmF nm = false then ([], 1) else if 256 < d.length then ([], 3)
  else if pfF (prpF t n) nm = none ∧ 16 ≤ (prpF t n).length then ([], 22) else (putN t n (setP (prpF t n) nm d), 0)
def drpF (t : List Nd) (n : Int) (nm : List Int) : List Nd × Int :=
  if wrgF t n ≠ 0 then ([], wrgF t n) else match pfF (prpF t n) nm with
  | none => ([], 2)
  | some k => (putN t n (drpP (prpF t n) k), 0)
def getF (t : List Nd) (n : Int) (nm : List Int) : List Int × Int :=
  if wrgF t n ≠ 0 then ([], wrgF t n) else match pfF (prpF t n) nm with
  | none => ([], 2)
  | some k => (((prpF t n).getD k ([], [])).2, 0)
def nxtF (t : List Nd) (n : Int) (nm : List Int) : List Int × Int :=
  if wrgF t n ≠ 0 then ([], wrgF t n) else match pfF (prpF t n) nm with
  | none => if nm = [] then (((prpF t n).getD 0 ([], [])).1, 0) else ([], 2)
  | some k => (((prpF t n).getD (k + 1) ([], [])).1, 0)
/-- the children of a device -/
def chiF (t : List Nd) (n : Int) : List Int := ((List.range t.length).filter (fun i => decide (0 ≤ n ∧ (t.getD i ([], [], 0, [], [])).2.2.1 = n))).map (fun (i : Nat) => (i : Int))

theorem wrg_ok {t : List Nd} {n : Int} (h : wrgF t n = 0) : frmT t = true ∧ 0 ≤ n ∧ n.toNat < t.length := by
  unfold wrgF at h
  split at h
  · simp at h
  · rename_i c1
    split at h
    · simp at h
    · rename_i c2
      exact ⟨by simpa using c1, by omega, by omega⟩
theorem wrg_err {t : List Nd} {n : Int} : wrgF t n = 0 ∨ wrgF t n = 1 ∨ wrgF t n = 19 := by
  unfold wrgF
  split
  · exact Or.inr (Or.inl rfl)
  · split
    · exact Or.inr (Or.inr rfl)
    · exact Or.inl rfl
theorem prp_at {t : List Nd} {n : Int} (h : n.toNat < t.length) : prpF t n = t[n.toNat].2.2.2.1 := by
  unfold prpF
  rw [List.getD_eq_getElem?_getD, List.getElem?_eq_getElem h]
  rfl
theorem put_at {t : List Nd} {n : Int} (h : n.toNat < t.length) (l : List Pp) : putN t n l = t.set n.toNat (t[n.toNat].1, t[n.toNat].2.1, t[n.toNat].2.2.1, l, t[n.toNat].2.2.2.2) := by
  unfold putN
  rw [List.getElem?_eq_getElem h]
theorem put_len (t : List Nd) (n : Int) (l : List Pp) : (putN t n l).length = t.length := by
  unfold putN
  split <;> simp
theorem put_prp {t : List Nd} {n : Int} (h : n.toNat < t.length) (l : List Pp) : prpF (putN t n l) n = l := by
  rw [prp_at (by rw [put_len]; exact h)]
  simp only [put_at h, List.getElem_set_self]
theorem frm_props {t : List Nd} {n : Int} (hf : frmT t = true) (h : n.toNat < t.length) : (prpF t n).length ≤ 16 ∧ okR (prpF t n) = true := by
  rw [prp_at h]
  obtain ⟨g0, g1, g2, g3⟩ := (frm_iff t).1 hf
  have := g3 n.toNat h
  unfold okN at this
  simp only [Bool.and_eq_true, decide_eq_true_eq] at this
  exact ⟨this.2.1, this.2.2.2⟩
theorem put_formed {t : List Nd} {n : Int} {l : List Pp} (hf : frmT t = true) (h : n.toNat < t.length) (h1 : l.length ≤ 16) (h2 : okR l = true) : frmT (putN t n l) = true := by
  rw [put_at h]
  exact frm_set t n.toNat l hf h h1 h2
theorem put_wrg {t : List Nd} {n : Int} {l : List Pp} (hw : wrgF t n = 0) (h1 : l.length ≤ 16) (h2 : okR l = true) : wrgF (putN t n l) n = 0 := by
  obtain ⟨hf, h0, hn⟩ := wrg_ok hw
  have := put_formed (l := l) hf hn h1 h2
  unfold wrgF
  rw [if_neg (by rw [this]; decide), put_len, if_neg (by omega)]
theorem set_ok {t : List Nd} {n : Int} {nm d : List Int} (h : (setF t n nm d).2 = 0) : wrgF t n = 0 ∧ nmF nm = true ∧ d.length ≤ 256 ∧ ¬ (pfF (prpF t n) nm = none ∧ 16 ≤ (prpF t n).length) ∧ setF t n nm d = (putN t n (setP (prpF t n) nm d), 0) := by
  unfold setF at h ⊢
  split at h
  · rename_i c; exact absurd h c
  · rename_i c1
    split at h
    · simp at h
    · rename_i c2
      split at h
      · simp at h
      · rename_i c3
        split at h
        · simp at h
        · rename_i c4
          refine ⟨by simpa using c1, by simpa using c2, by omega, c4, ?_⟩
          rw [if_neg c1, if_neg c2, if_neg c3, if_neg c4]
theorem set_err {t : List Nd} {n : Int} {nm d : List Int} (h : ¬ (setF t n nm d).2 = 0) : (setF t n nm d).1 = [] := by
  unfold setF at h ⊢
  split
  · rfl
  · split
    · rfl
    · split
      · rfl
      · split
        · rfl
        · rename_i c1 c2 c3 c4
          rw [if_neg c1, if_neg c2, if_neg c3, if_neg c4] at h
          simp at h
theorem set_good {t : List Nd} {n : Int} {nm d : List Int} (h : (setF t n nm d).2 = 0) : (setP (prpF t n) nm d).length ≤ 16 ∧ okR (setP (prpF t n) nm d) = true := by
  obtain ⟨hw, hn, hd, hm, e⟩ := set_ok h
  obtain ⟨hf, h0, hl⟩ := wrg_ok hw
  obtain ⟨p1, p2⟩ := frm_props hf hl
  exact ⟨setP_len _ _ _ hm p1, setP_ok _ _ _ p2 hn hd⟩
theorem set_formed {t : List Nd} {n : Int} {nm d : List Int} (h : (setF t n nm d).2 = 0) : frmT (setF t n nm d).1 = true ∧ wrgF (setF t n nm d).1 n = 0 := by
  obtain ⟨hw, hn, hd, hm, e⟩ := set_ok h
  obtain ⟨hf, h0, hl⟩ := wrg_ok hw
  obtain ⟨g1, g2⟩ := set_good h
  rw [e]
  exact ⟨put_formed hf hl g1 g2, put_wrg hw g1 g2⟩
theorem drp_formed {t : List Nd} {n : Int} {nm : List Int} (h : (drpF t n nm).2 = 0) : frmT (drpF t n nm).1 = true ∧ wrgF (drpF t n nm).1 n = 0 := by
  unfold drpF at h ⊢
  split at h
  · rename_i c; exact absurd h c
  · rename_i c1
    have hw : wrgF t n = 0 := by simpa using c1
    obtain ⟨hf, h0, hl⟩ := wrg_ok hw
    obtain ⟨p1, p2⟩ := frm_props hf hl
    rw [if_neg c1]
    cases hp : pfF (prpF t n) nm with
    | none => rw [hp] at h; simp at h
    | some k =>
      obtain ⟨g, _⟩ := pf_some hp
      have q1 : (drpP (prpF t n) k).length ≤ 16 := by rw [drp_len _ _ g]; omega
      have q2 := drpP_ok _ _ p2 g
      exact ⟨put_formed hf hl q1 q2, put_wrg hw q1 q2⟩

/-- what was set is got -/
theorem setP_get (l : List Pp) (nm d : List Int) : ∃ k, pfF (setP l nm d) nm = some k ∧ ((setP l nm d).getD k ([], [])).2 = d := by
  unfold setP
  cases hp : pfF l nm with
  | some k =>
    obtain ⟨g, h1, h2⟩ := pf_some hp
    refine ⟨k, pf_hit (by simpa using g) (by simp) (fun j hj => ?_), by simp [List.getD_eq_getElem?_getD, g]⟩
    rw [set_names l nm d k hp j (by simp; omega)]
    exact h2 j hj
  | none =>
    have hn := pf_none.1 hp
    refine ⟨l.length, pf_hit (by simp) (by simp) (fun j hj => ?_), by simp [List.getD_eq_getElem?_getD]⟩
    rw [List.getElem_append_left hj]
    exact hn _ (List.getElem_mem hj)
/-- all else stays -/
theorem setP_other (l : List Pp) (nm d o : List Int) (ho : ¬ o = nm) : pfF (setP l nm d) o = pfF l o ∧ ∀ k, pfF l o = some k → ((setP l nm d).getD k ([], [])).2 = (l.getD k ([], [])).2 := by
  unfold setP
  cases hp : pfF l nm with
  | some k =>
    obtain ⟨g, h1, h2⟩ := pf_some hp
    have e : pfF (l.set k (nm, d)) o = pfF l o := by
      cases hq : pfF l o with
      | some j =>
        obtain ⟨gj, j1, j2⟩ := pf_some hq
        refine pf_hit (by simpa using gj) ?_ (fun i hi => ?_)
        · rw [set_names l nm d k hp j (by simpa using gj)]; exact j1
        · rw [set_names l nm d k hp i (by simp; omega)]; exact j2 i hi
      | none =>
        rw [pf_none] at hq ⊢
        intro x hx
        rcases List.mem_or_eq_of_mem_set hx with hx | rfl
        · exact hq x hx
        · exact fun g => ho g.symm
    refine ⟨e, fun j hj => ?_⟩
    obtain ⟨gj, j1, j2⟩ := pf_some hj
    have hne : ¬ k = j := by
      intro g
      subst g
      exact ho (j1.symm.trans h1)
    simp [List.getD_eq_getElem?_getD, List.getElem?_set, hne]
  | none =>
    have hn := pf_none.1 hp
    have e : pfF (l ++ [(nm, d)]) o = pfF l o := by
      cases hq : pfF l o with
      | some j =>
        obtain ⟨gj, j1, j2⟩ := pf_some hq
        refine pf_hit (by simp; omega) ?_ (fun i hi => ?_)
        · rw [List.getElem_append_left gj]; exact j1
        · rw [List.getElem_append_left (by omega)]; exact j2 i hi
      | none =>
        rw [pf_none] at hq ⊢
        intro x hx
        rcases List.mem_append.1 hx with hx | hx
        · exact hq x hx
        · simp at hx; subst hx; exact fun g => ho g.symm
    refine ⟨e, fun j hj => ?_⟩
    obtain ⟨gj, j1, j2⟩ := pf_some hj
    simp [List.getD_eq_getElem?_getD, List.getElem?_append_left gj]
theorem get_set {t : List Nd} {n : Int} {nm d : List Int} (h : (setF t n nm d).2 = 0) : getF (setF t n nm d).1 n nm = (d, 0) := by
  obtain ⟨hw, hn, hd, hm, e⟩ := set_ok h
  obtain ⟨hf, h0, hl⟩ := wrg_ok hw
  have hw2 := (set_formed h).2
  obtain ⟨k, k1, k2⟩ := setP_get (prpF t n) nm d
  rw [e] at hw2 ⊢
  unfold getF
  rw [if_neg (by simpa using hw2), put_prp hl, k1]
  simp only [k2]
theorem get_other {t : List Nd} {n : Int} {nm d o : List Int} (h : (setF t n nm d).2 = 0) (ho : ¬ o = nm) : getF (setF t n nm d).1 n o = getF t n o := by
  obtain ⟨hw, hn, hd, hm, e⟩ := set_ok h
  obtain ⟨hf, h0, hl⟩ := wrg_ok hw
  have hw2 := (set_formed h).2
  obtain ⟨k1, k2⟩ := setP_other (prpF t n) nm d o ho
  rw [e] at hw2 ⊢
  unfold getF
  rw [if_neg (by simpa using hw2), if_neg (by simpa using hw), put_prp hl, k1]
  cases hq : pfF (prpF t n) o with
  | none => rfl
  | some k => simp only [k2 k hq]
theorem set_nodes {t : List Nd} {n : Int} {nm d : List Int} (h : (setF t n nm d).2 = 0) : (setF t n nm d).1.length = t.length ∧ ∀ i : Nat, ¬ (i : Int) = n → (setF t n nm d).1[i]? = t[i]? := by
  obtain ⟨hw, hn, hd, hm, e⟩ := set_ok h
  obtain ⟨hf, h0, hl⟩ := wrg_ok hw
  rw [e]
  refine ⟨put_len _ _ _, fun i hi => ?_⟩
  show (putN t n _)[i]? = _
  rw [put_at hl, List.getElem?_set, if_neg (by omega)]
/-- dropped it is gone -/
theorem drp_set {t : List Nd} {n : Int} {nm d : List Int} (h : (setF t n nm d).2 = 0) : (drpF (setF t n nm d).1 n nm).2 = 0 ∧ getF (drpF (setF t n nm d).1 n nm).1 n nm = ([], 2) := by
  obtain ⟨hw2, hw⟩ := set_formed h
  obtain ⟨T, hT⟩ : ∃ T, (setF t n nm d).1 = T := ⟨_, rfl⟩
  obtain ⟨hw0, hn, hd, hm, e⟩ := set_ok h
  obtain ⟨_, _, hl0⟩ := wrg_ok hw0
  have hpr : prpF T n = setP (prpF t n) nm d := by rw [← hT, e]; exact put_prp hl0 _
  rw [hT] at hw hw2 ⊢
  obtain ⟨hf, h0, hl⟩ := wrg_ok hw
  obtain ⟨p1, p2⟩ := frm_props hf hl
  obtain ⟨k, k1, k2⟩ := setP_get (prpF t n) nm d
  rw [← hpr] at k1
  obtain ⟨g, g1, g2⟩ := pf_some k1
  have hd0 : drpF T n nm = (putN T n (drpP (prpF T n) k), 0) := by
    unfold drpF
    rw [if_neg (by simpa using hw), k1]
  have hd1 := drp_formed (t := T) (n := n) (nm := nm) (by rw [hd0])
  rw [hd0] at hd1 ⊢
  refine ⟨rfl, ?_⟩
  have hgone : pfF (drpP (prpF T n) k) nm = none := by
    rw [pf_none]
    intro x hx
    obtain ⟨i, hi, rfl⟩ := List.getElem_of_mem hx
    rw [drp_get _ k i g hi]
    have ha := (okR_iff (prpF T n)).1 p2
    have hdl := drp_len (prpF T n) k g
    split
    · rename_i c
      exact g2 i c
    · rename_i c
      intro hh
      exact ha.2 k (i + 1) g (by omega) (by omega) (g1.trans hh.symm)
  unfold getF
  rw [if_neg (by simpa using hd1.2), put_prp hl, hgone]

/-- going from property to property -/
theorem nxt_first {t : List Nd} {n : Int} (hw : wrgF t n = 0) : nxtF t n [] = (((prpF t n).getD 0 ([], [])).1, 0) := by
  obtain ⟨hf, h0, hl⟩ := wrg_ok hw
  obtain ⟨p1, p2⟩ := frm_props hf hl
  have hnone : pfF (prpF t n) [] = none := by
    rw [pf_none]
    intro x hx
    have := (((okR_iff _).1 p2).1 x hx).1
    intro e
    rw [e] at this
    have := (nm_byte this).2
    simp at this
  unfold nxtF
  rw [if_neg (by simpa using hw), hnone]
  simp
theorem nxt_at {t : List Nd} {n : Int} (hw : wrgF t n = 0) (i : Nat) (hi : i < (prpF t n).length) : nxtF t n (prpF t n)[i].1 = (((prpF t n).getD (i + 1) ([], [])).1, 0) := by
  obtain ⟨hf, h0, hl⟩ := wrg_ok hw
  obtain ⟨p1, p2⟩ := frm_props hf hl
  have ha := ((okR_iff _).1 p2).2
  have hhit : pfF (prpF t n) (prpF t n)[i].1 = some i := pf_hit hi rfl (fun j hj => ha j i (by omega) hi hj)
  unfold nxtF
  rw [if_neg (by simpa using hw), hhit]
theorem nxt_err {t : List Nd} {n : Int} {nm : List Int} (h : ¬ (nxtF t n nm).2 = 0) : (nxtF t n nm).1 = [] := by
  unfold nxtF at h ⊢
  split
  · rfl
  · rename_i c
    rw [if_neg c] at h
    cases hp : pfF (prpF t n) nm with
    | some k => rw [hp] at h; simp at h
    | none =>
      rw [hp] at h
      simp only at h ⊢
      split at h
      · simp at h
      · rename_i c2
        rw [if_neg c2]

end Go.Proofs.Ytfljcfpcokimcaa
