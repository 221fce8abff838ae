/-
  Texts of one proof, laid one behind the other: Ow2 Big Rd6 Prw Rt2 Rdg Rpa Rsh Rp5 Bk Ra1 Ra2 Ra3 Stp Tf0 Dp0 Rd1 Dp1 Rnq.
-/
import Derived.Test.YtfljcfpcokimcabB3
import Derived.Deep.RegionLaw
import Derived.Test.YtfljcfpcokimcabProg
import Derived.WalkKit
import Derived.Test.YtfljcfpcokimcabRows
import Derived.ChangeSame
namespace Go.Proofs.Ytfljcfpcokimcab
open Go.ChangeShapes Go.WideShapes Go.ChangeAt Go.RowKit
set_option linter.unusedVariables false
set_option linter.unusedSimpArgs false

/-
  Slices of rows appended to rows of the call's own. No Go text in sight.
-/
theorem flat_get {α : Type} : ∀ (rows : List (List α)) (sz i j : Nat), (∀ r ∈ rows, r.length = sz) → i < rows.length → j < sz → rows.flatten[i * sz + j]? = (rows.getD i [])[j]?
  | [], sz, i, j, _, hi, _ => by simp at hi
  | r :: rows, sz, 0, j, h, hi, hj => by
    have hr := h r (by simp)
    simp only [List.flatten_cons, Nat.zero_mul, Nat.zero_add, List.getD_cons_zero]
    rw [List.getElem?_append_left (by omega)]
  | r :: rows, sz, i + 1, j, h, hi, hj => by
    have hr := h r (by simp)
    have ih := flat_get rows sz i j (fun x hx => h x (by simp [hx])) (by simpa using hi) hj
    simp only [List.flatten_cons, List.getD_cons_succ]
    rw [List.getElem?_append_right (by rw [hr, Nat.add_mul]; omega), hr, show (i + 1) * sz + j - sz = i * sz + j by rw [Nat.add_mul]; omega, ih]
theorem flat_len {α : Type} (rows : List (List α)) (sz : Nat) (h : ∀ r ∈ rows, r.length = sz) : rows.flatten.length = rows.length * sz := by
  induction rows with
  | nil => simp
  | cons r rows ih =>
    rw [List.flatten_cons, List.length_append, ih (fun x hx => h x (by simp [hx])), h r (by simp), List.length_cons, Nat.add_mul]
    omega
/-- append of a slice of rows onto a row of the call's own -/
theorem wp_append_rows {P : Program} {w : World} {o : Oper} {a : Act} {K : Act → World → Prop} {Q : Exit → Act → World → Prop} (s x : Operand) (t : TypeId)
    (ho : o.op = .call { callee := .builtin .append, args := #[s, x], argTypes := #[t, t] })
    (base : Nat) (e : TypeId) (i : TypeInfo) (z : Value) (sz bytes : Nat) (ht : P.underlying t = some (.slice e)) (hi : P.info? e = some i) (hz : i.zero = some z) (hsize : i.size = sz) (hby : i.bytes = bytes) (hzs : z.cells.size = sz) (hsz : 0 < sz)
    (v : Value) (n : Nat) (cs : List Value) (hs : a.eval s = v) (hown : w.ownsRow base e sz v n cs)
    (vx : Value) (rows : List (List Value)) (hx : a.eval x = vx) (hr : SlC sz w vx rows) (h1 : ∀ r ∈ rows, ∀ u ∈ r, u.oneCell' = true)
    (h63 : n + rows.length ≤ maxLen) (hbytes : (n + rows.length) * bytes ≤ 140737488355328) (hbase : base ≤ w.heap.size)
    (h : ∀ v' w', w'.ownsRow base e sz v' (n + rows.length) (cs ++ rows.flatten) → w.grownBy w' v.ownBlock → K (a.put o.dst v') w') : o.wp P a w K Q := by
  rcases hr with ⟨ao, cap, rfl, hn, rfl⟩ | ⟨b, off, cap, rfl, h0, hc1, hc2, hc⟩
  · cases ao with
    | none =>
      obtain rfl := hn rfl
      have hrun := run_append_owned_none (P := P) (w := w) base t o.type e i sz ht hi v n cs hown
      unfold Oper.wp
      simp [execOp, ho, resolve, invoke, builtin, hs, hx, hrun, Result.andThen]
      exact h v w (by simpa using hown) ⟨rfl, rfl, rfl, Nat.le_refl _, fun _ _ _ => rfl⟩
    | some ad =>
      refine wp_append_own w s x t ho base e i z sz bytes ht hi hz hsize hby hzs hsz v n _ hs hown ad 0 cap [] hx (by simp) (by simp) (by simp) (by simpa using h63) (by simpa using hbytes) hbase ?_
      intro v' w' h2 h3 _
      exact h v' w' (by simpa using h2) h3
  · have hlen : ∀ r ∈ rows, r.length = sz := by
      intro r hr
      obtain ⟨k, hk, rfl⟩ := List.getElem_of_mem hr
      have := (hc k hk).1
      rwa [List.getD_eq_getElem?_getD, List.getElem?_eq_getElem hk] at this
    refine wp_append_own w s x t ho base e i z sz bytes ht hi hz hsize hby hzs hsz v n _ hs hown ⟨b, off, none⟩ rows.length cap rows.flatten hx (flat_len rows sz hlen) ?_ (fun u hu => ?_) h63 hbytes hbase ?_
    · intro j u hj
      have hjl : j < rows.length * sz := by
        rw [← flat_len rows sz hlen]
        rcases Nat.lt_or_ge j rows.flatten.length with g | g
        · exact g
        · rw [List.getElem?_eq_none g] at hj; cases hj
      have hdm := Nat.div_add_mod j sz
      have hq : j / sz < rows.length := (Nat.div_lt_iff_lt_mul hsz).2 hjl
      have hm := Nat.mod_lt j hsz
      have e1 := flat_get rows sz (j / sz) (j % sz) hlen hq hm
      have e2 : j / sz * sz + j % sz = j := by rw [Nat.mul_comm]; exact hdm
      rw [e2, hj] at e1
      have e3 := (hc (j / sz) hq).2 (j % sz) hm
      rw [← e1, Nat.add_assoc, e2] at e3
      by_cases hz : j = 0
      · subst hz; simpa [Addr.add] using e3
      · simpa [Addr.add, hz] using e3
    · rw [List.mem_flatten] at hu
      obtain ⟨r, hr, hu⟩ := hu
      exact h1 r hr u hu
    · intro v' w' h2 h3 _
      exact h v' w' h2 h3
theorem wpList_append_rows {P : Program} {w : World} {ops : Array Oper} {rest : List Oper} {o : Oper} {a : Act} {Q : Exit → Act → World → Prop} (hgd : o.guard = none) (s x : Operand) (t : TypeId)
    (ho : o.op = .call { callee := .builtin .append, args := #[s, x], argTypes := #[t, t] })
    (base : Nat) (e : TypeId) (i : TypeInfo) (z : Value) (sz bytes : Nat) (ht : P.underlying t = some (.slice e)) (hi : P.info? e = some i) (hz : i.zero = some z) (hsize : i.size = sz) (hby : i.bytes = bytes) (hzs : z.cells.size = sz) (hsz : 0 < sz)
    (v : Value) (n : Nat) (cs : List Value) (hs : a.eval s = v) (hown : w.ownsRow base e sz v n cs)
    (vx : Value) (rows : List (List Value)) (hx : a.eval x = vx) (hr : SlC sz w vx rows) (h1 : ∀ r ∈ rows, ∀ u ∈ r, u.oneCell' = true)
    (h63 : n + rows.length ≤ maxLen) (hbytes : (n + rows.length) * bytes ≤ 140737488355328) (hbase : base ≤ w.heap.size)
    (h : ∀ v' w', w'.ownsRow base e sz v' (n + rows.length) (cs ++ rows.flatten) → w.grownBy w' v.ownBlock → wpList P ops Q rest (a.put o.dst v') w') : wpList P ops Q (o :: rest) a w :=
  wpList_plain hgd fun _ hK => wp_append_rows s x t ho base e i z sz bytes ht hi hz hsize hby hzs hsz v n cs hs hown vx rows hx hr h1 h63 hbytes hbase fun v' w' h2 h3 => hK _ _ (h v' w' h2 h3)
/-- the same as one step of a region that draws its order -/
theorem step_append_rows {P : Program} {ops : Array Oper} {w : World} {o : Oper} {a : Act} {K : Act → World → Prop} {Q : Exit → Act → World → Prop} {E : Prop} (hgd : o.guard = none) (s x : Operand) (t : TypeId)
    (ho : o.op = .call { callee := .builtin .append, args := #[s, x], argTypes := #[t, t] })
    (base : Nat) (e : TypeId) (i : TypeInfo) (z : Value) (sz bytes : Nat) (ht : P.underlying t = some (.slice e)) (hi : P.info? e = some i) (hz : i.zero = some z) (hsize : i.size = sz) (hby : i.bytes = bytes) (hzs : z.cells.size = sz) (hsz : 0 < sz)
    (v : Value) (n : Nat) (cs : List Value) (hs : a.eval s = v) (hown : w.ownsRow base e sz v n cs)
    (vx : Value) (rows : List (List Value)) (hx : a.eval x = vx) (hr : SlC sz w vx rows) (h1 : ∀ r ∈ rows, ∀ u ∈ r, u.oneCell' = true)
    (h63 : n + rows.length ≤ maxLen) (hbytes : (n + rows.length) * bytes ≤ 140737488355328) (hbase : base ≤ w.heap.size)
    (h : ∀ v' w', w'.ownsRow base e sz v' (n + rows.length) (cs ++ rows.flatten) → w.grownBy w' v.ownBlock → K (a.put o.dst v') w') :
    if Region.wanted o (yielded ops a.tmps) = true then Oper.wp P o a w K Q else E := by
  rw [if_pos (by simp [Region.wanted, hgd])]
  exact wp_append_rows s x t ho base e i z sz bytes ht hi hz hsize hby hzs hsz v n cs hs hown vx rows hx hr h1 h63 hbytes hbase h
/-- one row that was laid, as a slice of rows -/
theorem slc_one (w : World) (row : List Value) (T : TypeId) (sz : Nat) (h : row.length = sz) : SlC sz (w.alloc (.cells row.toArray T)) (.slice (some ⟨w.heap.size, 0, none⟩) 1 1) [row] := by
  refine Or.inr ⟨w.heap.size, 0, 1, rfl, by simp, by simp, by decide, fun i hi => ?_⟩
  have : i = 0 := by simp at hi; omega
  subst this
  refine ⟨by simpa using h, fun j hj => ?_⟩
  rw [World.cell?_alloc_new]
  simp

/-
  A long row of operations that have values, run by the kernel at one stroke.
-/
def runL (P : Program) : List Oper → Act → World → Option (Act × World)
  | [], a, w => some (a, w)
  | o :: r, a, w => match o.guard with
    | some _ => none
    | none => match (execOp a.eval o).run P w with
      | .ok (.value v) w' => runL P r (a.put o.dst v) w'
      | _ => none
theorem wpList_runL {P : Program} {ops : Array Oper} {Q : Exit → Act → World → Prop} : ∀ (l : List Oper) (a a' : Act) (w w' : World), runL P l a w = some (a', w') → Q .normal a' w' → wpList P ops Q l a w
  | [], a, a', w, w', h, hk => by
    simp only [runL, Option.some.injEq, Prod.mk.injEq] at h
    obtain ⟨rfl, rfl⟩ := h
    exact hk
  | o :: r, a, a', w, w', h, hk => by
    cases hg : o.guard with
    | some x => simp [runL, hg] at h
    | none =>
      refine wpList_plain hg fun K hK => ?_
      simp only [runL, hg] at h
      unfold Oper.wp
      split at h
      · rename_i v w1 hr
        rw [hr, Oper.upon_value]
        exact hK _ _ (wpList_runL r _ a' w1 w' h hk)
      · simp at h
theorem wp_region_runL {P : Program} {id : Nat} {ops : Array Oper} {Q : Exit → Act → World → Prop} {a : Act} {w w' : World} {t : Nat} {v : Value}
    (h : (runL P ops.toList a w).map (fun r => (r.1.tmps.getD t undef, r.1.defers.isEmpty, r.2)) = some (v, true, w')) (hk : ∀ a' : Act, a'.tmps.getD t undef = v → a'.defers = [] → Q .normal a' w') : (Code.region id ops false).wp P Q a w := by
  obtain ⟨r, h1, h2⟩ := Option.map_eq_some_iff.1 h
  obtain ⟨a', w1⟩ := r
  simp only [Prod.mk.injEq] at h2
  obtain ⟨e1, e2, rfl⟩ := h2
  exact wp_region_list (wpList_runL _ _ _ _ _ h1 (hk a' e1 (List.isEmpty_iff.1 e2)))

/-
  Prims of the document's answer.
-/
def prmV (p : List Int × Int) : List Value := [.string (strOfNums p.1), .int .i64 p.2]
/-- a row of the list of words, as it is laid -/
theorem prm_laid (w : World) (T : TypeId) : SlR 2 prmR (w.alloc (.cells (prmL.map prmV).flatten.toArray T)) (.slice (some ⟨w.heap.size, 0, none⟩) 111 111) prmL := by
  have hr := alloc_row w (prmL.map prmV).flatten T
  have hs : ∀ r ∈ prmL.map prmV, r.length = 2 := by
    intro r hr
    obtain ⟨p, _, rfl⟩ := List.mem_map.1 hr
    rfl
  have hl : (prmL.map prmV).length = 111 := by rw [List.length_map]; exact prm_len
  refine ⟨prmL.map prmV, Or.inr ⟨w.heap.size, 0, 111, by rw [hl], by omega, by omega, by unfold maxLen; omega, fun i hi => ?_⟩, by simp, fun i hi => ?_⟩
  · have h1 : ((prmL.map prmV).getD i []).length = 2 := by
      rw [List.getD_eq_getElem?_getD, List.getElem?_eq_getElem hi]
      exact hs _ (List.getElem_mem hi)
    refine ⟨h1, fun j hj => ?_⟩
    have h2 := flat_get (prmL.map prmV) 2 i j hs hi hj
    obtain ⟨u, hu⟩ : ∃ u, ((prmL.map prmV).getD i [])[j]? = some u := ⟨_, List.getElem?_eq_getElem (by omega)⟩
    rw [hu] at h2 ⊢
    have h3 := hr _ _ h2
    simpa using h3
  · rw [List.getD_eq_getElem?_getD, List.getElem?_map, List.getElem?_eq_getElem hi]
    rfl

/-
  The list of words that every dictionary begins with, as a row of the call's own.
-/
theorem prmV_len : ∀ r ∈ prmL.map prmV, r.length = 2 := by
  intro r hr
  obtain ⟨p, _, rfl⟩ := List.mem_map.1 hr
  rfl
theorem prm_own (w : World) : OwnR 56 2 prmR w.heap.size (w.alloc (.cells (prmL.map prmV).flatten.toArray 56)) (.slice (some ⟨w.heap.size, 0, none⟩) 111 111) prmL := by
  have hl : (prmL.map prmV).flatten.length = 111 * 2 := by rw [flat_len _ 2 prmV_len, List.length_map, prm_len]
  refine ⟨prmL.map prmV, by simp, prmV_len, ⟨by rw [hl, prm_len], Or.inr ⟨w.heap.size, 111, (prmL.map prmV).flatten.toArray, by rw [prm_len], Nat.le_refl _, heap_alloc_new w _, by rw [prm_len]; exact Nat.le_refl _, by unfold maxLen; omega, by simpa using hl, ?_⟩⟩, fun i hi => ?_⟩
  · rw [prm_len]
    exact List.take_of_length_le (by simpa using Nat.le_of_eq hl)
  · rw [List.getD_eq_getElem?_getD, List.getElem?_map, List.getElem?_eq_getElem hi]
    rfl
theorem prm_codes : prmL.all (fun p => decide (0 ≤ p.2 ∧ p.2 < 65536)) = true := by decide +kernel
theorem wrap_u32 (c : Int) (h0 : 0 ≤ c) (h1 : c < 65536) : IntKind.u32.wrap c = c := by
  simp [IntKind.wrap, IntKind.bits, IntKind.signed]
  omega

/-
  Same, find and twin of the document's answer for trees.
-/
/-- the number of a property, or -1 -/
def fdI (o : Option Nat) : Int := match o with
  | none => -1
  | some k => (k : Nat)

/-
  Small and Value of the document's answer return the plain functions, for all bytes and bases.
-/
/-- the constant text of all digits -/
def dgs : ByteArray := ⟨#[48, 49, 50, 51, 52, 53, 54, 55, 56, 57, 97, 98, 99, 100, 101, 102, 103, 104, 105, 106, 107, 108, 109, 110, 111, 112, 113, 114, 115, 116, 117, 118, 119, 120, 121, 122]⟩
theorem dgs_at : ∀ k : Fin 36, ((dgs.data[k.val]!).toNat : Int) = dg k.val := by decide
theorem dgs_size : dgs.size = 36 := by decide
theorem dgs_get (k : Nat) (h : k < dgs.size) : ((dgs[k]'h).toNat : Int) = dg k := by
  have e := dgs_at ⟨k, by rw [dgs_size] at h; exact h⟩
  have h2 : k < dgs.data.size := h
  simp only [getElem!_pos dgs.data k h2] at e
  exact e
theorem run_dgs0 (k : Nat) (hk : (k : Int) < 36) (w : World) : (Instr.index 9 (.string dgs) (.int .i64 k)).run Try.prog w = .ok (.int .u8 (dg k)) w := by
  have hs : k < dgs.size := by rw [dgs_size]; omega
  rw [run_index_string _ _ _ _ _ Try.underlying9, dif_pos ⟨by omega, by rw [dgs_size]; omega⟩]
  simp only [Int.toNat_natCast, dgs_get k hs]
theorem run_dgs (k : Nat) (hk : (k : Int) < 36) (w : World) : (Instr.index 9 (.string ⟨#[48, 49, 50, 51, 52, 53, 54, 55, 56, 57, 97, 98, 99, 100, 101, 102, 103, 104, 105, 106, 107, 108, 109, 110, 111, 112, 113, 114, 115, 116, 117, 118, 119, 120, 121, 122]⟩) (.int .i64 k)).run Try.prog w = .ok (.int .u8 (dg k)) w :=
  run_dgs0 k hk w

/-
  Parse of the document's answer returns the plain reading of a text, for all texts and bases.
-/


/-
  Show and Signed of the document's answer return the plain texts, for all numbers and bases.
-/
/-- one digit cut out of the constant text -/
def one (r : Nat) : ByteArray := dgs.extract r (r + 1)
theorem one_L (r : Nat) (h : r < 36) : L (one r) = [dg r] := by
  unfold one
  rw [L_extract dgs r (r + 1) (by rw [dgs_size]; omega), L_drop dgs r (by rw [dgs_size]; omega), dgs_get r (by rw [dgs_size]; omega)]
  simp
theorem run_one0 (r : Nat) (h : (r : Int) < 36) (w : World) : (Instr.slice 9 (.string dgs) (some (.int .i64 r)) (some (.int .i64 ((r : Int) + 1))) none).run Try.prog w = .ok (.string (one r)) w := by
  rw [run_slice_string _ _ _ _ _ _ _ Try.underlying9 (by omega) (by omega) (by rw [dgs_size]; omega)]
  rfl
theorem run_one (r : Nat) (h : (r : Int) < 36) (w : World) : (Instr.slice 9 (.string ⟨#[48, 49, 50, 51, 52, 53, 54, 55, 56, 57, 97, 98, 99, 100, 101, 102, 103, 104, 105, 106, 107, 108, 109, 110, 111, 112, 113, 114, 115, 116, 117, 118, 119, 120, 121, 122]⟩) (some (.int .i64 r)) (some (.int .i64 ((r : Int) + 1))) none).run Try.prog w = .ok (.string (one r)) w :=
  run_one0 r h w
theorem pow_split (k : Nat) (h : k < 32) : (2 : Int) ^ (32 - k) = 2 ^ (32 - (k + 1)) * 2 := by
  rw [show 32 - k = (32 - (k + 1)) + 1 by omega, Int.pow_succ]

/-- what holds of the loop that shows a number: k digits are written, m is left -/
def ShInv (b n : Int) (k : Nat) (m : Int) (t : ByteArray) : Prop :=
  (0 < m ∨ k = 0 → sh b n = shF b (32 - k) m ++ L t) ∧ (m = 0 ∧ 0 < k → sh b n = L t) ∧ m < 2 ^ (32 - k) ∧ t.size = k
theorem ShInv_start (b n : Int) (h1 : n < 4294967296) : ShInv b n 0 n ⟨#[]⟩ :=
  ⟨fun _ => by simp [sh, L], fun h => by omega, by simpa using h1, rfl⟩
theorem ShInv_step (b n : Int) (k : Nat) (m : Int) (t : ByteArray) (r : Nat) (b0 : 2 ≤ b) (b1 : b ≤ 36) (hk : k < 32) (m0 : 0 ≤ m) (hm : 0 < m ∨ k = 0) (hr : m % b = r) (h : ShInv b n k m t) :
    ShInv b n (k + 1) (m / b) (one r ++ t) := by
  obtain ⟨i1, i2, i3, i4⟩ := h
  obtain ⟨q0, q1, r0, r1⟩ := div_half m b m0 b0
  have hs := i1 hm
  have hL : L (one r ++ t) = dg r :: L t := by rw [L_app, one_L r (by omega)]; rfl
  have hp := pow_split k hk
  have hz : (one r ++ t).size = k + 1 := by
    have e1 := L_len (one r ++ t)
    rw [hL, List.length_cons, L_len] at e1
    omega
  rw [show 32 - k = (32 - (k + 1)) + 1 by omega] at hs
  by_cases c : m < b
  · have e0 : m / b = 0 := Int.ediv_eq_zero_of_lt m0 c
    have e1 : m % b = m := Int.emod_eq_of_lt m0 c
    rw [shF_lo b m _ c] at hs
    unfold ShInv
    rw [hL, e0]
    refine ⟨fun h => by omega, fun _ => ?_, Int.pow_pos (by decide), hz⟩
    rw [hs, ← e1, hr]; rfl
  · have qp := div_pos m b b0 c
    rw [shF_hi b m _ c, hr] at hs
    unfold ShInv
    rw [hL]
    refine ⟨fun _ => ?_, fun h => by omega, by omega, hz⟩
    rw [hs]; simp
theorem ShInv_end (b n : Int) (k : Nat) (m : Int) (t : ByteArray) (hk : 0 < k) (hm : m ≤ 0) (m0 : 0 ≤ m) (h : ShInv b n k m t) : t = toB (sh b n) :=
  L_eq t _ (h.2.1 ⟨by omega, hk⟩).symm
theorem ShInv_last (b n m : Int) (t : ByteArray) (m0 : 0 ≤ m) (h : ShInv b n 32 m t) : m ≤ 0 := by
  have := h.2.2.1; simp at this; omega

/-- what Show answers -/
def shT (n b : Int) : ByteArray := if b < 2 ∨ 36 < b then ⟨#[]⟩ else toB (sh b n)
def shE (b : Int) : Int := if b < 2 ∨ 36 < b then 1 else 0

/-- what Signed answers -/
def sgT (n b : Int) : ByteArray := if b < 2 ∨ 36 < b then ⟨#[]⟩ else toB (sg b n)

theorem sh_size (n b : Int) : (shT n b).size ≤ 33 := by
  unfold shT
  split
  · decide
  · rw [toB_size]; have := shF_len b 32 n; unfold sh; omega
theorem sg_size (n b : Int) : (sgT n b).size ≤ 33 := by
  unfold sgT
  split
  · decide
  · rw [toB_size]; unfold sg
    split
    · have := shF_len b 32 n; unfold sh; omega
    · have := shF_len b 32 (4294967296 - n); unfold sh; simp; omega
theorem shT_back (n b : Int) (n0 : 0 ≤ n) (n1 : n < 4294967296) (b0 : 2 ≤ b) (b1 : b ≤ 36) : prs (L (shT n b)) b = (n, 0) := by
  unfold shT; rw [if_neg (by omega), sh_L b n b0 b1 n0 n1]; exact sh_back b n b0 b1 n0 n1
theorem sgT_back (n b : Int) (n0 : 0 ≤ n) (n1 : n < 4294967296) (b0 : 2 ≤ b) (b1 : b ≤ 36) : prs (L (sgT n b)) b = (n, 0) := by
  unfold sgT; rw [if_neg (by omega), sg_bytes b n b0 b1 n0 n1]; exact sg_back b n b0 b1 n0 n1
theorem shT_same (n m b : Int) (n0 : 0 ≤ n) (n1 : n < 4294967296) (m0 : 0 ≤ m) (m1 : m < 4294967296) (b0 : 2 ≤ b) (b1 : b ≤ 36) : ((shT n b).toList == (shT m b).toList) = (n == m) := by
  have h : (shT n b).toList = (shT m b).toList ↔ n = m := by
    constructor
    · intro h
      rw [ByteArray.toList_eq, ByteArray.toList_eq] at h
      have : L (shT n b) = L (shT m b) := by unfold L; rw [h]
      unfold shT at this
      rw [if_neg (by omega), if_neg (by omega), sh_L b n b0 b1 n0 n1, sh_L b m b0 b1 m0 m1] at this
      exact (sh_inj b n m b0 b1 n0 n1 m0 m1).1 this
    · intro h; rw [h]
  rw [Bool.eq_iff_iff]
  simp [h]

/-
  ParseUnit and ShowUnit of the document's answer for properties.
-/
theorem uU : Try.prog.underlying 22 = some (.slice (Try.prog.elem 22)) := by kernel_rfl
theorem eU : Try.prog.elem 22 = 26 := by kernel_rfl
theorem zU (w : World) : (sizeOf (Try.prog.elem 22)).run Try.prog w = .ok 1 w := by rw [eU]; exact Try.sizeOf26 w

/-- the piece that is being read, and the pieces from it on -/
def pcAt (X : List Int) (f k : Nat) : List Int := (X.drop f).take (k - f)
def spR (X : List Int) (f k : Nat) : List (List Int) := if k ≤ X.length then spl 44 (pcAt X f k) (X.drop k) else []
theorem pcAt_len (X : List Int) (f k : Nat) (h1 : f ≤ k) (h2 : k ≤ X.length) : (pcAt X f k).length = k - f := by simp [pcAt]; omega
theorem pcAt_bytes {X : List Int} (h : bytesL X) (f k : Nat) : bytesL (pcAt X f k) := bytes_take (bytes_drop h f) _
theorem spR_on (X : List Int) (f k : Nat) (h1 : f ≤ k) (h2 : k < X.length) (hc : ¬ X[k] = 44) : spR X f (k + 1) = spR X f k := by
  unfold spR
  rw [if_pos (by omega), if_pos (by omega), List.drop_eq_getElem_cons h2, spl, if_neg hc]
  congr 1
  unfold pcAt
  rw [show k + 1 - f = (k - f) + 1 by omega, List.take_succ_eq_append_getElem (by simp; omega)]
  congr 2
  simp
  congr 1
  omega
theorem spR_cut (X : List Int) (f k : Nat) (h1 : f ≤ k) (h2 : k < X.length) (hc : X[k] = 44) : spR X f k = pcAt X f k :: spR X (k + 1) (k + 1) := by
  unfold spR
  rw [if_pos (by omega), if_pos (by omega), List.drop_eq_getElem_cons h2, spl, if_pos hc]
  simp [pcAt]
theorem spR_end (X : List Int) (f k : Nat) (h2 : k = X.length) : spR X f k = pcAt X f k :: spR X (k + 1) (k + 1) := by
  unfold spR
  rw [if_pos (by omega), if_neg (by omega), h2, List.drop_of_length_le (Nat.le_refl _)]
  rfl
theorem pun_bad (X : List Int) (done : List (List Int)) (p : List Int) (r : List (List Int)) (h : spl 44 [] X = done ++ (p :: r)) (hp : pcOk p = false) : punF X = ([], 15) := by
  unfold punF
  rw [if_pos]
  rw [h]
  simp [hp]
theorem pun_many (X : List Int) (done : List (List Int)) (h : spl 44 [] X = done) (ha : done.all pcOk = true) (hl : 4 < done.length) : punF X = ([], 3) := by
  unfold punF
  rw [h, ha, if_neg (by decide), if_pos hl]
theorem pun_ok (X : List Int) (done : List (List Int)) (h : spl 44 [] X = done) (ha : done.all pcOk = true) (hl : ¬ 4 < done.length) : punF X = ((done.take 4).map (num 16), 0) := by
  unfold punF
  rw [h, ha, if_neg (by decide), if_neg hl, List.take_of_length_le (by omega)]
theorem run_part {w : World} (s : ByteArray) (f k : Nat) (h1 : f ≤ k) (h2 : k ≤ s.size) : (Instr.slice 9 (.string s) (some (.int .i64 (f : Int))) (some (.int .i64 (k : Int))) none).run Try.prog w = .ok (.string (s.extract f k)) w := by
  simp [Instr.slice, Instr.sliceBounds, run_underlying Try.underlying9, run_sliceBound, h1, h2]
theorem L_part (s : ByteArray) (f k : Nat) (h2 : k ≤ s.size) : L (s.extract f k) = pcAt (L s) f k := L_extract s f k h2

/-- a row of cells of the call's own -/
def OwnU (base : Nat) (w : World) (v : Value) (xs : List Int) : Prop := w.ownsRow base 26 1 v xs.length (xs.map (Value.int .u32))

/-
  What a bound on the number of values and letters says of a slice's length.
-/
theorem bk_pos {H : Type} : ∀ d : DataW H, 1 ≤ Rows.uptoBulk d
  | .lit (.string _) => by simp [Rows.uptoBulk]
  | .lit (.int _ _) => by simp [Rows.uptoBulk]
  | .lit (.bool _) => by simp [Rows.uptoBulk]
  | .lit (.float _ _) => by simp [Rows.uptoBulk]
  | .lit .nil => by simp [Rows.uptoBulk]
  | .nil => by simp [Rows.uptoBulk]
  | .ptr _ => by simp [Rows.uptoBulk]
  | .slice _ _ => by simp [Rows.uptoBulk]
  | .agg _ => by simp [Rows.uptoBulk]
  | .iface _ _ => by simp [Rows.uptoBulk]
  | .map _ => by simp [Rows.uptoBulk]
  | .held _ => by simp [Rows.uptoBulk]
theorem bk_len {H : Type} : ∀ l : List (DataW H), l.length ≤ Rows.uptoBulkAll l
  | [] => Nat.zero_le _
  | d :: r => by
    have h1 := bk_pos d
    have h2 := bk_len r
    simp only [Rows.uptoBulkAll, List.length_cons]
    omega
theorem bk_mem {H : Type} {d : DataW H} : ∀ {l : List (DataW H)}, d ∈ l → Rows.uptoBulk d ≤ Rows.uptoBulkAll l
  | x :: r, h => by
    simp only [Rows.uptoBulkAll]
    rcases List.mem_cons.1 h with rfl | h
    · omega
    · have := bk_mem h
      omega
theorem bk_slice {H : Type} (a b : List (DataW H)) : a.length + b.length ≤ Rows.uptoBulk (.slice a b) := by
  have h1 := bk_len a
  have h2 := bk_len b
  simp only [Rows.uptoBulk]
  omega
theorem bk_string {H : Type} (l : List UInt8) : l.length ≤ Rows.uptoBulk (DataW.lit (H := H) (.string l)) := by
  simp [Rows.uptoBulk]

/-
  Place and Tail of the document's answer for paths.
-/
/-- the place of the first c from i on -/
def pcF (l : List Int) (i : Nat) (c : Int) : Nat := i + (upTo c (l.drop i)).length
theorem pc_le (l : List Int) (i : Nat) (c : Int) (h : i ≤ l.length) : pcF l i c ≤ l.length := by
  have := upTo_len c (l.drop i)
  rw [List.length_drop] at this
  unfold pcF
  omega
theorem pc_ge (l : List Int) (i : Nat) (c : Int) : i ≤ pcF l i c := by unfold pcF; omega
theorem pc_end (l : List Int) (c : Int) : pcF l l.length c = l.length := by simp [pcF, upTo]
theorem pc_hit (l : List Int) (i : Nat) (c : Int) (r : List Int) (h : l.drop i = c :: r) : pcF l i c = i := by unfold pcF; rw [h]; simp [upTo]
theorem pc_miss (l : List Int) (i : Nat) (c x : Int) (r : List Int) (h : l.drop i = x :: r) (hx : ¬ x = c) : pcF l i c = pcF l (i + 1) c := by
  have e : l.drop (i + 1) = r := by rw [← List.drop_drop, h]; rfl
  unfold pcF
  rw [h, e, upTo, if_neg hx]
  simp
  omega

/-- behind the last bar -/
def frmA (i f : Nat) : List Int → Nat
  | [] => f
  | c :: r => frmA (i + 1) (if c = 47 then i + 1 else f) r
theorem frm_le : ∀ (l : List Int) (i f : Nat), f ≤ i → frmA i f l ≤ i + l.length
  | [], i, f, h => by simpa [frmA] using h
  | c :: r, i, f, h => by
    have := frm_le r (i + 1) (if c = 47 then i + 1 else f) (by split <;> omega)
    simp only [frmA, List.length_cons]
    omega
/-- what Tail answers -/
def tlF (l : List Int) : List Int × List Int := if pcF l (frmA 0 0 l) 58 = l.length then (l, []) else (l.take (pcF l (frmA 0 0 l) 58), l.drop (pcF l (frmA 0 0 l) 58 + 1))

/-
  One step of a path, as the document's answer parses it.
-/
theorem pc0 (l : List Int) (c : Int) : pcF l 0 c = (upTo c l).length := by simp [pcF]
/-- the answer of a step that is taken -/
def stepA (s : ByteArray) (base : Nat) (x : Sp) (e : Ending) (w' : World) : Prop :=
  ∃ v nm ar, e = .returned (.tuple #[.agg #[.string nm, v, .string ar], .bool true]) ∧ L nm = x.1 ∧ L ar = x.2.2 ∧ OwnU base w' v x.2.1

/-
  Parse of the document's answer for paths.
-/


/-
  Slices of steps that came in: what they read as, and how much they hold.
-/


/-
  The library's Clone and Equal that package tree calls: what they return, in new memory.
-/
set_option maxHeartbeats 1000000 in
theorem w_pclone32 (v : Value) (xs : List Int) (w : World) (h : Rd .u32 w v xs) (hb : xs.length * 4 ≤ 140737488355328) :
    Calls Try.prog 30 #[v] w fun e w' => ∃ v', e = .returned v' ∧ w'.ownsRow w.heap.size 26 1 v' xs.length (xs.map (Value.int .u32)) ∧ Below w.heap.size w w' := by
  obtain ⟨i0, hi, hz0, hz1, hz2⟩ := info_parts infoU32
  obtain ⟨ao, cap, rfl, hc, hn, hx⟩ := rd_form h
  cases ao with
  | none =>
    have hc0 := hn rfl
    have hl : xs = [] := List.eq_nil_of_length_eq_zero (by omega)
    subst hl
    subst hc0
    show Calls _ _ #[.slice none 0 0] _ _
    have q := Lib.run_eql_slice_nil (P := Try.prog) w 22 26 none 0 0 0 0 Try.underlying22
    go_enter Try.func30, Try.ntmps30
    go_wp2_with fail
    go_ret
    exact ⟨_, rfl, World.ownsRow_nil _ _ _ _, Below.refl _ _⟩
  | some a =>
    have q := Lib.run_eql_slice_nil (P := Try.prog) w 22 26 (some a) xs.length cap 0 0 Try.underlying22
    have ha := h.below (box_below w (.cells #[] 26))
    go_enter Try.func30, Try.ntmps30
    go_wp2_with (at_builtin; refine wpList_append_rd (k := .u32) rfl _ _ 22 rfl w.heap.size 26 i0 4 Try.underlying22 hi hz0 hz1 hz2 _ [] rfl (World.ownsRow_made w #[] 0 (Nat.le_refl _) (Nat.zero_le _) rfl) _ xs rfl ha (by unfold maxLen; simp; omega) (by simp; omega) (by simp) ?_; intro v5 w5 ho5 hg5)
    go_ret
    exact ⟨v5, rfl, by simpa using ho5, below_grown (box_below w _) hg5 (fun k hk => by simp [Value.ownBlock, Act.eval] at hk; omega)⟩

set_option maxHeartbeats 1000000 in
theorem w_pclone8 (v : Value) (xs : List Int) (w : World) (h : Rd .u8 w v xs) (hz : xs.length ≤ 140737488355328) :
    Calls Try.prog 31 #[v] w fun e w' => ∃ v', e = .returned v' ∧ w'.ownsRow w.heap.size 5 1 v' xs.length (xs.map (Value.int .u8)) ∧ Below w.heap.size w w' := by
  obtain ⟨i0, hi, hz0, hz1, hz2⟩ := info_parts infoU8
  obtain ⟨ao, cap, rfl, hc, hn, hx⟩ := rd_form h
  cases ao with
  | none =>
    have hc0 := hn rfl
    have hl : xs = [] := List.eq_nil_of_length_eq_zero (by omega)
    subst hl
    subst hc0
    show Calls _ _ #[.slice none 0 0] _ _
    have q := Lib.run_eql_slice_nil (P := Try.prog) w 23 5 none 0 0 0 0 Try.underlying23
    go_enter Try.func31, Try.ntmps31
    go_wp2_with fail
    go_ret
    exact ⟨_, rfl, World.ownsRow_nil _ _ _ _, Below.refl _ _⟩
  | some a =>
    have q := Lib.run_eql_slice_nil (P := Try.prog) w 23 5 (some a) xs.length cap 0 0 Try.underlying23
    have ha := h.below (box_below w (.cells #[] 5))
    go_enter Try.func31, Try.ntmps31
    go_wp2_with (at_builtin; refine wpList_append_rd (k := .u8) rfl _ _ 23 rfl w.heap.size 5 i0 1 Try.underlying23 hi hz0 hz1 hz2 _ [] rfl (World.ownsRow_made w #[] 0 (Nat.le_refl _) (Nat.zero_le _) rfl) _ xs rfl ha (by unfold maxLen; simp; omega) (by simp; omega) (by simp) ?_; intro v5 w5 ho5 hg5)
    go_ret
    exact ⟨v5, rfl, by simpa using ho5, below_grown (box_below w _) hg5 (fun k hk => by simp [Value.ownBlock, Act.eval] at hk; omega)⟩

theorem infoNod8 : (Try.prog.info? 70).map (fun i => (i.zero, i.size, i.bytes)) = some (some (.agg #[.string ⟨#[]⟩, .slice none 0 0, .int .i64 0, .slice none 0 0, .slice none 0 0]), 5, 96) := by kernel_rfl
theorem infoPrp8 : (Try.prog.info? 91).map (fun i => (i.zero, i.size, i.bytes)) = some (some (.agg #[.string ⟨#[]⟩, .slice none 0 0]), 2, 40) := by kernel_rfl

set_option maxHeartbeats 1000000 in
theorem w_pcloneN (v : Value) (rows : List (List Value)) (w : World) (h : SlC 5 w v rows) (h1 : ∀ r ∈ rows, ∀ u ∈ r, u.oneCell' = true) (hb : rows.length * 96 ≤ 140737488355328) :
    Calls Try.prog 46 #[v] w fun e w' => ∃ v', e = .returned v' ∧ w'.ownsRow w.heap.size 70 5 v' rows.length rows.flatten ∧ Below w.heap.size w w' := by
  obtain ⟨i0, hi, hz0, hz1, hz2⟩ := info_parts infoNod8
  obtain ⟨ao, cap, rfl, hc, hn, hx⟩ := h.form
  cases ao with
  | none =>
    have hc0 := hn rfl
    have hl : rows = [] := List.eq_nil_of_length_eq_zero (by omega)
    subst hl
    subst hc0
    show Calls _ _ #[.slice none 0 0] _ _
    have q := Lib.run_eql_slice_nil (P := Try.prog) w 27 70 none 0 0 0 0 Try.underlying27
    go_enter Try.func46, Try.ntmps46
    go_wp2_with fail
    go_ret
    exact ⟨_, rfl, World.ownsRow_nil _ _ _ _, Below.refl _ _⟩
  | some a =>
    have q := Lib.run_eql_slice_nil (P := Try.prog) w 27 70 (some a) rows.length cap 0 0 Try.underlying27
    have ha := h.below (box_below w (.cells #[] 70))
    go_enter Try.func46, Try.ntmps46
    go_wp2_with (at_builtin; refine wpList_append_rows rfl _ _ 27 rfl w.heap.size 70 i0 _ 5 96 Try.underlying27 hi hz0 hz1 hz2 rfl (by decide) _ 0 [] rfl (World.ownsRow_made w #[] 0 (Nat.le_refl _) (Nat.zero_le _) rfl) _ rows rfl ha h1 (by unfold maxLen; omega) (by omega) (by simp) ?_; intro v5 w5 ho5 hg5)
    go_ret
    exact ⟨v5, rfl, by simpa using ho5, below_grown (box_below w _) hg5 (fun k hk => by simp [Value.ownBlock, Act.eval] at hk; omega)⟩

set_option maxHeartbeats 1000000 in
theorem w_pcloneP (v : Value) (rows : List (List Value)) (w : World) (h : SlC 2 w v rows) (h1 : ∀ r ∈ rows, ∀ u ∈ r, u.oneCell' = true) (hb : rows.length * 40 ≤ 140737488355328) :
    Calls Try.prog 47 #[v] w fun e w' => ∃ v', e = .returned v' ∧ w'.ownsRow w.heap.size 91 2 v' rows.length rows.flatten ∧ Below w.heap.size w w' := by
  obtain ⟨i0, hi, hz0, hz1, hz2⟩ := info_parts infoPrp8
  obtain ⟨ao, cap, rfl, hc, hn, hx⟩ := h.form
  cases ao with
  | none =>
    have hc0 := hn rfl
    have hl : rows = [] := List.eq_nil_of_length_eq_zero (by omega)
    subst hl
    subst hc0
    show Calls _ _ #[.slice none 0 0] _ _
    have q := Lib.run_eql_slice_nil (P := Try.prog) w 68 91 none 0 0 0 0 Try.underlying68
    go_enter Try.func47, Try.ntmps47
    go_wp2_with fail
    go_ret
    exact ⟨_, rfl, World.ownsRow_nil _ _ _ _, Below.refl _ _⟩
  | some a =>
    have q := Lib.run_eql_slice_nil (P := Try.prog) w 68 91 (some a) rows.length cap 0 0 Try.underlying68
    have ha := h.below (box_below w (.cells #[] 91))
    go_enter Try.func47, Try.ntmps47
    go_wp2_with (at_builtin; refine wpList_append_rows rfl _ _ 68 rfl w.heap.size 91 i0 _ 2 40 Try.underlying68 hi hz0 hz1 hz2 rfl (by decide) _ 0 [] rfl (World.ownsRow_made w #[] 0 (Nat.le_refl _) (Nat.zero_le _) rfl) _ rows rfl ha h1 (by unfold maxLen; omega) (by omega) (by simp) ?_; intro v5 w5 ho5 hg5)
    go_ret
    exact ⟨v5, rfl, by simpa using ho5, below_grown (box_below w _) hg5 (fun k hk => by simp [Value.ownBlock, Act.eval] at hk; omega)⟩

set_option maxHeartbeats 1000000 in
theorem w_pequal (va vb : Value) (xs ys : List Int) (w : World) (ha : Rd .u32 w va xs) (hb : Rd .u32 w vb ys) :
    Calls Try.prog 58 #[va, vb] w fun e w' => e = .returned (.bool (decide (xs = ys))) ∧ Dr w w' := by
  have hla := rd_len ha uU (P := Try.prog)
  have hlb := rd_len hb uU (P := Try.prog)
  by_cases hl : xs.length = ys.length
  · have hn : ((xs.length : Int) != (ys.length : Int)) = false := by simp [hl]
    have hm : xs.length ≤ maxLen := by
      rcases ha with ⟨_, _, _, _, rfl⟩ | ⟨_, _, _, _, _, g1, g2, _⟩
      · simp
      · omega
    unfold maxLen at hm
    have Hl := hid hl
    have HA := hid ha
    have HB := hid hb
    clear hl ha hb
    go_enter Try.func58, Try.ntmps58
    go_wp2_with fail
    go_loopw [13] (fun i wx => ∃ k : Nat, (k : Int) ≤ xs.length ∧ i = .int .i64 k ∧ Hid (xs.take k = ys.take k) ∧ Dr w wx) (fun i _ => (xs.length - intOf i).toNat)
    case atStart => exact ⟨0, by omega, rfl, hid (by simp), dr_refl _⟩
    case round =>
      obtain ⟨k, hk, rfl, ht, hg⟩ := hrel
      by_cases hlt : (k : Int) < xs.length
      · have hlt2 : (k : Int) < (ys.length : Int) := by have := Hl.out; omega
        obtain ⟨a1, i1, c1⟩ := rd_idx (HA.out.below (dr_below hg)) uU zU k (by omega) hlt
        obtain ⟨a2, i2, c2⟩ := rd_idx (HB.out.below (dr_below hg)) uU zU k (by omega) hlt2
        simp only [Int.toNat_natCast] at c1 c2
        obtain ⟨x, hx⟩ : ∃ x, xs.getD k 0 = x := ⟨_, rfl⟩
        obtain ⟨y, hy⟩ : ∃ y, ys.getD k 0 = y := ⟨_, rfl⟩
        rw [hx] at c1
        rw [hy] at c2
        by_cases hxy : x = y
        · have ht2 : Hid (xs.take (k + 1) = ys.take (k + 1)) := same_take xs ys k (by omega) (by omega) ht.out (by rw [hx, hy, hxy])
          have hb : (x != y) = false := by simp [hxy]
          clear hx hy hxy
          go_wp2_with fail
          go_quiet (fail)
          go_wp2_with fail
          go_roundw
          case rel => exact ⟨k + 1, by omega, by go_num, ht2, dr_more hg _⟩
          case measure => simp [intOf]; omega
        · have hf : Hid (decide (xs = ys) = false) := by show _ = _; simp; exact ne_at xs ys k (by rw [hx, hy]; exact hxy)
          have hb : (x != y) = true := by simp [hxy]
          clear hx hy hxy
          go_wp2_with fail
          go_quiet (fail)
          go_wp2_with fail
          go_ret
          exact ⟨ret_b hf.out.symm, dr_more hg _⟩
      · have hf : Hid (decide (xs = ys) = true) := by
          show _ = _
          have h1 : xs.take k = xs := List.take_of_length_le (by omega)
          have h2 : ys.take k = ys := List.take_of_length_le (by have := Hl.out; omega)
          have := ht.out
          rw [h1, h2] at this
          simp [this]
        go_wp2_with fail
        go_ret
        exact ⟨ret_b hf.out.symm, hg⟩
  · have hf : Hid (decide (xs = ys) = false) := by show _ = _; simp; intro h; exact hl (by rw [h])
    have hn : ((xs.length : Int) != (ys.length : Int)) = true := by simp; omega
    clear hl
    go_enter Try.func58, Try.ntmps58
    go_wp2_with fail
    go_ret
    exact ⟨ret_b hf.out.symm, dr_refl _⟩

/-
  The library's Clone at words, instructions, instances and integers: what it returns, in new memory.
-/
theorem infoOp9 : (Try.prog.info? 49).map (fun i => (i.zero, i.size, i.bytes)) = some (some (.agg #[.int .i64 0, .int .u32 0]), 2, 16) := by kernel_rfl
theorem infoWd9 : (Try.prog.info? 33).map (fun i => (i.zero, i.size, i.bytes)) = some (some (.agg #[.string ⟨#[]⟩, .int .i64 0, .int .i64 0, .int .u32 0, .slice none 0 0]), 5, 64) := by kernel_rfl
theorem infoIz9 : (Try.prog.info? 78).map (fun i => (i.zero, i.size, i.bytes)) = some (some (.agg #[.int .i64 0, .int .i64 0, .string ⟨#[]⟩, .slice none 0 0]), 4, 56) := by kernel_rfl
theorem infoI64 : (Try.prog.info? 3).map (fun i => (i.zero, i.size, i.bytes)) = some (some (.int .i64 0), 1, 8) := by kernel_rfl

set_option maxHeartbeats 1000000 in
theorem w_pcloneW (v : Value) (rows : List (List Value)) (w : World) (h : SlC 5 w v rows) (h1 : ∀ r ∈ rows, ∀ u ∈ r, u.oneCell' = true) (hb : rows.length * 64 ≤ 140737488355328) :
    Calls Try.prog 32 #[v] w fun e w' => ∃ v', e = .returned v' ∧ w'.ownsRow w.heap.size 33 5 v' rows.length rows.flatten ∧ Below w.heap.size w w' := by
  obtain ⟨i0, hi, hz0, hz1, hz2⟩ := info_parts infoWd9
  obtain ⟨ao, cap, rfl, hc, hn, hx⟩ := h.form
  cases ao with
  | none =>
    have hc0 := hn rfl
    have hl : rows = [] := List.eq_nil_of_length_eq_zero (by omega)
    subst hl
    subst hc0
    show Calls _ _ #[.slice none 0 0] _ _
    have q := Lib.run_eql_slice_nil (P := Try.prog) w 24 33 none 0 0 0 0 Try.underlying24
    go_enter Try.func32, Try.ntmps32
    go_wp2_with fail
    go_ret
    exact ⟨_, rfl, World.ownsRow_nil _ _ _ _, Below.refl _ _⟩
  | some a =>
    have q := Lib.run_eql_slice_nil (P := Try.prog) w 24 33 (some a) rows.length cap 0 0 Try.underlying24
    have ha := h.below (box_below w (.cells #[] 33))
    go_enter Try.func32, Try.ntmps32
    go_wp2_with (at_builtin; refine wpList_append_rows rfl _ _ 24 rfl w.heap.size 33 i0 _ 5 64 Try.underlying24 hi hz0 hz1 hz2 rfl (by decide) _ 0 [] rfl (World.ownsRow_made w #[] 0 (Nat.le_refl _) (Nat.zero_le _) rfl) _ rows rfl ha h1 (by unfold maxLen; omega) (by omega) (by simp) ?_; intro v5 w5 ho5 hg5)
    go_ret
    exact ⟨v5, rfl, by simpa using ho5, below_grown (box_below w _) hg5 (fun k hk => by simp [Value.ownBlock, Act.eval] at hk; omega)⟩

set_option maxHeartbeats 1000000 in
theorem w_pcloneO (v : Value) (rows : List (List Value)) (w : World) (h : SlC 2 w v rows) (h1 : ∀ r ∈ rows, ∀ u ∈ r, u.oneCell' = true) (hb : rows.length * 16 ≤ 140737488355328) :
    Calls Try.prog 13 #[v] w fun e w' => ∃ v', e = .returned v' ∧ w'.ownsRow w.heap.size 49 2 v' rows.length rows.flatten ∧ Below w.heap.size w w' := by
  obtain ⟨i0, hi, hz0, hz1, hz2⟩ := info_parts infoOp9
  obtain ⟨ao, cap, rfl, hc, hn, hx⟩ := h.form
  cases ao with
  | none =>
    have hc0 := hn rfl
    have hl : rows = [] := List.eq_nil_of_length_eq_zero (by omega)
    subst hl
    subst hc0
    show Calls _ _ #[.slice none 0 0] _ _
    have q := Lib.run_eql_slice_nil (P := Try.prog) w 31 49 none 0 0 0 0 Try.underlying31
    go_enter Try.func13, Try.ntmps13
    go_wp2_with fail
    go_ret
    exact ⟨_, rfl, World.ownsRow_nil _ _ _ _, Below.refl _ _⟩
  | some a =>
    have q := Lib.run_eql_slice_nil (P := Try.prog) w 31 49 (some a) rows.length cap 0 0 Try.underlying31
    have ha := h.below (box_below w (.cells #[] 49))
    go_enter Try.func13, Try.ntmps13
    go_wp2_with (at_builtin; refine wpList_append_rows rfl _ _ 31 rfl w.heap.size 49 i0 _ 2 16 Try.underlying31 hi hz0 hz1 hz2 rfl (by decide) _ 0 [] rfl (World.ownsRow_made w #[] 0 (Nat.le_refl _) (Nat.zero_le _) rfl) _ rows rfl ha h1 (by unfold maxLen; omega) (by omega) (by simp) ?_; intro v5 w5 ho5 hg5)
    go_ret
    exact ⟨v5, rfl, by simpa using ho5, below_grown (box_below w _) hg5 (fun k hk => by simp [Value.ownBlock, Act.eval] at hk; omega)⟩

set_option maxHeartbeats 1000000 in
theorem w_pcloneI (v : Value) (rows : List (List Value)) (w : World) (h : SlC 4 w v rows) (h1 : ∀ r ∈ rows, ∀ u ∈ r, u.oneCell' = true) (hb : rows.length * 56 ≤ 140737488355328) :
    Calls Try.prog 35 #[v] w fun e w' => ∃ v', e = .returned v' ∧ w'.ownsRow w.heap.size 78 4 v' rows.length rows.flatten ∧ Below w.heap.size w w' := by
  obtain ⟨i0, hi, hz0, hz1, hz2⟩ := info_parts infoIz9
  obtain ⟨ao, cap, rfl, hc, hn, hx⟩ := h.form
  cases ao with
  | none =>
    have hc0 := hn rfl
    have hl : rows = [] := List.eq_nil_of_length_eq_zero (by omega)
    subst hl
    subst hc0
    show Calls _ _ #[.slice none 0 0] _ _
    have q := Lib.run_eql_slice_nil (P := Try.prog) w 28 78 none 0 0 0 0 Try.underlying28
    go_enter Try.func35, Try.ntmps35
    go_wp2_with fail
    go_ret
    exact ⟨_, rfl, World.ownsRow_nil _ _ _ _, Below.refl _ _⟩
  | some a =>
    have q := Lib.run_eql_slice_nil (P := Try.prog) w 28 78 (some a) rows.length cap 0 0 Try.underlying28
    have ha := h.below (box_below w (.cells #[] 78))
    go_enter Try.func35, Try.ntmps35
    go_wp2_with (at_builtin; refine wpList_append_rows rfl _ _ 28 rfl w.heap.size 78 i0 _ 4 56 Try.underlying28 hi hz0 hz1 hz2 rfl (by decide) _ 0 [] rfl (World.ownsRow_made w #[] 0 (Nat.le_refl _) (Nat.zero_le _) rfl) _ rows rfl ha h1 (by unfold maxLen; omega) (by omega) (by simp) ?_; intro v5 w5 ho5 hg5)
    go_ret
    exact ⟨v5, rfl, by simpa using ho5, below_grown (box_below w _) hg5 (fun k hk => by simp [Value.ownBlock, Act.eval] at hk; omega)⟩

set_option maxHeartbeats 1000000 in
theorem w_pcloneJ (v : Value) (xs : List Int) (w : World) (h : Rd .i64 w v xs) (hb : xs.length * 8 ≤ 140737488355328) :
    Calls Try.prog 33 #[v] w fun e w' => ∃ v', e = .returned v' ∧ w'.ownsRow w.heap.size 3 1 v' xs.length (xs.map (Value.int .i64)) ∧ Below w.heap.size w w' := by
  obtain ⟨i0, hi, hz0, hz1, hz2⟩ := info_parts infoI64
  obtain ⟨ao, cap, rfl, hc, hn, hx⟩ := rd_form h
  cases ao with
  | none =>
    have hc0 := hn rfl
    have hl : xs = [] := List.eq_nil_of_length_eq_zero (by omega)
    subst hl
    subst hc0
    show Calls _ _ #[.slice none 0 0] _ _
    have q := Lib.run_eql_slice_nil (P := Try.prog) w 25 3 none 0 0 0 0 Try.underlying25
    go_enter Try.func33, Try.ntmps33
    go_wp2_with fail
    go_ret
    exact ⟨_, rfl, World.ownsRow_nil _ _ _ _, Below.refl _ _⟩
  | some a =>
    have q := Lib.run_eql_slice_nil (P := Try.prog) w 25 3 (some a) xs.length cap 0 0 Try.underlying25
    have ha := h.below (box_below w (.cells #[] 3))
    go_enter Try.func33, Try.ntmps33
    go_wp2_with (at_builtin; refine wpList_append_rd (k := .i64) rfl _ _ 25 rfl w.heap.size 3 i0 8 Try.underlying25 hi hz0 hz1 hz2 _ [] rfl (World.ownsRow_made w #[] 0 (Nat.le_refl _) (Nat.zero_le _) rfl) _ xs rfl ha (by unfold maxLen; simp; omega) (by simp; omega) (by simp) ?_; intro v5 w5 ho5 hg5)
    go_ret
    exact ⟨v5, rfl, by simpa using ho5, below_grown (box_below w _) hg5 (fun k hk => by simp [Value.ownBlock, Act.eval] at hk; omega)⟩

/-
  Named and Sound of the document's answer for dictionaries.
-/
theorem snd_step {l : List Opd} {words : Int} {k : Nat} (h : k < l.length) (ha : (l.take k).all (okO l.length words) = true) (hx : okO l.length words l[k] = true) : (l.take (k + 1)).all (okO l.length words) = true := by
  rw [List.take_succ_eq_append_getElem h, List.all_append, ha]
  simp [hx]
theorem snd_no {l : List Opd} {words : Int} {k : Nat} (h : k < l.length) (hx : okO l.length words l[k] = false) : sndF l words = false := by
  unfold sndF
  have : l.all (okO l.length words) = false := by
    rw [List.all_eq_false]
    exact ⟨_, List.getElem_mem h, by simp [hx]⟩
  rw [this]
  simp
theorem u32_i64 (n : Int) (h0 : 0 ≤ n) (h1 : n < 4294967296) : IntKind.i64.wrap n = n := by
  simp [IntKind.wrap, IntKind.bits, IntKind.signed]
  omega

/-
  Package dict's Prims, Named, below, noneOrBelow, opSound and Sound.
-/
set_option maxHeartbeats 20000000 in
set_option maxRecDepth 1000000 in
theorem w_p9primsO (w : World) :
    Calls Try.prog 18 #[] w fun e w' => ∃ v, e = .returned v ∧ OwnR 56 2 prmR w.heap.size w' v prmL ∧ Below w.heap.size w w' := by
  go_enter Try.func18, Try.ntmps18
  refine wp_seq (wp_region_list (wpList_runL _ _ _ _ _ rfl ?_))
  simp only [Exit.then]
  refine wp_seq (wp_region_runL (t := 0) (v := .slice (some ⟨w.heap.size, 0, none⟩) 111 111) (w' := w.alloc (.cells (prmL.map prmV).flatten.toArray 56)) (by kernel_rfl) ?_)
  intro a' h1 h2
  simp only [Exit.then]
  refine wp_ret ?_
  refine bodyPost_ret (results_tmp rfl _ _ _) h2 ?_
  rw [h1]
  exact ⟨_, rfl, prm_own w, box_below w _⟩

set_option maxHeartbeats 1000000 in
theorem w_pbelow (X c : Int) (w : World) (h0 : 0 ≤ X) (h1 : X < 4294967296) :
    Calls Try.prog 29 #[.int .u32 X, .int .i64 c] w fun e w' => e = .returned (.bool (decide (X < c))) ∧ w' = w := by
  have hw := u32_i64 X h0 h1
  go_enter Try.func29, Try.ntmps29
  go_wp2_with fail
  go_ret
  exact ⟨rfl, rfl⟩

set_option maxHeartbeats 1000000 in
theorem w_pnob (n c : Int) (w : World) :
    Calls Try.prog 22 #[.int .i64 n, .int .i64 c] w fun e w' => e = .returned (.bool (decide (-1 ≤ n ∧ n < c))) ∧ w' = w := by
  by_cases h : -1 ≤ n
  · have e : decide (-1 ≤ n ∧ n < c) = decide (n < c) := by rw [decide_eq_decide]; omega
    rw [e]
    clear e
    go_enter Try.func22, Try.ntmps22
    go_wp2_with fail
    go_ret
    exact ⟨rfl, rfl⟩
  · have e : decide (-1 ≤ n ∧ n < c) = false := by rw [decide_eq_false_iff_not]; omega
    rw [e]
    clear e
    go_enter Try.func22, Try.ntmps22
    go_wp2_with fail
    go_ret
    exact ⟨rfl, rfl⟩

set_option maxHeartbeats 2000000 in
set_option maxRecDepth 100000 in
theorem w_p9named' (s : ByteArray) (w : World) (hs : s.size ≤ maxLen) :
    Calls Try.prog 27 #[.string s] w fun e w' => e = .returned (.bool (namF (L s))) ∧ w' = w := by
  have hs2 := hs
  unfold maxLen at hs2
  by_cases h0 : s = ⟨#[]⟩
  · have hf : Hid (namF (L s) = false) := by show _ = _; subst h0; decide +kernel
    have q0 : (s.toList == (⟨#[]⟩ : ByteArray).toList) = true := by subst h0; decide +kernel
    have q1 : s.toList.isEmpty = true := by subst h0; decide +kernel
    clear h0
    go_enter Try.func27, Try.ntmps27
    go_wp2_with fail
    go_ret
    exact ⟨ret_b hf.out.symm, rfl⟩
  · have q0 : (s.toList == (⟨#[]⟩ : ByteArray).toList) = false := by rw [str_beq]; exact decide_eq_false h0
    have q1 : s.toList.isEmpty = false := emp_no h0
    by_cases h31 : (31 : Int) < s.size
    · have hf : Hid (namF (L s) = false) := by
        show _ = _
        unfold namF
        rw [L_len, Bool.and_eq_false_iff]
        right
        rw [decide_eq_false_iff_not]
        omega
      clear h0
      go_enter Try.func27, Try.ntmps27
      go_wp2_with fail
      go_ret
      exact ⟨ret_b hf.out.symm, rfl⟩
    · have hsz : Hid (1 ≤ s.size ∧ s.size ≤ 31) := by
        show _ ∧ _
        refine ⟨?_, by omega⟩
        apply Classical.byContradiction
        intro g
        apply h0
        apply ByteArray.ext
        apply Array.ext
        · show s.size = 0
          omega
        · intro i hi
          have : i < s.size := hi
          omega
      have h31b : decide ((31 : Int) < s.size) = false := decide_eq_false h31
      clear h0
      go_enter Try.func27, Try.ntmps27
      go_wp2_with fail
      go_loopw [14] (fun I wx => ∃ (k : Nat), (k : Int) ≤ s.size ∧ I = .int .i64 k ∧ Hid (((L s).take k).all okC = true) ∧ wx = w) (fun I _ => (s.size - intOf I).toNat)
      case atStart => exact ⟨0, by omega, rfl, hid rfl, rfl⟩
      case round =>
        obtain ⟨k, hk, rfl, ha, hb⟩ := hrel
        obtain rfl := hb.symm
        by_cases hlt : (k : Int) < s.size
        · have hkk : k < s.size := by omega
          obtain ⟨c, hc⟩ : ∃ c, (s[k].toNat : Int) = c := ⟨_, rfl⟩
          have hcb := L_bd s k hkk
          rw [hc] at hcb
          obtain ⟨c0, c1⟩ := hcb
          have hLt : Hid ((L s).take (k + 1) = (L s).take k ++ [c]) := by show _ = _; rw [← hc]; exact L_take s k hkk
          have hLd : Hid (L s = (L s).take k ++ c :: (L s).drop (k + 1)) := by
            show _ = _
            rw [← hc, ← L_drop s k hkk, List.take_append_drop]
          have hrun := fun W => run_at (w := W) s k hkk hs
          simp only [hc] at hrun
          cases hcc : okC c
          · have hf : Hid (namF (L s) = false) := by
              show _ = _
              unfold namF
              rw [hLd.out, List.all_append, List.all_cons, hcc]
              simp
            have hcs : c < 33 ∨ 126 < c ∨ (65 ≤ c ∧ c ≤ 90) := by simp [okC] at hcc; omega
            clear hcc hLd hLt hc
            rcases hcs with h | h | h
            · go_wp2_with fail
              go_ret
              exact ⟨ret_b hf.out.symm, rfl⟩
            · go_wp2_with fail
              go_ret
              exact ⟨ret_b hf.out.symm, rfl⟩
            · obtain ⟨h, h'⟩ := h
              go_wp2_with fail
              go_ret
              exact ⟨ret_b hf.out.symm, rfl⟩
          · have ha2 : Hid (((L s).take (k + 1)).all okC = true) := by
              show _ = _
              rw [hLt.out, List.all_append, ha.out]
              simp [hcc]
            have hcs : 33 ≤ c ∧ c ≤ 126 ∧ (c < 65 ∨ 90 < c) := by simp [okC] at hcc; omega
            obtain ⟨q1, q2, q3⟩ := hcs
            clear hcc hLd hLt hc
            rcases q3 with hq | hq
            all_goals go_wp2_with fail
            all_goals go_roundw
            case rel => exact ⟨k + 1, by omega, by go_num, ha2, trivial⟩
            case measure => simp [intOf]; omega
            case rel => exact ⟨k + 1, by omega, by go_num, ha2, trivial⟩
            case measure => simp [intOf]; omega
        · have hf : Hid (namF (L s) = true) := by
            show _ = _
            have := ha.out
            rw [List.take_of_length_le (by rw [L_len]; omega)] at this
            unfold namF
            rw [this, L_len, decide_eq_true hsz.out]
            rfl
          go_wp2_with fail
          go_ret
          exact ⟨ret_b hf.out.symm, rfl⟩

set_option maxHeartbeats 2000000 in
set_option maxRecDepth 100000 in
theorem w_popsound (K X words : Int) (n : Nat) (w : World) (u0 : 0 ≤ X) (u1 : X < 4294967296) (hn : n ≤ 256) :
    Calls Try.prog 45 #[.agg #[.int .i64 K, .int .u32 X], .int .i64 words, .int .i64 n] w fun e w' => e = .returned (.bool (okO n words (K, X))) ∧ Below w.heap.size w w' := by
  have hok : okO n words (K, X) = decide (K = 1 ∨ (K = 2 ∨ K = 13) ∧ X < words ∨ (K = 11 ∨ K = 12) ∧ X = 0 ∨ 3 ≤ K ∧ K ≤ 10 ∧ X ≤ n) := rfl
  have st := stands_new w #[.int .i64 K, .int .u32 X] 49
  have bx := box_below w (.cells #[.int .i64 K, .int .u32 X] 49)
  have z0 := st.cell 0 _ rfl
  have z1 := st.cell 1 _ rfl
  have cw := fun W => w_pbelow X words W u0 u1
  have cn := fun W => w_pbelow X ((n : Int) + 1) W u0 u1
  have hcs : K = 1 ∨ K = 2 ∨ K = 3 ∨ K = 4 ∨ K = 5 ∨ K = 6 ∨ K = 7 ∨ K = 8 ∨ K = 9 ∨ K = 10 ∨ K = 11 ∨ K = 12 ∨ K = 13 ∨ K < 1 ∨ 13 < K := by omega
  rcases hcs with rfl | rfl | rfl | rfl | rfl | rfl | rfl | rfl | rfl | rfl | rfl | rfl | rfl | hcs
  · skip
    have hf : Hid (okO n words (1, X) = true) := by show _ = _; rw [hok]; simp
    clear hok
    go_enter Try.func45, Try.ntmps45
    go_wp2_with fail
    go_ret
    exact ⟨ret_b hf.out.symm, bx⟩
  · skip
    have hf : Hid (okO n words (2, X) = decide (X < words)) := by show _ = _; rw [hok, decide_eq_decide]; omega
    clear hok
    go_enter Try.func45, Try.ntmps45
    go_wp2_with (go_at_call 29; refine (cw _).mono ?_; rintro e w1 ⟨rfl, hw1⟩; obtain rfl := hw1.symm)
    go_ret
    exact ⟨ret_b hf.out.symm, bx⟩
  · skip
    have hf : Hid (okO n words (3, X) = decide (X < (n : Int) + 1)) := by show _ = _; rw [hok, decide_eq_decide]; omega
    clear hok
    go_enter Try.func45, Try.ntmps45
    go_wp2_with (go_at_call 29; refine (cn _).mono ?_; rintro e w1 ⟨rfl, hw1⟩; obtain rfl := hw1.symm)
    go_ret
    exact ⟨ret_b hf.out.symm, bx⟩
  · skip
    have hf : Hid (okO n words (4, X) = decide (X < (n : Int) + 1)) := by show _ = _; rw [hok, decide_eq_decide]; omega
    clear hok
    go_enter Try.func45, Try.ntmps45
    go_wp2_with (go_at_call 29; refine (cn _).mono ?_; rintro e w1 ⟨rfl, hw1⟩; obtain rfl := hw1.symm)
    go_ret
    exact ⟨ret_b hf.out.symm, bx⟩
  · skip
    have hf : Hid (okO n words (5, X) = decide (X < (n : Int) + 1)) := by show _ = _; rw [hok, decide_eq_decide]; omega
    clear hok
    go_enter Try.func45, Try.ntmps45
    go_wp2_with (go_at_call 29; refine (cn _).mono ?_; rintro e w1 ⟨rfl, hw1⟩; obtain rfl := hw1.symm)
    go_ret
    exact ⟨ret_b hf.out.symm, bx⟩
  · skip
    have hf : Hid (okO n words (6, X) = decide (X < (n : Int) + 1)) := by show _ = _; rw [hok, decide_eq_decide]; omega
    clear hok
    go_enter Try.func45, Try.ntmps45
    go_wp2_with (go_at_call 29; refine (cn _).mono ?_; rintro e w1 ⟨rfl, hw1⟩; obtain rfl := hw1.symm)
    go_ret
    exact ⟨ret_b hf.out.symm, bx⟩
  · skip
    have hf : Hid (okO n words (7, X) = decide (X < (n : Int) + 1)) := by show _ = _; rw [hok, decide_eq_decide]; omega
    clear hok
    go_enter Try.func45, Try.ntmps45
    go_wp2_with (go_at_call 29; refine (cn _).mono ?_; rintro e w1 ⟨rfl, hw1⟩; obtain rfl := hw1.symm)
    go_ret
    exact ⟨ret_b hf.out.symm, bx⟩
  · skip
    have hf : Hid (okO n words (8, X) = decide (X < (n : Int) + 1)) := by show _ = _; rw [hok, decide_eq_decide]; omega
    clear hok
    go_enter Try.func45, Try.ntmps45
    go_wp2_with (go_at_call 29; refine (cn _).mono ?_; rintro e w1 ⟨rfl, hw1⟩; obtain rfl := hw1.symm)
    go_ret
    exact ⟨ret_b hf.out.symm, bx⟩
  · skip
    have hf : Hid (okO n words (9, X) = decide (X < (n : Int) + 1)) := by show _ = _; rw [hok, decide_eq_decide]; omega
    clear hok
    go_enter Try.func45, Try.ntmps45
    go_wp2_with (go_at_call 29; refine (cn _).mono ?_; rintro e w1 ⟨rfl, hw1⟩; obtain rfl := hw1.symm)
    go_ret
    exact ⟨ret_b hf.out.symm, bx⟩
  · skip
    have hf : Hid (okO n words (10, X) = decide (X < (n : Int) + 1)) := by show _ = _; rw [hok, decide_eq_decide]; omega
    clear hok
    go_enter Try.func45, Try.ntmps45
    go_wp2_with (go_at_call 29; refine (cn _).mono ?_; rintro e w1 ⟨rfl, hw1⟩; obtain rfl := hw1.symm)
    go_ret
    exact ⟨ret_b hf.out.symm, bx⟩
  · skip
    have hf : Hid (okO n words (11, X) = (X == 0)) := by show _ = _; rw [hok, Bool.eq_iff_iff, decide_eq_true_eq, beq_iff_eq]; omega
    clear hok
    go_enter Try.func45, Try.ntmps45
    go_wp2_with fail
    go_ret
    exact ⟨ret_b hf.out.symm, bx⟩
  · skip
    have hf : Hid (okO n words (12, X) = (X == 0)) := by show _ = _; rw [hok, Bool.eq_iff_iff, decide_eq_true_eq, beq_iff_eq]; omega
    clear hok
    go_enter Try.func45, Try.ntmps45
    go_wp2_with fail
    go_ret
    exact ⟨ret_b hf.out.symm, bx⟩
  · skip
    have hf : Hid (okO n words (13, X) = decide (X < words)) := by show _ = _; rw [hok, decide_eq_decide]; omega
    clear hok
    go_enter Try.func45, Try.ntmps45
    go_wp2_with (go_at_call 29; refine (cw _).mono ?_; rintro e w1 ⟨rfl, hw1⟩; obtain rfl := hw1.symm)
    go_ret
    exact ⟨ret_b hf.out.symm, bx⟩
  · skip
    have hf : Hid (okO n words (K, X) = false) := by show _ = _; rw [hok, decide_eq_false_iff_not]; omega
    have y1 : (K == 1) = false := by rw [beq_eq_false_iff_ne]; omega
    have y2 : (K == 2) = false := by rw [beq_eq_false_iff_ne]; omega
    have y3 : (K == 3) = false := by rw [beq_eq_false_iff_ne]; omega
    have y4 : (K == 4) = false := by rw [beq_eq_false_iff_ne]; omega
    have y5 : (K == 5) = false := by rw [beq_eq_false_iff_ne]; omega
    have y6 : (K == 6) = false := by rw [beq_eq_false_iff_ne]; omega
    have y7 : (K == 7) = false := by rw [beq_eq_false_iff_ne]; omega
    have y8 : (K == 8) = false := by rw [beq_eq_false_iff_ne]; omega
    have y9 : (K == 9) = false := by rw [beq_eq_false_iff_ne]; omega
    have y10 : (K == 10) = false := by rw [beq_eq_false_iff_ne]; omega
    have y11 : (K == 11) = false := by rw [beq_eq_false_iff_ne]; omega
    have y12 : (K == 12) = false := by rw [beq_eq_false_iff_ne]; omega
    have y13 : (K == 13) = false := by rw [beq_eq_false_iff_ne]; omega
    clear hok hcs
    go_enter Try.func45, Try.ntmps45
    go_wp2_with fail
    go_ret
    exact ⟨ret_b hf.out.symm, bx⟩

set_option maxHeartbeats 2000000 in
set_option maxRecDepth 100000 in
theorem w_p9sound' (v : Value) (l : List Opd) (words : Int) (w : World) (h : RdO w v l) (hu : ∀ x ∈ l, 0 ≤ x.2 ∧ x.2 < 4294967296) :
    Calls Try.prog 28 #[v, .int .i64 words] w fun e w' => e = .returned (.bool (sndF l words)) ∧ Below w.heap.size w w' := by
  have hla := slr_len h uO (P := Try.prog)
  have hm := slr_max h
  unfold maxLen at hm
  by_cases h256 : (256 : Int) < l.length
  · have hf : Hid (sndF l words = false) := by show _ = _; unfold sndF; rw [decide_eq_false (by omega)]; simp
    go_enter Try.func28, Try.ntmps28
    go_wp2_with fail
    go_ret
    exact ⟨ret_b hf.out.symm, Below.refl _ _⟩
  · go_enter Try.func28, Try.ntmps28
    go_wp2_with fail
    go_loopw [12] (fun I wx => ∃ (k : Nat), (k : Int) ≤ l.length ∧ I = .int .i64 k ∧ Hid ((l.take k).all (okO l.length words) = true) ∧ Below w.heap.size w wx) (fun I _ => (l.length - intOf I).toNat)
    case atStart => exact ⟨0, by omega, rfl, hid rfl, Below.refl _ _⟩
    case round =>
      obtain ⟨k, hk, rfl, ha, hb⟩ := hrel
      by_cases hlt : (k : Int) < l.length
      · have hkl : k < l.length := by omega
        obtain ⟨b1, o1, r1, f0, f1⟩ := op_at (RdO.below h hb) k hkl
        have hub := hu _ (List.getElem_mem hkl)
        have yes := fun hx => snd_step (words := words) hkl ha.out hx
        have no := fun hx => snd_no (l := l) (words := words) (k := k) hkl hx
        have hok : okO l.length words l[k] = okO l.length words (l[k].1, l[k].2) := rfl
        obtain ⟨K, hK⟩ : ∃ K, l[k].1 = K := ⟨_, rfl⟩
        obtain ⟨X, hX⟩ : ∃ X, l[k].2 = X := ⟨_, rfl⟩
        rw [hK, hX] at hok
        rw [hK] at f0
        rw [hX] at f1 hub
        obtain ⟨u0, u1⟩ := hub
        have bx := box_below wr (.cells #[.int .i64 K, .int .u32 X] 49)
        have co := fun W => w_popsound K X words l.length W u0 u1 (by omega)
        cases hc : okO l.length words (K, X)
        · have hf := hid (no (by rw [hok, hc]))
          simp only [hc] at co
          clear yes no hok hK hX ha hc
          go_wp2_with (go_at_call 45; refine (co _).mono ?_; rintro e w1 ⟨rfl, d1⟩)
          go_ret
          exact ⟨ret_b hf.out.symm, below_trans hb (below_trans bx d1)⟩
        · have hx := hid (yes (by rw [hok, hc]))
          simp only [hc] at co
          clear yes no hok hK hX ha hc
          go_wp2_with (go_at_call 45; refine (co _).mono ?_; rintro e w1 ⟨rfl, d1⟩)
          go_roundw
          case rel => exact ⟨k + 1, by omega, by go_num, hx, below_trans hb (below_trans bx d1)⟩
          case measure => simp [intOf]; omega
      · have hf : Hid (sndF l words = true) := by
          show _ = _
          have := ha.out
          rw [List.take_of_length_le (by omega)] at this
          unfold sndF
          rw [this, decide_eq_true (by omega)]
          rfl
        go_wp2_with fail
        go_ret
        exact ⟨ret_b hf.out.symm, hb⟩

/-
  Named of the document's answer for properties, that it only draws: for regions that draw their order.
-/


end Go.Proofs.Ytfljcfpcokimcab
