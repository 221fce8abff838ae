/-
  Texts of one proof, laid one behind the other: Sb Pmm Rmm Sr1 Dgs Dsh Ppr Rp1 Sr2.
-/
import Derived.Test.YthihkfimledccaaB0
import Derived.Laws.BytesArg
import Derived.Laws.OwnMore
import Derived.Lib.AppendStr
import Derived.Test.YthihkfimledccaaProg
import Derived.Lib.Strings
import Derived.Deep.OwnRows
namespace Go.Proofs.Ythihkfimledccaa
open Go.ChangeShapes Go.WideShapes Go.ChangeAt Go.RowKit
set_option linter.unusedVariables false
set_option linter.unusedSimpArgs false

/-
  Slices of bytes as texts, and cells of a call's own row written. No Go text in sight.
-/
/-- a text's bytes as numbers -/
def LB (s : ByteArray) : List Int := s.data.toList.map fun c => (c.toNat : Int)
/-- numbers that are bytes -/
def bytesL (xs : List Int) : Prop := ∀ x ∈ xs, 0 ≤ x ∧ x < 256
theorem LB_len (s : ByteArray) : (LB s).length = s.size := by simp [LB]
theorem LB_bytes (s : ByteArray) : bytesL (LB s) := by
  intro x hx
  simp only [LB, List.mem_map] at hx
  obtain ⟨c, _, rfl⟩ := hx
  have := c.toNat_lt
  omega
theorem LB_nums (xs : List Int) (h : bytesL xs) : LB (strOfNums xs) = xs := by
  simp only [LB, strOfNums_data, List.map_map]
  conv => rhs; rw [← List.map_id xs]
  apply List.map_congr_left
  intro x hx
  have := h x hx
  simp only [Function.comp, id]
  rw [UInt8.toNat_ofNat']
  omega
theorem nums_LB (s : ByteArray) : strOfNums (LB s) = s := by
  cases s with
  | mk d =>
    simp only [strOfNums, LB, List.map_map]
    congr 1
    rw [show ((fun n : Int => UInt8.ofNat n.toNat) ∘ fun c : UInt8 => (c.toNat : Int)) = id by funext c; simp]
    simp
theorem nums_eq (xs ys : List Int) (hx : bytesL xs) (hy : bytesL ys) : (strOfNums xs = strOfNums ys) = (xs = ys) := by
  apply propext
  constructor
  · intro h
    rw [← LB_nums xs hx, ← LB_nums ys hy, h]
  · intro h
    rw [h]
/-- '==' of two texts, as the walk leaves it -/
theorem str_beq (A B : ByteArray) : (A.toList == B.toList) = decide (A = B) := by
  rw [Bool.eq_iff_iff]
  simp only [beq_iff_eq, decide_eq_true_eq, ByteArray.toList_eq]
  constructor
  · intro h
    cases A; cases B
    congr 1
    exact Array.ext' h
  · intro h; rw [h]
theorem strCells_LB (s : ByteArray) : Lib.strCells s = (LB s).map (Value.int .u8) := by simp [Lib.strCells, LB]

/-- a slice of bytes turned into a text -/
theorem rd_str {P : Program} {w : World} {v : Value} {xs : List Int} (h : Rd .u8 w v xs) {src dst e : TypeId} (hs : P.underlying src = some (.slice e)) (he : P.underlying e = some (.int .u8)) (hd : P.underlying dst = some .string) :
    (convert src dst v).run P w = .ok (.string (strOfNums xs)) w := by
  rcases h with ⟨ao, cap, rfl, hn, rfl⟩ | ⟨b, off, cap, rfl, h0, hc1, hc2, hc⟩
  · cases ao with
    | none => rw [run_convert_bytes_nil w src e hs he 0 cap dst hd]; rfl
    | some a =>
      rw [run_convert_bytes_string w src dst e _ 0 cap hs he hd, run_bytesToString w a 0 cap [] (by simp [loadCells, loadCellsFrom])]
      rfl
  · exact run_convert_bytes_arg w src e hs he b off xs.length cap xs rfl hc dst hd

/-- a cell of the call's own row: its address, and what is there once it is written -/
theorem own_set {P : Program} {k : IntKind} {w : World} {base : Nat} {e : TypeId} {v : Value} {ys : List Int} (h : w.ownsRow base e 1 v ys.length (ys.map (Value.int k))) {t : TypeId} (ht : P.underlying t = some (.slice (P.elem t))) (hs : ∀ w, (sizeOf (P.elem t)).run P w = .ok 1 w) (i : Int) (h0 : 0 ≤ i) (h1 : i < ys.length) :
    ∃ a : Addr, (∀ w', (Instr.indexAt t v (.int .i64 i)).run P w' = .ok (.pointer (some a)) w') ∧ w.cell? a = some (.int k (ys.getD i.toNat 0)) ∧ w.frozen? a = false ∧ base ≤ a.block ∧
      ∀ y, (w.setCell a (.int k y)).ownsRow base e 1 v (ys.set i.toNat y).length ((ys.set i.toNat y).map (Value.int k)) := by
  rcases h.2 with ⟨rfl, hz⟩ | ⟨g, cap, cur, rfl, hb, hg, hnc, hcm, hcs, htake⟩
  · omega
  · refine ⟨⟨g, i.toNat, none⟩, fun w' => ?_, ?_, h.frozenAt i.toNat, hb, fun y => ?_⟩
    · rw [run_indexAt_slice (h := ht), if_pos ⟨h0, h1⟩, hs]
      simp only [Result.andThen, Nat.mul_one]
      congr 3
      unfold Addr.add
      split
      · rename_i hz; rw [hz]
      · simp
    · rw [h.cellAt i.toNat (by omega), List.getElem?_map, List.getElem?_eq_getElem (by omega)]
      simp [List.getD_eq_getElem?_getD, List.getElem?_eq_getElem (show i.toNat < ys.length by omega)]
    · have := (h.stored i.toNat (.int k y)).1
      rw [List.length_set, List.map_set]
      exact this
/-- append of a text onto a row of the call's own -/
theorem wpList_append_rds {P : Program} {w : World} {ops : Array Oper} {rest : List Oper} {o : Oper} {a : Act} {Q : Exit → Act → World → Prop} (hgd : o.guard = none) (s x : Operand) (t u : TypeId)
    (ho : o.op = .call { callee := .builtin .append, args := #[s, x], argTypes := #[t, u] })
    (base : Nat) (e : TypeId) (i : TypeInfo) (ht : P.underlying t = some (.slice e)) (hu : P.underlying u = some .string) (hi : P.info? e = some i) (hz : i.zero = some (.int .u8 0)) (hsize : i.size = 1) (hby : i.bytes = 1)
    (v : Value) (ys : List Int) (hs : a.eval s = v) (hown : w.ownsRow base e 1 v ys.length (ys.map (Value.int .u8)))
    (S : ByteArray) (hx : a.eval x = .string S) (h63 : ys.length + S.size ≤ maxLen) (hbytes : ys.length + S.size ≤ 140737488355328) (hbase : base ≤ w.heap.size)
    (h : ∀ v' w', w'.ownsRow base e 1 v' (ys ++ LB S).length ((ys ++ LB S).map (Value.int .u8)) → w.grownBy w' v.ownBlock → wpList P ops Q rest (a.put o.dst v') w') : wpList P ops Q (o :: rest) a w := by
  obtain ⟨v', w', hr, ho2, hg, _⟩ := Lib.run_append_own_string w base t u o.type e i ht hu hi hz hsize hby v ys.length _ hown S h63 hbytes hbase
  refine wpList_plain hgd fun _ hK => ?_
  unfold Oper.wp
  simp [execOp, ho, resolve, invoke, builtin, hs, hx, hr, Result.andThen]
  refine hK _ _ (h v' w' ?_ hg)
  rw [strCells_LB] at ho2
  simpa [LB_len] using ho2

/-
  A memory of bytes, as plain functions of lists. No Go text in sight.
-/
/-- a stretch lies in a memory of L bytes -/
def inF (L a n : Int) : Bool := decide (a ≤ L ∧ n ≤ L - a)
/-- what is wrong with a number's address and size -/
def wrongF (L a s : Int) : Int := if ¬ (s = 1 ∨ s = 2 ∨ s = 4) then 1 else if ¬ a % s = 0 then 8 else if inF L a s = false then 9 else 0
/-- bytes as a number, the highest first; a number as bytes -/
def beV (l : List Int) : Int := l.foldl (fun v b => v * 256 + b) 0
def beB : Nat → Int → List Int
  | 0, _ => []
  | n + 1, v => beB n (v / 256) ++ [v % 256]
def fetF (m : List Int) (a s : Int) : Int × Int := if wrongF m.length a s = 0 then (beV ((m.drop a.toNat).take s.toNat), 0) else (0, wrongF m.length a s)
def stoF (m : List Int) (a s v : Int) : List Int × Int := if wrongF m.length a s = 0 then (m.take a.toNat ++ beB s.toNat v ++ m.drop (a.toNat + s.toNat), 0) else ([], wrongF m.length a s)
def texF (m : List Int) (a n : Int) : List Int × Int := if inF m.length a n = true then ((m.drop a.toNat).take n.toNat, 0) else ([], 9)
def putF (m : List Int) (a : Int) (s : List Int) : List Int × Int := if inF m.length a s.length = true then (m.take a.toNat ++ s ++ m.drop (a.toNat + s.length), 0) else ([], 9)
def movF (m : List Int) (f t n : Int) : List Int × Int := if inF m.length f n = true ∧ inF m.length t n = true then putF m t ((m.drop f.toNat).take n.toNat) else ([], 9)
def filF (m : List Int) (a n v : Int) : List Int × Int := if inF m.length a n = true then (m.take a.toNat ++ List.replicate n.toNat (v % 256) ++ m.drop (a.toNat + n.toNat), 0) else ([], 9)
def cmpL : List Int → List Int → Int
  | x :: xs, y :: ys => if y < x then 1 else if x < y then 4294967295 else cmpL xs ys
  | _, _ => 0
def cmpF (m : List Int) (a b n : Int) : Int × Int := if inF m.length a n = true ∧ inF m.length b n = true then (cmpL ((m.drop a.toNat).take n.toNat) ((m.drop b.toNat).take n.toNat), 0) else (0, 9)
def allAt (L : Int) : Int := (L + 3) / 4 * 4
def allF (m : List Int) (n : Int) : List Int × Int × Int :=
  if (4096 : Int) < m.length then ([], 0, 10) else if 4096 - allAt m.length < n then ([], 0, 10) else (m ++ List.replicate (allAt m.length + n - m.length).toNat 0, allAt m.length, 0)

theorem wrong_ok {L a s : Int} (h : wrongF L a s = 0) : (s = 1 ∨ s = 2 ∨ s = 4) ∧ a % s = 0 ∧ a ≤ L ∧ s ≤ L - a := by
  unfold wrongF at h
  by_cases h1 : s = 1 ∨ s = 2 ∨ s = 4
  · rw [if_neg (fun h => h h1)] at h
    by_cases h2 : a % s = 0
    · rw [if_neg (fun h => h h2)] at h
      by_cases h3 : inF L a s = false
      · rw [if_pos h3] at h; omega
      · simp [inF] at h3
        exact ⟨h1, h2, h3.1, h3.2⟩
    · rw [if_pos h2] at h; omega
  · rw [if_pos h1] at h; omega
theorem bytes_take {xs : List Int} (h : bytesL xs) (n : Nat) : bytesL (xs.take n) := fun x hx => h x (List.mem_of_mem_take hx)
theorem bytes_drop {xs : List Int} (h : bytesL xs) (n : Nat) : bytesL (xs.drop n) := fun x hx => h x (List.mem_of_mem_drop hx)
theorem bytes_app {xs ys : List Int} (h : bytesL xs) (g : bytesL ys) : bytesL (xs ++ ys) := fun x hx => (List.mem_append.1 hx).elim (h x) (g x)
theorem beB_len : ∀ (n : Nat) (v : Int), (beB n v).length = n
  | 0, _ => rfl
  | n + 1, v => by simp [beB, beB_len n]
theorem beB_bytes : ∀ (n : Nat) (v : Int), bytesL (beB n v)
  | 0, _ => fun x hx => by simp [beB] at hx
  | n + 1, v => by
    intro x hx
    simp only [beB, List.mem_append, List.mem_singleton] at hx
    rcases hx with hx | rfl
    · exact beB_bytes n _ x hx
    · omega
theorem beV_snoc (l : List Int) (b : Int) : beV (l ++ [b]) = beV l * 256 + b := by simp [beV]
/-- there and back -/
theorem beV_beB : ∀ (n : Nat) (v : Int), beV (beB n v) = v % 256 ^ n
  | 0, v => by simp [beB, beV]
  | n + 1, v => by
    rw [beB, beV_snoc, beV_beB n]
    have e : (256 : Int) ^ (n + 1) = 256 * 256 ^ n := by rw [Int.pow_succ, Int.mul_comm]
    rw [e]
    have hk : (0 : Int) < 256 ^ n := Int.pow_pos (by omega)
    obtain ⟨k, hk2⟩ : ∃ k, (256 : Int) ^ n = k := ⟨_, rfl⟩
    rw [hk2] at hk ⊢
    have h1 := Int.emod_add_mul_ediv (v / 256) k
    have h2 := Int.emod_nonneg (v / 256) (show k ≠ 0 by omega)
    have h3 := Int.emod_lt_of_pos (v / 256) hk
    have hv : v = (v / 256 % k * 256 + v % 256) + 256 * k * (v / 256 / k) := by
      rw [Int.mul_assoc]
      omega
    have h4 : 0 ≤ v % 256 ∧ v % 256 < 256 := by omega
    obtain ⟨u, hu⟩ : ∃ u, v / 256 % k = u := ⟨_, rfl⟩
    obtain ⟨t, ht⟩ : ∃ t, v / 256 / k = t := ⟨_, rfl⟩
    obtain ⟨r, hr⟩ : ∃ r, v % 256 = r := ⟨_, rfl⟩
    rw [hu, ht, hr] at hv
    rw [hu] at h2 h3 ⊢
    rw [hr] at h4 ⊢
    rw [hv, Int.add_mul_emod_self_left, Int.emod_eq_of_lt (by omega) (by omega)]
theorem sto_bytes {m : List Int} (h : bytesL m) (a s v : Int) : bytesL (stoF m a s v).1 := by
  unfold stoF
  split
  · exact bytes_app (bytes_app (bytes_take h _) (beB_bytes _ _)) (bytes_drop h _)
  · intro x hx; simp at hx
theorem tex_bytes {m : List Int} (h : bytesL m) (a n : Int) : bytesL (texF m a n).1 := by
  unfold texF
  split
  · exact bytes_take (bytes_drop h _) _
  · intro x hx; simp at hx
theorem put_bytes {m s : List Int} (h : bytesL m) (g : bytesL s) (a : Int) : bytesL (putF m a s).1 := by
  unfold putF
  split
  · exact bytes_app (bytes_app (bytes_take h _) g) (bytes_drop h _)
  · intro x hx; simp at hx
theorem mov_bytes {m : List Int} (h : bytesL m) (f t n : Int) : bytesL (movF m f t n).1 := by
  unfold movF
  split
  · exact put_bytes h (bytes_take (bytes_drop h _) _) _
  · intro x hx; simp at hx
theorem fil_bytes {m : List Int} (h : bytesL m) (a n v : Int) : bytesL (filF m a n v).1 := by
  unfold filF
  split
  · refine bytes_app (bytes_app (bytes_take h _) ?_) (bytes_drop h _)
    intro x hx
    rw [List.mem_replicate] at hx
    omega
  · intro x hx; simp at hx
theorem all_bytes {m : List Int} (h : bytesL m) (n : Int) : bytesL (allF m n).1 := by
  unfold allF
  split
  · intro x hx; simp at hx
  · split
    · intro x hx; simp at hx
    · refine bytes_app h ?_
      intro x hx
      rw [List.mem_replicate] at hx
      omega

/-
  In, Same, Copy, wrong, Fetch, Text of the document's answer for a memory of bytes.
-/
/-- a row of bytes of the call's own -/
def Own8 (base : Nat) (w : World) (v : Value) (xs : List Int) : Prop := w.ownsRow base 5 1 v xs.length (xs.map (Value.int .u8))

theorem uB : Try.prog.underlying 26 = some (.slice (Try.prog.elem 26)) := by kernel_rfl
theorem eB : Try.prog.elem 26 = 5 := by kernel_rfl
theorem zB (w : World) : (sizeOf (Try.prog.elem 26)).run Try.prog w = .ok 1 w := by rw [eB]; exact Try.sizeOf5 w
theorem infoU8 : (Try.prog.info? 5).map (fun i => (i.zero, i.size, i.bytes)) = some (some (.int .u8 0), 1, 1) := by kernel_rfl
theorem rd_strT {w : World} {v : Value} {xs : List Int} (h : Rd .u8 w v xs) : (convert 26 9 v).run Try.prog w = .ok (.string (strOfNums xs)) w :=
  rd_str h Try.underlying26 Try.underlying5 Try.underlying9

theorem w_rsame (va vb : Value) (xs ys : List Int) (w : World) (ha : Rd .u8 w va xs) (hb : Rd .u8 w vb ys) (bx : bytesL xs) (by' : bytesL ys) :
    Calls Try.prog 31 #[va, vb] w fun e w' => e = .returned (.bool (decide (xs = ys))) ∧ w' = w := by
  have c1 := rd_strT ha
  have c2 := rd_strT hb
  have he : Hid (((strOfNums xs).toList == (strOfNums ys).toList) = decide (xs = ys)) := by
    show _ = _
    rw [str_beq]
    simp only [nums_eq xs ys bx by']
  obtain ⟨A, hA⟩ : ∃ A, strOfNums xs = A := ⟨_, rfl⟩
  obtain ⟨B, hB⟩ : ∃ B, strOfNums ys = B := ⟨_, rfl⟩
  rw [hA] at c1 he
  rw [hB] at c2 he
  go_enter Try.func31, Try.ntmps31
  go_wp2_with fail
  go_ret
  exact ⟨ret_b he.out, rfl⟩

theorem w_rcopy (v : Value) (xs : List Int) (w : World) (h : Rd .u8 w v xs) (hb : xs.length ≤ 140737488355328) :
    Calls Try.prog 15 #[v] w fun e w' => ∃ v', e = .returned v' ∧ w'.ownsRow w.heap.size 5 1 v' xs.length (xs.map (Value.int .u8)) ∧ Below w.heap.size w w' := by
  obtain ⟨i0, hi, hz0, hz1, hz2⟩ := info_parts infoU8
  go_enter Try.func15, Try.ntmps15
  go_wp2_with (at_builtin; refine wpList_append_rd (k := .u8) rfl _ _ 26 rfl w.heap.size 5 i0 1 Try.underlying26 hi hz0 hz1 hz2 (.slice none 0 0) [] rfl (World.ownsRow_nil _ _ _ _) v xs rfl h (by unfold maxLen; simp; omega) (by simpa using hb) (Nat.le_refl _) ?_; intro v' w1 hown hgr)
  go_ret
  exact ⟨v', rfl, by simpa using hown, below_grown (Below.refl _ _) hgr (fun k hk => by cases hk)⟩

/-
  sized, Formed, New, Quarters of the document's answer for layer 22.
-/
theorem w_rsized22 (W H : Int) (w : World) : Calls Try.prog 29 #[.int .i64 W, .int .i64 H] w fun e w' => e = .returned (.bool (szI W H)) ∧ w' = w := by
  unfold szI
  by_cases h1 : 0 ≤ W
  · by_cases h2 : W ≤ 64
    · by_cases h3 : 0 ≤ H
      · by_cases h4 : H ≤ 64
        · simp only [h1, h2, h3, h4, decide_true, Bool.and_true]
          go_enter Try.func29, Try.ntmps29
          go_wp2_with fail
          go_ret
          exact ⟨rfl, rfl⟩
        · simp only [h1, h2, h3, h4, decide_true, decide_false, Bool.and_true, Bool.and_false]
          go_enter Try.func29, Try.ntmps29
          go_wp2_with fail
          go_ret
          exact ⟨rfl, rfl⟩
      · simp only [h1, h2, h3, decide_true, decide_false, Bool.and_true, Bool.and_false, Bool.false_and]
        go_enter Try.func29, Try.ntmps29
        go_wp2_with fail
        go_ret
        exact ⟨rfl, rfl⟩
    · simp only [h1, h2, decide_true, decide_false, Bool.and_false, Bool.false_and]
      go_enter Try.func29, Try.ntmps29
      go_wp2_with fail
      go_ret
      exact ⟨rfl, rfl⟩
  · simp only [h1, decide_false, Bool.false_and]
    go_enter Try.func29, Try.ntmps29
    go_wp2_with fail
    go_ret
    exact ⟨rfl, rfl⟩

theorem w_rquarters22 (n : Int) (w : World) (n0 : -9223372036854775808 ≤ n) (n1 : n < 9223372036854775808) :
    Calls Try.prog 30 #[.int .i64 n] w fun e w' => e = .returned (.int .i64 (qtN n)) ∧ w' = w := by
  have h := qt_tmod n
  have b1 : -4 < n.tmod 4 := by have := Int.lt_tmod_of_pos n (show (0 : Int) < 4 by omega); omega
  have b2 : n.tmod 4 < 4 := Int.tmod_lt_of_pos n (by omega)
  obtain ⟨T, hT⟩ : ∃ T, n.tmod 4 = T := ⟨_, rfl⟩
  rw [hT] at h b1 b2
  have w0 : IntKind.i64.wrap T = T := by rw [IntKind.wrap_i64]; omega
  have w1 : IntKind.i64.wrap (T + 4) = T + 4 := by rw [IntKind.wrap_i64]; omega
  have hq := qtN_lt n
  obtain ⟨Q, hQ⟩ : ∃ Q : Int, (qtN n : Int) = Q := ⟨_, rfl⟩
  rw [hQ] at h ⊢
  have hQ0 : 0 ≤ Q ∧ Q < 4 := by omega
  have w2 : IntKind.i64.wrap Q = Q := by rw [IntKind.wrap_i64]; omega
  clear hQ hq
  go_enter Try.func30, Try.ntmps30
  go_wp2_with fail
  go_ret
  exact ⟨rfl, rfl⟩

set_option maxHeartbeats 1000000 in
theorem w_rformed22 (W H : Int) (v : Value) (P : List Int) (w : World) (h : Rd .u8 w v P) (hz : P.length ≤ 140737488351232) :
    Calls Try.prog 21 #[.agg #[.int .i64 W, .int .i64 H, v]] w fun e w' => e = .returned (.bool (fmI (W, H, P))) ∧ Below w.heap.size w w' := by
  have BX := box_below w (.cells #[.int .i64 W, .int .i64 H, v] 28)
  have hlen := rd_len h uB (P := Try.prog)
  have cs := w_rsized22 W H
  have hf : fmI (W, H, P) = (szI W H && decide ((P.length : Int) = W * H)) := rfl
  rw [hf]
  by_cases h1 : szI W H = true
  · obtain ⟨a, b, c, d⟩ := (szI_iff W H).1 h1
    have m0 : 0 ≤ W * H := Int.mul_nonneg a c
    have m1 : W * H ≤ 4096 := by
      have := Int.mul_le_mul b d c (show (0 : Int) ≤ 64 by omega)
      omega
    rw [h1] at cs ⊢
    have wm : IntKind.i64.wrap (W * H) = W * H := by rw [IntKind.wrap_i64]; omega
    by_cases h2 : (P.length : Int) = W * H
    · have hq : ((P.length : Int) == W * H) = true := by rw [beq_iff_eq]; exact h2
      rw [decide_eq_true h2]
      clear h2 h1 hf
      go_enter Try.func21, Try.ntmps21
      go_wp2_with (go_at_call 29; refine (cs _).mono ?_; rintro e w1 ⟨rfl, rfl⟩)
      go_ret
      exact ⟨rfl, BX⟩
    · have hq : ((P.length : Int) == W * H) = false := by rw [beq_eq_false_iff_ne]; exact h2
      rw [decide_eq_false h2]
      clear h2 h1 hf
      go_enter Try.func21, Try.ntmps21
      go_wp2_with (go_at_call 29; refine (cs _).mono ?_; rintro e w1 ⟨rfl, rfl⟩)
      go_ret
      exact ⟨rfl, BX⟩
  · have h1 : szI W H = false := by simpa using h1
    rw [h1] at cs ⊢
    clear h1 hf
    go_enter Try.func21, Try.ntmps21
    go_wp2_with (go_at_call 29; refine (cs _).mono ?_; rintro e w1 ⟨rfl, rfl⟩)
    go_ret
    exact ⟨rfl, BX⟩

theorem plS_sz {w h : Nat} (x y : Nat) (hw : w ≤ 64) (hh : h ≤ 64) : ∀ n, (plS n (w, h, x, y)).1 ≤ 64 ∧ (plS n (w, h, x, y)).2.1 ≤ 64
  | 0 => ⟨hw, hh⟩
  | n + 1 => ⟨(plS_sz x y hw hh n).2, (plS_sz x y hw hh n).1⟩

set_option maxHeartbeats 2000000 in
theorem w_rplace22_in (W H q x y : Int) (w : World) (q0 : -9223372036854775808 ≤ q) (q1 : q < 9223372036854775808) (hs : szI W H = true) (x0 : 0 ≤ x) (x1 : x < W) (y0 : 0 ≤ y) (y1 : y < H) :
    Calls Try.prog 11 #[.int .i64 W, .int .i64 H, .int .i64 q, .int .i64 x, .int .i64 y] w fun e w' => e = .returned (.tuple #[.int .i64 (plI W H q x y).1, .int .i64 (plI W H q x y).2]) ∧ w' = w := by
  have cs := w_rsized22 W H
  obtain ⟨a, b, c, d⟩ := (szI_iff W H).1 hs
  have hp : plI W H q x y = (((plS (qtN q) (W.toNat, H.toNat, x.toNat, y.toNat)).2.2.1 : Int), ((plS (qtN q) (W.toNat, H.toNat, x.toNat, y.toNat)).2.2.2 : Int)) := by
    unfold plI
    rw [if_pos (by simp only [hs, decide_eq_true x0, decide_eq_true x1, decide_eq_true y0, decide_eq_true y1, Bool.and_true])]
  rw [hs] at cs
  rw [hp]
  clear hp hs
  obtain ⟨W, rfl⟩ : ∃ m : Nat, W = m := ⟨W.toNat, by omega⟩
  obtain ⟨H, rfl⟩ : ∃ m : Nat, H = m := ⟨H.toNat, by omega⟩
  obtain ⟨x, rfl⟩ : ∃ m : Nat, x = m := ⟨x.toNat, by omega⟩
  obtain ⟨y, rfl⟩ : ∃ m : Nat, y = m := ⟨y.toNat, by omega⟩
  simp only [Int.toNat_natCast]
  have hin := hid (fun n => plS_in (w := W) (h := H) (x := x) (y := y) (by omega) (by omega) n)
  have hsz := hid (fun n => plS_sz (w := W) (h := H) x y (by omega) (by omega) n)
  have cq := fun W => w_rquarters22 q W q0 q1
  have hq4 := qtN_lt q
  obtain ⟨Q, hQ⟩ : ∃ Q, qtN q = Q := ⟨_, rfl⟩
  rw [hQ] at cq hq4 ⊢
  clear hQ
  have d1 : decide ((x : Int) < 0) = false := decide_eq_false (by omega)
  have d2 : decide (W ≤ x) = false := decide_eq_false (by omega)
  have d3 : decide ((y : Int) < 0) = false := decide_eq_false (by omega)
  have d4 : decide (H ≤ y) = false := decide_eq_false (by omega)
  go_enter Try.func11, Try.ntmps11
  go_wp2_with (go_at_call 29; refine (cs _).mono ?_; rintro e w1 ⟨rfl, hw⟩; obtain rfl := hw.symm)
  go_loopw [0, 1, 3, 4, 12] (fun A B X Y I wx => ∃ k e f g h : Nat, k ≤ Q ∧ Hid (plS k (W, H, x, y) = (e, f, g, h)) ∧ I = .int .i64 k ∧ A = .int .i64 e ∧ B = .int .i64 f ∧ X = .int .i64 g ∧ Y = .int .i64 h ∧ wx = w) (fun _ _ _ _ I _ => (4 - intOf I).toNat)
  case atStart => exact ⟨0, W, H, x, y, by omega, hid rfl, rfl, rfl, rfl, rfl, rfl, rfl⟩
  case round =>
    obtain ⟨k, e, f, g, h, hk, hS, rfl, rfl, rfl, rfl, rfl, hw0⟩ := hrel
    obtain rfl := hw0.symm
    have b1 := hin.out k
    have b2 := hsz.out k
    rw [hS.out] at b1 b2
    simp only at b1 b2
    by_cases hlt : (k : Int) < (Q : Int)
    · have v1 : IntKind.i64.wrap ((f : Int) - 1) = (f : Int) - 1 := by rw [IntKind.wrap_i64]; omega
      have v2 : IntKind.i64.wrap ((f : Int) - 1 - (h : Int)) = (f : Int) - 1 - (h : Int) := by rw [IntKind.wrap_i64]; omega
      have hS2 : Hid (plS (k + 1) (W, H, x, y) = (f, e, f - 1 - h, g)) := by
        show (let q := plS k (W, H, x, y); (q.2.1, q.1, q.2.1 - 1 - q.2.2.2, q.2.2.1)) = _
        rw [hS.out]
      have hc : (f : Int) - 1 - (h : Int) = ((f - 1 - h : Nat) : Int) := by omega
      have hc := hid hc
      go_wp2_with (go_at_call 30; refine (cq _).mono ?_; rintro e w1 ⟨rfl, hw⟩; obtain rfl := hw.symm)
      go_roundw
      case rel =>
        exact ⟨k + 1, f, e, f - 1 - h, g, by omega, hS2, by go_num, rfl, rfl, rfl, rfl, trivial⟩
      case measure => simp [intOf]; omega
    · have hkQ : k = Q := by omega
      have hS := hS.out
      rw [hkQ] at hS
      have hS := hid hS
      go_wp2_with (go_at_call 30; refine (cq _).mono ?_; rintro e w1 ⟨rfl, hw⟩; obtain rfl := hw.symm)
      go_ret2
      rw [hS.out]
      exact ⟨rfl, rfl⟩

/-
  Digits as plain functions of whole numbers: the value of a byte as a digit, and facts on them. No Go text in sight.
-/
theorem ret_i {k : IntKind} {a b : Int} (h : a = b) : Ending.returned (.int k a) = .returned (.int k b) := by rw [h]
theorem ret_ii {k l : IntKind} {a b c d : Int} (h : a = b) (g : c = d) : Ending.returned (.tuple #[.int k a, .int l c]) = .returned (.tuple #[.int k b, .int l d]) := by rw [h, g]
theorem ret_ib {k : IntKind} {a b : Int} {c d : Bool} (h : a = b) (g : c = d) : Ending.returned (.tuple #[.int k a, .bool c]) = .returned (.tuple #[.int k b, .bool d]) := by rw [h, g]
theorem ret_si {l : IntKind} {s t : ByteArray} {c d : Int} (h : s = t) (g : c = d) : Ending.returned (.tuple #[.string s, .int l c]) = .returned (.tuple #[.string t, .int l d]) := by rw [h, g]
/-- all that was there is as it was -/
abbrev Gr (w w' : World) : Prop := Below w.heap.size w w'
theorem Gr.refl (w : World) : Gr w w := Below.refl _ _
theorem Gr.alloc {w w' : World} (h : Gr w w') (c : Array Value) (t : TypeId) : Gr w (w'.alloc (.cells c t)) := Below.alloc h h.size _
theorem grown_trans {a b c : World} (h : Gr a b) (g : Gr b c) : Gr a c := below_trans h g
theorem grown_drewN {W w' : World} (h : Gr W w') (n : Nat) : Gr W (w'.drewN n) := below_drewN h n
theorem u32_bounds {n : Int} (h : (Lit.int .u32 n).wf = true) : 0 ≤ n ∧ n < 4294967296 := by
  simp [Lit.wf, IntKind.min, IntKind.max, IntKind.bits, IntKind.signed] at h
  omega
theorem u8_bounds {n : Int} (h : (Lit.int .u8 n).wf = true) : 0 ≤ n ∧ n < 256 := by
  simp [Lit.wf, IntKind.min, IntKind.max, IntKind.bits, IntKind.signed] at h
  omega

/-- a great letter made small -/
def sm (c : Int) : Int := if 65 ≤ c ∧ c ≤ 90 then c + 32 else c
/-- the value of a byte as a digit; 99 where it is none -/
def dv (c : Int) : Int := if 48 ≤ c ∧ c ≤ 57 then c - 48 else if 97 ≤ c ∧ c ≤ 122 then c - 87 else if 65 ≤ c ∧ c ≤ 90 then c - 55 else 99
/-- the byte of a digit's value -/
def dg (k : Int) : Int := if k < 10 then 48 + k else 87 + k
/-- is it a digit of the base -/
def isD (c b : Int) : Bool := decide (2 ≤ b ∧ b ≤ 36 ∧ dv c < b)
def vl (c b : Int) : Int := if isD c b = true then dv c else 0
theorem sm_bd (c : Int) (h0 : 0 ≤ c) (h1 : c < 256) : 0 ≤ sm c ∧ sm c < 256 := by unfold sm; omega
theorem dv_bd (c : Int) (h0 : 0 ≤ c) (h1 : c < 256) : 0 ≤ dv c ∧ dv c ≤ 99 := by unfold dv; omega
theorem dg_hit (c k : Int) (h0 : 0 ≤ c) (h1 : c < 256) (k0 : 0 ≤ k) (k1 : k < 36) (h : dg k = sm c) : dv c = k := by
  unfold dg sm at h; unfold dv; omega
theorem dg_of (c : Int) (h0 : 0 ≤ c) (h1 : c < 256) (h : dv c < 36) : dg (dv c) = sm c := by
  unfold dv at h ⊢; unfold dg sm; omega
theorem isD_hit (c b k : Int) (h0 : 0 ≤ c) (h1 : c < 256) (b0 : 2 ≤ b) (b1 : b ≤ 36) (k0 : 0 ≤ k) (k1 : k < b) (h : dg k = sm c) : isD c b = true ∧ vl c b = k := by
  have e := dg_hit c k h0 h1 k0 (by omega) h
  have d : isD c b = true := by unfold isD; simp; omega
  exact ⟨d, by unfold vl; rw [if_pos d, e]⟩
theorem isD_miss (c b : Int) (h0 : 0 ≤ c) (h1 : c < 256) (h : ∀ j : Nat, (j : Int) < b → ¬ dg j = sm c) : isD c b = false ∧ vl c b = 0 := by
  have d : isD c b = false := by
    unfold isD
    simp
    intro b0 b1
    have hd := dv_bd c h0 h1
    by_cases hc : dv c < b
    · exfalso
      obtain ⟨n, hn⟩ := Int.eq_ofNat_of_zero_le hd.1
      exact h n (by omega) (by rw [← hn]; exact dg_of c h0 h1 (by omega))
    · omega
  exact ⟨d, by unfold vl; rw [if_neg (by rw [d]; decide)]⟩
theorem isD_unfit (c b : Int) (h : b < 2 ∨ 36 < b) : isD c b = false ∧ vl c b = 0 := by
  have d : isD c b = false := by unfold isD; simp; omega
  exact ⟨d, by unfold vl; rw [if_neg (by rw [d]; decide)]⟩
theorem vl_bd (c b : Int) (h0 : 0 ≤ c) (h1 : c < 256) : 0 ≤ vl c b ∧ vl c b ≤ 35 := by
  unfold vl isD
  have := dv_bd c h0 h1
  split
  · simp at *; omega
  · omega

/-- a text's bytes as numbers -/
def L (s : ByteArray) : List Int := s.data.toList.map fun c => (c.toNat : Int)
theorem L_len (s : ByteArray) : (L s).length = s.size := by simp [L]
theorem L_get (s : ByteArray) (k : Nat) (h : k < s.size) : (L s)[k]'(by rw [L_len]; exact h) = (s[k].toNat : Int) := by
  simp [L]; rfl
theorem L_take (s : ByteArray) (k : Nat) (h : k < s.size) : (L s).take (k + 1) = (L s).take k ++ [(s[k].toNat : Int)] := by
  rw [List.take_succ_eq_append_getElem (by rw [L_len]; exact h), L_get s k h]
theorem L_drop (s : ByteArray) (k : Nat) (h : k < s.size) : (L s).drop k = (s[k].toNat : Int) :: (L s).drop (k + 1) := by
  rw [List.drop_eq_getElem_cons (by rw [L_len]; exact h), L_get s k h]
theorem L_bd (s : ByteArray) (k : Nat) (h : k < s.size) : 0 ≤ (s[k].toNat : Int) ∧ (s[k].toNat : Int) < 256 := by
  have := s[k].toNat_lt; omega

theorem L_extract (s : ByteArray) (a b : Nat) (h : b ≤ s.size) : L (s.extract a b) = ((L s).drop a).take (b - a) := by
  unfold L
  rw [Lib.extract_data]
  rw [← List.map_drop, ← List.map_take]
theorem L_from (s : ByteArray) (a : Nat) : L (s.extract a s.size) = (L s).drop a := by
  rw [L_extract s a s.size (Nat.le_refl _)]
  exact List.take_of_length_le (by rw [List.length_drop, L_len]; exact Nat.le_refl _)
theorem L_tail (s : ByteArray) : L (s.extract 1 s.size) = (L s).tail := by
  rw [L_from]; simp

/-- the number of digits, as long as it may be -/
def num (b : Int) (l : List Int) : Int := l.foldl (fun a c => a * b + vl c b) 0
def allD (b : Int) (l : List Int) : Bool := l.all fun c => isD c b
theorem num_snoc (b : Int) (l : List Int) (c : Int) : num b (l ++ [c]) = num b l * b + vl c b := by simp [num]
theorem allD_snoc (b : Int) (l : List Int) (c : Int) : allD b (l ++ [c]) = (allD b l && isD c b) := by simp [allD]
theorem allD_mid (b : Int) (l m : List Int) (c : Int) (h : isD c b = false) : allD b (l ++ c :: m) = false := by simp [allD, h]
/-- a text of digits read, behind its sign -/
def prsT (neg : Bool) (l : List Int) (b : Int) : Int × Int :=
  if l = [] then (0, 15) else if allD b l = false then (0, 15) else if 4294967296 ≤ num b l then (0, 4) else
  (if neg = true then (4294967296 - num b l) % 4294967296 else num b l, 0)
/-- what Parse answers -/
def prs (l : List Int) (b : Int) : Int × Int :=
  if b < 2 ∨ 36 < b then (0, 1) else if l.head? = some 45 then prsT true l.tail b else prsT false l b
theorem mul_b (n b : Int) (h0 : 0 ≤ n) (h1 : n < 4294967296) (b0 : 2 ≤ b) (b1 : b ≤ 36) : n * 2 ≤ n * b ∧ n * b ≤ n * 36 :=
  ⟨Int.mul_le_mul_of_nonneg_left b0 h0, Int.mul_le_mul_of_nonneg_left b1 h0⟩
theorem mul_ge (m b : Int) (h0 : 4294967296 ≤ m) (b0 : 2 ≤ b) : 4294967296 ≤ m * b := by
  have : m * 2 ≤ m * b := Int.mul_le_mul_of_nonneg_left b0 (by omega)
  omega

/-
  Numbers shown in a base, as plain lists of bytes: the digits, that they are read back as the number, and that unlike numbers have unlike texts. No Go text in sight; bases from 2 to 36.
-/
/-- bytes of numbers -/
def toB (l : List Int) : ByteArray := ⟨(l.map fun x => UInt8.ofNat x.toNat).toArray⟩
theorem toB_L (t : ByteArray) : toB (L t) = t := by
  obtain ⟨⟨l⟩⟩ := t
  simp [toB, L, Function.comp_def]
theorem L_toB (l : List Int) (h : ∀ x ∈ l, 0 ≤ x ∧ x < 256) : L (toB l) = l := by
  simp only [L, toB, List.map_map]
  conv => rhs; rw [← List.map_id l]
  apply List.map_congr_left
  intro x hx
  have := h x hx
  simp [UInt8.toNat_ofNat']
  omega
theorem L_eq (t : ByteArray) (l : List Int) (h : L t = l) : t = toB l := by rw [← h, toB_L]
theorem L_app (s t : ByteArray) : L (s ++ t) = L s ++ L t := by simp [L]

/-- the digits of a number, the highest first -/
def shF (b : Int) : Nat → Int → List Int
  | 0, _ => []
  | f + 1, n => if n < b then [dg n] else shF b f (n / b) ++ [dg (n % b)]
def sh (b n : Int) : List Int := shF b 32 n
theorem shF_lo (b n : Int) (f : Nat) (h : n < b) : shF b (f + 1) n = [dg n] := by simp [shF, h]
theorem shF_hi (b n : Int) (f : Nat) (h : ¬ n < b) : shF b (f + 1) n = shF b f (n / b) ++ [dg (n % b)] := by simp [shF, h]
theorem div_half (n b : Int) (h0 : 0 ≤ n) (b0 : 2 ≤ b) : 0 ≤ n / b ∧ n / b * 2 ≤ n ∧ 0 ≤ n % b ∧ n % b < b := by
  have h1 : n / b * b ≤ n := Int.ediv_mul_le n (by omega)
  have h2 : 0 ≤ n / b := Int.ediv_nonneg h0 (by omega)
  have h3 : n / b * 2 ≤ n / b * b := Int.mul_le_mul_of_nonneg_left b0 h2
  exact ⟨h2, by omega, Int.emod_nonneg n (by omega), Int.emod_lt_of_pos n (by omega)⟩
theorem div_pos (n b : Int) (b0 : 2 ≤ b) (h : ¬ n < b) : 0 < n / b := by
  have : 1 ≤ n / b := Int.le_ediv_of_mul_le (by omega) (by omega)
  omega
theorem dg_isD (b k : Int) (b0 : 2 ≤ b) (b1 : b ≤ 36) (k0 : 0 ≤ k) (k1 : k < b) : isD (dg k) b = true ∧ vl (dg k) b = k ∧ 0 ≤ dg k ∧ dg k < 256 ∧ ¬ dg k = 45 := by
  have e : dv (dg k) = k := by unfold dg dv; omega
  have d : isD (dg k) b = true := by unfold isD; rw [e]; simp; omega
  refine ⟨d, by unfold vl; rw [if_pos d, e], ?_, ?_, ?_⟩ <;> (unfold dg; omega)

theorem shF_len (b : Int) (f : Nat) : ∀ n, (shF b f n).length ≤ f := by
  induction f with
  | zero => intro n; simp [shF]
  | succ f ih =>
    intro n
    have := ih (n / b)
    unfold shF
    split <;> simp <;> omega
theorem toB_size (l : List Int) : (toB l).size = l.length := by simp [toB, ByteArray.size]
theorem toB_cons (x : Int) (l : List Int) : toB [x] ++ toB l = toB (x :: l) := by
  simp [toB, ByteArray.ext_iff]

/-- what is shown: digits of the base, at least one, the first no sign, read back as the number -/
theorem shF_all (b : Int) (b0 : 2 ≤ b) (b1 : b ≤ 36) (f : Nat) : ∀ n : Int, 0 ≤ n → n < 2 ^ f → 0 < f →
    allD b (shF b f n) = true ∧ num b (shF b f n) = n ∧ (∀ x ∈ shF b f n, 0 ≤ x ∧ x < 256 ∧ ¬ x = 45) ∧ shF b f n ≠ [] := by
  induction f with
  | zero => intro n _ _ h; omega
  | succ f ih =>
    intro n h0 h1 _
    by_cases c : n < b
    · rw [shF_lo b n f c]
      obtain ⟨d1, d2, d3, d4, d5⟩ := dg_isD b n b0 b1 h0 c
      refine ⟨by simp [allD, d1], by simp [num, d2], ?_, by simp⟩
      intro x hx
      simp at hx
      subst hx
      exact ⟨d3, d4, d5⟩
    · obtain ⟨q0, q1, r0, r1⟩ := div_half n b h0 b0
      have qp := div_pos n b b0 c
      have hp : (2 : Int) ^ (f + 1) = 2 ^ f * 2 := Int.pow_succ 2 f
      have hf : 0 < f := by
        rcases Nat.eq_zero_or_pos f with h | h
        · subst h; simp at h1; omega
        · exact h
      obtain ⟨i1, i2, i3, i4⟩ := ih (n / b) q0 (by omega) hf
      obtain ⟨d1, d2, d3, d4, d5⟩ := dg_isD b (n % b) b0 b1 r0 r1
      rw [shF_hi b n f c]
      refine ⟨by rw [allD_snoc, i1, d1]; rfl, ?_, ?_, by simp⟩
      · rw [num_snoc, i2, d2]
        exact Int.ediv_mul_add_emod n b
      · intro x hx
        rw [List.mem_append] at hx
        rcases hx with hx | hx
        · exact i3 x hx
        · simp at hx
          subst hx
          exact ⟨d3, d4, d5⟩
theorem sh_all (b n : Int) (b0 : 2 ≤ b) (b1 : b ≤ 36) (h0 : 0 ≤ n) (h1 : n < 4294967296) :
    allD b (sh b n) = true ∧ num b (sh b n) = n ∧ (∀ x ∈ sh b n, 0 ≤ x ∧ x < 256 ∧ ¬ x = 45) ∧ sh b n ≠ [] :=
  shF_all b b0 b1 32 n h0 (by simpa using h1) (by decide)
theorem sh_L (b n : Int) (b0 : 2 ≤ b) (b1 : b ≤ 36) (h0 : 0 ≤ n) (h1 : n < 4294967296) : L (toB (sh b n)) = sh b n :=
  L_toB _ fun x hx => ⟨((sh_all b n b0 b1 h0 h1).2.2.1 x hx).1, ((sh_all b n b0 b1 h0 h1).2.2.1 x hx).2.1⟩
theorem sh_back (b n : Int) (b0 : 2 ≤ b) (b1 : b ≤ 36) (h0 : 0 ≤ n) (h1 : n < 4294967296) : prs (sh b n) b = (n, 0) := by
  obtain ⟨i1, i2, i3, i4⟩ := sh_all b n b0 b1 h0 h1
  have hh : ¬ (sh b n).head? = some 45 := by
    intro h
    have := List.mem_of_mem_head? h
    exact (i3 45 this).2.2 rfl
  unfold prs
  rw [if_neg (by omega), if_neg hh]
  unfold prsT
  rw [if_neg i4, if_neg (by rw [i1]; decide), if_neg (by rw [i2]; omega), i2]
  simp
/-- the sign ahead -/
def sg (b n : Int) : List Int := if n < 2147483648 then sh b n else 45 :: sh b (4294967296 - n)
theorem sg_back (b n : Int) (b0 : 2 ≤ b) (b1 : b ≤ 36) (h0 : 0 ≤ n) (h1 : n < 4294967296) : prs (sg b n) b = (n, 0) := by
  unfold sg
  by_cases c : n < 2147483648
  · rw [if_pos c]; exact sh_back b n b0 b1 h0 h1
  · rw [if_neg c]
    obtain ⟨i1, i2, i3, i4⟩ := sh_all b (4294967296 - n) b0 b1 (by omega) (by omega)
    unfold prs
    rw [if_neg (by omega), if_pos (by simp)]
    unfold prsT
    simp only [List.tail_cons]
    rw [if_neg i4, if_neg (by rw [i1]; decide), if_neg (by rw [i2]; omega), i2]
    simp
    omega
theorem sg_bytes (b n : Int) (b0 : 2 ≤ b) (b1 : b ≤ 36) (h0 : 0 ≤ n) (h1 : n < 4294967296) : L (toB (sg b n)) = sg b n := by
  apply L_toB
  intro x hx
  unfold sg at hx
  by_cases c : n < 2147483648
  · rw [if_pos c] at hx
    have := (sh_all b n b0 b1 h0 h1).2.2.1 x hx
    exact ⟨this.1, this.2.1⟩
  · rw [if_neg c] at hx
    simp at hx
    rcases hx with rfl | hx
    · omega
    · have := (sh_all b (4294967296 - n) b0 b1 (by omega) (by omega)).2.2.1 x hx
      exact ⟨this.1, this.2.1⟩
theorem sh_inj (b n m : Int) (b0 : 2 ≤ b) (b1 : b ≤ 36) (h0 : 0 ≤ n) (h1 : n < 4294967296) (g0 : 0 ≤ m) (g1 : m < 4294967296) : sh b n = sh b m ↔ n = m := by
  constructor
  · intro h
    have e1 := (sh_all b n b0 b1 h0 h1).2.1
    have e2 := (sh_all b m b0 b1 g0 g1).2.1
    rw [h] at e1
    omega
  · intro h; rw [h]

/-
  Names, unit addresses and the bytes of properties, as plain functions of lists of numbers. No Go text in sight.
-/
theorem L_LB (s : ByteArray) : L s = LB s := rfl
theorem toB_nums (l : List Int) : toB l = strOfNums l := rfl

/-- a byte that a name may have -/
def nmC (c : Int) : Bool := decide (33 ≤ c ∧ c ≤ 126 ∧ ¬ (65 ≤ c ∧ c ≤ 90) ∧ ¬ c = 47 ∧ ¬ c = 92 ∧ ¬ c = 58 ∧ ¬ c = 91 ∧ ¬ c = 93 ∧ ¬ c = 64)
def nmF (l : List Int) : Bool := decide (1 ≤ l.length ∧ l.length ≤ 31) && l.all nmC
theorem nm_mid (l m : List Int) (c : Int) (h : nmC c = false) : nmF (l ++ c :: m) = false := by simp [nmF, h]

/-- pieces between bytes d -/
def spl (d : Int) (cur : List Int) : List Int → List (List Int)
  | [] => [cur]
  | c :: r => if c = d then cur :: spl d [] r else spl d (cur ++ [c]) r
theorem spl_skip (d : Int) (p r : List Int) (h : ∀ x ∈ p, ¬ x = d) : ∀ cur, spl d cur (p ++ r) = spl d (cur ++ p) r := by
  induction p with
  | nil => intro cur; simp
  | cons x p ih =>
    intro cur
    rw [List.cons_append, spl, if_neg (h x (by simp)), ih (fun y hy => h y (by simp [hy]))]
    simp
theorem spl_len (d : Int) : ∀ (l cur : List Int), 1 ≤ (spl d cur l).length
  | [], _ => by simp [spl]
  | c :: r, cur => by
    unfold spl
    split
    · simp
    · exact spl_len d r _

/-- a piece of a unit address: 1 to 8 digits of base 16 -/
def pcOk (p : List Int) : Bool := decide (1 ≤ p.length ∧ p.length ≤ 8) && allD 16 p
/-- what ParseUnit answers -/
def punF (l : List Int) : List Int × Int :=
  if (spl 44 [] l).all pcOk = false then ([], 15) else if 4 < (spl 44 [] l).length then ([], 3) else ((spl 44 [] l).map (num 16), 0)
theorem vl16_bd (c : Int) (h : isD c 16 = true) (h0 : 0 ≤ c) (h1 : c < 256) : 0 ≤ vl c 16 ∧ vl c 16 < 16 := by
  unfold vl
  rw [if_pos h]
  unfold isD at h
  have := dv_bd c h0 h1
  simp at h
  omega
theorem num16_lt (p : List Int) (hb : bytesL p) (hD : allD 16 p = true) : 0 ≤ num 16 p ∧ num 16 p < 16 ^ p.length := by
  suffices h : ∀ q : List Int, bytesL q.reverse → allD 16 q.reverse = true → 0 ≤ num 16 q.reverse ∧ num 16 q.reverse < 16 ^ q.length by
    have := h p.reverse (by simpa using hb) (by simpa using hD)
    simpa using this
  intro q
  induction q with
  | nil => intro _ _; simp [num]
  | cons c q ih =>
    intro hb hD
    rw [List.reverse_cons] at hb hD ⊢
    rw [allD_snoc, Bool.and_eq_true] at hD
    have i := ih (fun x hx => hb x (by simp at hx ⊢; exact Or.inl hx)) hD.1
    have hc := hb c (by simp)
    have hv := vl16_bd c hD.2 hc.1 hc.2
    rw [num_snoc, List.length_cons, Int.pow_succ]
    obtain ⟨k, hk⟩ : ∃ k, (16 : Int) ^ q.length = k := ⟨_, rfl⟩
    rw [hk] at i ⊢
    omega
theorem pc_num (p : List Int) (hb : bytesL p) (h : pcOk p = true) : 0 ≤ num 16 p ∧ num 16 p < 4294967296 := by
  simp [pcOk] at h
  have h1 := num16_lt p hb h.2
  have h2 : (16 : Int) ^ p.length ≤ 16 ^ 8 := by
    have := Nat.pow_le_pow_right (n := 16) (by decide) h.1.2
    have e : ((16 ^ p.length : Nat) : Int) ≤ ((16 ^ 8 : Nat) : Int) := by omega
    simpa using e
  omega
/-- such a piece as layer 2 reads it -/
theorem pc_prs (p : List Int) (hb : bytesL p) (h1 : 1 ≤ p.length) (h8 : p.length ≤ 8) (hm : ¬ p.head? = some 45) : prs p 16 = if pcOk p = true then (num 16 p, 0) else (0, 15) := by
  have hne : ¬ p = [] := by intro h; rw [h] at h1; simp at h1
  unfold prs
  rw [if_neg (by omega), if_neg hm]
  unfold prsT
  rw [if_neg hne]
  cases hD : allD 16 p
  · rw [if_pos rfl, if_neg (by simp [pcOk, hD])]
  · have hok : pcOk p = true := by simp [pcOk, hD]; omega
    have := pc_num p hb hok
    rw [if_neg (by decide), if_neg (by omega), if_pos hok]
    simp
theorem pc_minus (p : List Int) (hm : p.head? = some 45) : pcOk p = false := by
  cases p with
  | nil => simp at hm
  | cons c r =>
    simp at hm
    subst hm
    simp [pcOk, allD, isD, dv]

/-- what ShowUnit answers -/
def shoT : List Int → List Int
  | [] => []
  | x :: r => 44 :: (sh 16 x ++ shoT r)
def shoF (l : List Int) : List Int := (shoT l).drop 1
theorem shoT_snoc (l : List Int) (x : Int) : shoT (l ++ [x]) = shoT l ++ 44 :: sh 16 x := by
  induction l with
  | nil => simp [shoT]
  | cons y l ih => simp [shoT, ih]
theorem shoF_one (x : Int) : shoF [x] = sh 16 x := by simp [shoF, shoT]
theorem shoF_snoc (l : List Int) (x : Int) (h : l ≠ []) : shoF (l ++ [x]) = shoF l ++ (44 :: sh 16 x) := by
  cases l with
  | nil => exact absurd rfl h
  | cons y l => simp [shoF, shoT, shoT_snoc]
def cells (l : List Int) : Prop := ∀ x ∈ l, 0 ≤ x ∧ x < 4294967296
theorem shF_len16 (f : Nat) : ∀ (k : Nat) (n : Int), 0 ≤ n → n < 16 ^ (k + 1) → (shF 16 f n).length ≤ k + 1 := by
  induction f with
  | zero => intro k n _ _; simp [shF]
  | succ f ih =>
    intro k n h0 h1
    unfold shF
    split
    · simp
    · rename_i hn
      cases k with
      | zero => simp at h1; omega
      | succ k =>
        have := ih k (n / 16) (by omega) (by rw [Int.pow_succ] at h1; omega)
        simp
        omega
theorem sh16_len (n : Int) (h0 : 0 ≤ n) (h1 : n < 4294967296) : 1 ≤ (sh 16 n).length ∧ (sh 16 n).length ≤ 8 := by
  have h2 := (sh_all 16 n (by omega) (by omega) h0 h1).2.2.2
  have h3 := shF_len16 32 7 n h0 (by omega)
  unfold sh at *
  refine ⟨?_, h3⟩
  cases h : shF 16 32 n with
  | nil => exact absurd h h2
  | cons x r => simp
theorem sh16_not (n x : Int) (h0 : 0 ≤ n) (h1 : n < 4294967296) (hx : x ∈ sh 16 n) : ¬ x = 44 := by
  have h := (sh_all 16 n (by omega) (by omega) h0 h1).1
  unfold allD at h
  rw [List.all_eq_true] at h
  have := h x hx
  intro e
  subst e
  simp [isD, dv] at this
theorem sh16_bytes (n : Int) (h0 : 0 ≤ n) (h1 : n < 4294967296) : bytesL (sh 16 n) := fun x hx =>
  ⟨((sh_all 16 n (by omega) (by omega) h0 h1).2.2.1 x hx).1, ((sh_all 16 n (by omega) (by omega) h0 h1).2.2.1 x hx).2.1⟩
theorem shoT_bytes : ∀ l : List Int, cells l → bytesL (shoT l)
  | [], _ => fun x hx => by simp [shoT] at hx
  | y :: l, h => by
    intro x hx
    simp only [shoT, List.mem_cons, List.mem_append] at hx
    rcases hx with rfl | hx | hx
    · omega
    · exact sh16_bytes y (h y (by simp)).1 (h y (by simp)).2 x hx
    · exact shoT_bytes l (fun z hz => h z (by simp [hz])) x hx
theorem shoT_len : ∀ l : List Int, cells l → (shoT l).length ≤ 9 * l.length
  | [], _ => by simp [shoT]
  | y :: l, h => by
    have h1 := sh16_len y (h y (by simp)).1 (h y (by simp)).2
    have h2 := shoT_len l (fun z hz => h z (by simp [hz]))
    simp only [shoT, List.length_cons, List.length_append]
    omega
theorem shoF_bytes (l : List Int) (h : cells l) : bytesL (shoF l) := fun x hx => shoT_bytes l h x (List.mem_of_mem_drop hx)
theorem spl_sho : ∀ (l : List Int) (cur : List Int), cells l → spl 44 cur (shoT l) = cur :: l.map (sh 16)
  | [], cur, _ => by simp [shoT, spl]
  | y :: l, cur, h => by
    rw [shoT, spl, if_pos rfl, spl_skip 44 (sh 16 y) (shoT l) (fun x hx => sh16_not y x (h y (by simp)).1 (h y (by simp)).2 hx), List.nil_append, spl_sho l (sh 16 y) (fun z hz => h z (by simp [hz]))]
    rfl
theorem spl_shoF (l : List Int) (h : cells l) (hne : l ≠ []) : spl 44 [] (shoF l) = l.map (sh 16) := by
  cases l with
  | nil => exact absurd rfl hne
  | cons y l =>
    have e : shoF (y :: l) = sh 16 y ++ shoT l := by simp [shoF, shoT]
    rw [e, spl_skip 44 (sh 16 y) (shoT l) (fun x hx => sh16_not y x (h y (by simp)).1 (h y (by simp)).2 hx), List.nil_append, spl_sho l (sh 16 y) (fun z hz => h z (by simp [hz]))]
    rfl
theorem sh16_ok (n : Int) (h0 : 0 ≤ n) (h1 : n < 4294967296) : pcOk (sh 16 n) = true ∧ num 16 (sh 16 n) = n := by
  have h := sh_all 16 n (by omega) (by omega) h0 h1
  have hl := sh16_len n h0 h1
  refine ⟨?_, h.2.1⟩
  simp [pcOk, h.1]
  omega
/-- a unit address shown is parsed as itself -/
theorem pun_back (l : List Int) (h : cells l) : punF (shoF l) = if l = [] then ([], 15) else if 4 < l.length then ([], 3) else (l, 0) := by
  by_cases hne : l = []
  · subst hne
    simp [punF, shoF, shoT, spl, pcOk]
  · rw [if_neg hne]
    unfold punF
    rw [spl_shoF l h hne]
    have hall : (l.map (sh 16)).all pcOk = true := by
      rw [List.all_eq_true]
      intro p hp
      simp only [List.mem_map] at hp
      obtain ⟨n, hn, rfl⟩ := hp
      exact (sh16_ok n (h n hn).1 (h n hn).2).1
    rw [hall, if_neg (by decide), List.length_map]
    split
    · rfl
    · rw [List.map_map]
      have : l.map (num 16 ∘ sh 16) = l := by
        conv => rhs; rw [← List.map_id l]
        apply List.map_congr_left
        intro n hn
        exact (sh16_ok n (h n hn).1 (h n hn).2).2
      rw [this]

/-- what EncodeText and Join answer -/
def enTF (l : List Int) : List Int × Int := if l.all (fun c => decide (¬ c = 0)) = false then ([], 15) else if 256 ≤ l.length then ([], 3) else (l ++ [0], 0)
def joiF (ps : List (List Int)) : List Int × Int := if 256 < ps.flatten.length then ([], 3) else (ps.flatten, 0)
/-- what DecodeInt and DecodeText answer -/
def deIF (l : List Int) : Int × List Int × Int := if l.length < 4 then (0, [], 2) else (beV (l.take 4), l.drop 4, 0)
def deTF (l : List Int) : List Int × List Int × Int :=
  match spl 0 [] l with
  | p :: q :: r => (p, l.drop (p.length + 1), 0)
  | _ => ([], [], 2)
/-- what Ints and Texts answer -/
def intL : List Int → List Int
  | a :: b :: c :: d :: r => beV [a, b, c, d] :: intL r
  | _ => []
def intF (l : List Int) : List Int × Int := if l.length % 4 = 0 then (intL l, 0) else ([], 15)
def texL (cur : List Int) : List Int → Option (List (List Int))
  | [] => if cur = [] then some [] else none
  | c :: r => if c = 0 then (texL [] r).map (cur :: ·) else texL (cur ++ [c]) r
def texsF (l : List Int) : List (List Int) × Int := match texL [] l with
  | some ts => (ts, 0)
  | none => ([], 15)
theorem beV4 (n : Int) (h0 : 0 ≤ n) (h1 : n < 4294967296) : beV (beB 4 n) = n := by
  rw [beV_beB]
  exact Int.emod_eq_of_lt h0 (by omega)
theorem int_back : ∀ l : List Int, cells l → intL (l.map (beB 4)).flatten = l
  | [], _ => rfl
  | n :: l, h => by
    have hn := h n (by simp)
    have i := int_back l (fun x hx => h x (by simp [hx]))
    have e : beB 4 n = [n / 256 / 256 / 256 % 256, n / 256 / 256 % 256, n / 256 % 256, n % 256] := by simp [beB]
    have e2 := beV4 n hn.1 hn.2
    rw [e] at e2
    simp only [List.map_cons, List.flatten_cons]
    rw [e]
    show beV [n / 256 / 256 / 256 % 256, n / 256 / 256 % 256, n / 256 % 256, n % 256] :: intL (l.map (beB 4)).flatten = _
    rw [e2, i]
theorem enc_len : ∀ l : List Int, ((l.map (beB 4)).flatten).length = 4 * l.length
  | [] => rfl
  | n :: l => by
    simp only [List.map_cons, List.flatten_cons, List.length_append, beB_len, List.length_cons, enc_len l]
    omega
theorem intF_back (l : List Int) (h : cells l) : intF (l.map (beB 4)).flatten = (l, 0) := by
  unfold intF
  rw [enc_len, if_pos (by omega), int_back l h]
theorem texL_skip (p r : List Int) (h : ∀ x ∈ p, ¬ x = 0) : ∀ cur, texL cur (p ++ r) = texL (cur ++ p) r := by
  induction p with
  | nil => intro cur; simp
  | cons x p ih =>
    intro cur
    rw [List.cons_append, texL, if_neg (h x (by simp)), ih (fun y hy => h y (by simp [hy]))]
    simp
theorem tex_back : ∀ ts : List (List Int), (∀ t ∈ ts, ∀ x ∈ t, ¬ x = 0) → texL [] (ts.map (· ++ [0])).flatten = some ts
  | [], _ => rfl
  | t :: ts, h => by
    simp only [List.map_cons, List.flatten_cons, List.append_assoc]
    rw [texL_skip t _ (h t (by simp)), List.nil_append]
    show texL t (0 :: (ts.map (· ++ [0])).flatten) = _
    rw [texL, if_pos rfl, tex_back ts (fun u hu => h u (by simp [hu]))]
    rfl
theorem texsF_back (ts : List (List Int)) (h : ∀ t ∈ ts, ∀ x ∈ t, ¬ x = 0) : texsF (ts.map (· ++ [0])).flatten = (ts, 0) := by
  unfold texsF
  rw [tex_back ts h]

/-
  Named, EncodeInt, EncodeText of the document's answer for properties.
-/
theorem run_at {w : World} (s : ByteArray) (k : Nat) (h : k < s.size) (hm : s.size ≤ maxLen) : (Instr.index 9 (.string s) (.int .i64 (k : Int))).run Try.prog w = .ok (.int .u8 (s[k].toNat : Int)) w := by
  unfold maxLen at hm
  rw [run_index_string (h := Try.underlying9)]
  simp [h]

theorem run_bad (k : Nat) (hk : k < 6) (w : World) : (Instr.index 9 (.string ⟨#[47, 92, 58, 91, 93, 64]⟩) (.int .i64 (k : Int))).run Try.prog w = .ok (.int .u8 (([47, 92, 58, 91, 93, 64] : List Int).getD k 0)) w := by
  rw [run_at ⟨#[47, 92, 58, 91, 93, 64]⟩ k (show k < 6 from hk) (by decide)]
  have : k = 0 ∨ k = 1 ∨ k = 2 ∨ k = 3 ∨ k = 4 ∨ k = 5 := by omega
  rcases this with rfl | rfl | rfl | rfl | rfl | rfl <;> rfl

theorem enc_at (n : Int) (h0 : 0 ≤ n) (k : Nat) (hk : k ≤ 3) : (beB 4 n).take (3 - k + 1) = (beB 4 n).take (3 - k) ++ [n / 2 ^ (8 * k) % 256] := by
  have e : beB 4 n = [n / 256 / 256 / 256 % 256, n / 256 / 256 % 256, n / 256 % 256, n % 256] := by simp [beB]
  rw [e]
  have : k = 0 ∨ k = 1 ∨ k = 2 ∨ k = 3 := by omega
  rcases this with rfl | rfl | rfl | rfl
  all_goals simp
  all_goals omega

/-
  Place whole of the document's answer, rows of noughts, for layer 22.
-/
theorem made_zero (n : Nat) : (madeCells #[.int .u8 0] n).toList = (List.replicate n (0 : Int)).map (Value.int .u8) := by
  unfold madeCells
  rw [List.map_replicate]
  apply List.ext_getElem
  · simp
  · intro i h1 h2
    simp [Nat.mod_one]
theorem own_zero (n : Nat) (hn : n ≤ maxLen) (w : World) : Own8 w.heap.size (w.alloc (.cells (madeCells #[.int .u8 0] n) 5)) (.slice (some ⟨w.heap.size, 0, none⟩) n n) (List.replicate n 0) := by
  have hs : (madeCells #[.int .u8 0] n).size = n := size_madeCells _ _
  refine ⟨by rw [List.length_map, List.length_replicate]; exact (Nat.mul_one n).symm, .inr ⟨w.heap.size, n, _, by rw [List.length_replicate], Nat.le_refl _, heap_alloc_new w _, by rw [List.length_replicate]; exact Nat.le_refl _, hn, by rw [hs, Nat.mul_one], ?_⟩⟩
  rw [made_zero, List.length_replicate]
  exact List.take_of_length_le (by rw [List.length_map, List.length_replicate, Nat.mul_one]; exact Nat.le_refl _)
theorem mk_zero (N : Int) (n : Nat) (h0 : N = n) (hm : n ≤ 281474976710656) (w : World) : (Instr.makeSlice 26 (.int .i64 N) (.int .i64 N)).run Try.prog w = .ok (.slice (some ⟨w.heap.size, 0, none⟩) n n) (w.alloc (.cells (madeCells #[.int .u8 0] n) 5)) := by
  subst h0
  exact run_make_row' 26 5 (.int .u8 0) 1 Try.underlying26 infoU8 rfl .i64 .i64 n (by omega) (by omega) w

set_option maxHeartbeats 2000000 in
theorem w_rplace22 (W H q x y : Int) (w : World) (q0 : -9223372036854775808 ≤ q) (q1 : q < 9223372036854775808) :
    Calls Try.prog 11 #[.int .i64 W, .int .i64 H, .int .i64 q, .int .i64 x, .int .i64 y] w fun e w' => e = .returned (.tuple #[.int .i64 (plI W H q x y).1, .int .i64 (plI W H q x y).2]) ∧ w' = w := by
  by_cases hs : szI W H = true
  · by_cases x0 : 0 ≤ x
    · by_cases x1 : x < W
      · by_cases y0 : 0 ≤ y
        · by_cases y1 : y < H
          · exact w_rplace22_in W H q x y w q0 q1 hs x0 x1 y0 y1
          · have hp : plI W H q x y = (0, 0) := by
              unfold plI
              rw [if_neg (by rw [decide_eq_false y1]; simp)]
            have cs := w_rsized22 W H
            rw [hs] at cs
            rw [hp]
            have d1 : decide (x < 0) = false := decide_eq_false (by omega)
            have d2 : decide (W ≤ x) = false := decide_eq_false (by omega)
            have d3 : decide (y < 0) = false := decide_eq_false (by omega)
            have d4 : decide (H ≤ y) = true := decide_eq_true (by omega)
            clear hp hs
            go_enter Try.func11, Try.ntmps11
            go_wp2_with (go_at_call 29; refine (cs _).mono ?_; rintro e w1 ⟨rfl, hw⟩; obtain rfl := hw.symm)
            go_ret2
            exact ⟨rfl, rfl⟩
        · have hp : plI W H q x y = (0, 0) := by
            unfold plI
            rw [if_neg (by rw [decide_eq_false y0]; simp)]
          have cs := w_rsized22 W H
          rw [hs] at cs
          rw [hp]
          have d1 : decide (x < 0) = false := decide_eq_false (by omega)
          have d2 : decide (W ≤ x) = false := decide_eq_false (by omega)
          have d3 : decide (y < 0) = true := decide_eq_true (by omega)
          clear hp hs
          go_enter Try.func11, Try.ntmps11
          go_wp2_with (go_at_call 29; refine (cs _).mono ?_; rintro e w1 ⟨rfl, hw⟩; obtain rfl := hw.symm)
          go_ret2
          exact ⟨rfl, rfl⟩
      · have hp : plI W H q x y = (0, 0) := by
          unfold plI
          rw [if_neg (by rw [decide_eq_false x1]; simp)]
        have cs := w_rsized22 W H
        rw [hs] at cs
        rw [hp]
        have d1 : decide (x < 0) = false := decide_eq_false (by omega)
        have d2 : decide (W ≤ x) = true := decide_eq_true (by omega)
        clear hp hs
        go_enter Try.func11, Try.ntmps11
        go_wp2_with (go_at_call 29; refine (cs _).mono ?_; rintro e w1 ⟨rfl, hw⟩; obtain rfl := hw.symm)
        go_ret2
        exact ⟨rfl, rfl⟩
    · have hp : plI W H q x y = (0, 0) := by
        unfold plI
        rw [if_neg (by rw [decide_eq_false x0]; simp)]
      have cs := w_rsized22 W H
      rw [hs] at cs
      rw [hp]
      have d1 : decide (x < 0) = true := decide_eq_true (by omega)
      clear hp hs
      go_enter Try.func11, Try.ntmps11
      go_wp2_with (go_at_call 29; refine (cs _).mono ?_; rintro e w1 ⟨rfl, hw⟩; obtain rfl := hw.symm)
      go_ret2
      exact ⟨rfl, rfl⟩
  · have hs : szI W H = false := by simpa using hs
    have hp : plI W H q x y = (0, 0) := by
      unfold plI
      rw [if_neg (by rw [hs]; simp)]
    have cs := w_rsized22 W H
    rw [hs] at cs
    rw [hp]
    clear hp hs
    go_enter Try.func11, Try.ntmps11
    go_wp2_with (go_at_call 29; refine (cs _).mono ?_; rintro e w1 ⟨rfl, hw⟩; obtain rfl := hw.symm)
    go_ret2
    exact ⟨rfl, rfl⟩

end Go.Proofs.Ythihkfimledccaa
