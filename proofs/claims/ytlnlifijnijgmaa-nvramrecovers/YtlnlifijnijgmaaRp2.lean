/-
  EncodeText, DecodeInt, DecodeText, Join, Ints, Texts of the document's answer for properties.
-/
import Derived.Test.YtlnlifijnijgmaaRp1
import Derived.Test.YtlnlifijnijgmaaRmf
import Derived.Test.YtlnlifijnijgmaaSg
namespace Go.Proofs.Ytlnlifijnijgmaa
open Go.ChangeShapes Go.WideShapes Go.ChangeAt Go.RowKit
set_option linter.unusedVariables false
set_option linter.unusedSimpArgs false

/-- append of one cell onto a row of the call's own -/
theorem wpList_append_one {P : Program} {w : World} {ops : Array Oper} {rest : List Oper} {o : Oper} {a : Act} {Q : Exit → Act → World → Prop} (hgd : o.guard = none) (s x : Operand) (t : TypeId)
    (ho : o.op = .call { callee := .builtin .append, args := #[s, x], argTypes := #[t, t] })
    (base : Nat) (e : TypeId) (i : TypeInfo) (z : Value) (bytes : Nat) (ht : P.underlying t = some (.slice e)) (hi : P.info? e = some i) (hz : i.zero = some z) (hsize : i.size = 1) (hby : i.bytes = bytes) (hz1 : z.cells = #[z])
    (v : Value) (cs : List Value) (hs : a.eval s = v) (hown : w.ownsRow base e 1 v cs.length cs)
    (b : Nat) (c : Value) (hx : a.eval x = .slice (some ⟨b, 0, none⟩) 1 1) (hc : w.cell? ⟨b, 0, none⟩ = some c) (hc1 : c.oneCell' = true)
    (h63 : cs.length + 1 ≤ maxLen) (hbytes : (cs.length + 1) * bytes ≤ 140737488355328) (hbase : base ≤ w.heap.size)
    (h : ∀ v' w', w'.ownsRow base e 1 v' (cs ++ [c]).length (cs ++ [c]) → w.grownBy w' v.ownBlock → wpList P ops Q rest (a.put o.dst v') w') : wpList P ops Q (o :: rest) a w := by
  refine wpList_plain hgd fun _ hK => ?_
  refine wp_append_own w s x t ho base e i z 1 bytes ht hi hz hsize hby (by rw [hz1]; rfl) (by decide) v cs.length _ hs hown ⟨b, 0, none⟩ 1 1 [c] hx (by simp) ?_ ?_ (by simpa using h63) (by simpa using hbytes) hbase ?_
  · intro j u hj
    have : j = 0 := by
      rcases Nat.eq_zero_or_pos j with h | h
      · exact h
      · rw [List.getElem?_eq_none (by simp; omega)] at hj; cases hj
    subst this
    simp at hj
    subst hj
    simpa [Addr.add] using hc
  · intro u hu
    simp at hu
    subst hu
    exact hc1
  · intro v' w' h2 h3 _
    exact hK _ _ (h v' w' (by simpa using h2) h3)

theorem enT_zero (l : List Int) (k : Nat) (h : k < l.length) (hz : l[k] = 0) : enTF l = ([], 15) := by
  unfold enTF
  rw [if_pos]
  rw [Bool.eq_false_iff]
  intro hall
  rw [List.all_eq_true] at hall
  have := hall l[k] (List.getElem_mem h)
  simp [hz] at this
theorem enT_long (l : List Int) (h : l.all (fun c => decide (¬ c = 0)) = true) (hl : 256 ≤ l.length) : enTF l = ([], 3) := by
  unfold enTF
  rw [h, if_neg (by decide), if_pos hl]
theorem enT_ok (l : List Int) (h : l.all (fun c => decide (¬ c = 0)) = true) (hl : ¬ 256 ≤ l.length) : enTF l = (l ++ [0], 0) := by
  unfold enTF
  rw [h, if_neg (by decide), if_neg hl]

set_option maxHeartbeats 1000000 in
set_option maxRecDepth 100000 in
theorem w_rdecint (v : Value) (xs : List Int) (wo w : World) (hwo : Rd .u8 wo v xs) (hbo : Below wo.heap.size wo w) (hB : bytesL xs) (hz : xs.length ≤ 140737488355328) :
    Calls Try.prog 34 #[v] w fun e w' => ∃ v1, e = .returned (.tuple #[.int .u32 (deIF xs).1, v1, .int .i64 (deIF xs).2.2]) ∧ Rd .u8 wo v1 (deIF xs).2.1 ∧ Below w.heap.size w w' := by
  have h := hwo.below hbo
  have hlen := rd_len h uB (P := Try.prog)
  by_cases h4 : (xs.length : Int) < 4
  · have e : deIF xs = (0, [], 2) := by unfold deIF; rw [if_pos (by omega)]
    rw [e]
    clear e
    go_enter Try.func34, Try.ntmps34
    go_wp2_with fail
    go_ret3
    exact ⟨_, rfl, Rd_nil, Below.refl _ _⟩
  · have e : deIF xs = (beV (xs.take 4), xs.drop 4, 0) := by unfold deIF; rw [if_neg (by omega)]
    rw [e]
    obtain ⟨ad0, b0, r0, c0, l0, u0, g0⟩ := mem_at h hB 0 (by omega) (by omega)
    obtain ⟨ad1, b1, r1, c1, l1, u1, g1⟩ := mem_at h hB 1 (by omega) (by omega)
    obtain ⟨ad2, b2, r2, c2, l2, u2, g2⟩ := mem_at h hB 2 (by omega) (by omega)
    obtain ⟨ad3, b3, r3, c3, l3, u3, g3⟩ := mem_at h hB 3 (by omega) (by omega)
    have ev : beV (xs.take 4) = ((b0 * 256 + b1) * 256 + b2) * 256 + b3 := by
      have e4 := take_more xs 0 3 (by omega)
      rw [take_more xs 1 2 (by omega), take_more xs 2 1 (by omega), take_one xs 3 (by omega)] at e4
      simp only [Int.toNat_zero, show (1 : Int).toNat = 1 from rfl, show (2 : Int).toNat = 2 from rfl, show (3 : Int).toNat = 3 from rfl] at g0 g1 g2 g3
      rw [g0, g1, g2, g3] at e4
      rw [show xs.take 4 = (xs.drop 0).take (3 + 1) by simp, e4]
      simp [beV]
    obtain ⟨R, hR⟩ : ∃ R, beV (xs.take 4) = R := ⟨_, rfl⟩
    have HR := hid (hR.symm.trans ev)
    obtain ⟨va, ra, _, _, c5⟩ := rd_cutI hwo uB zB 4 xs.length (by omega) (by omega) (by omega)
    rw [show (4 : Int).toNat = 4 from rfl, List.take_of_length_le (by simp; omega)] at ra
    have c5' := c5 rfl
    obtain ⟨D, hD⟩ : ∃ D, xs.drop 4 = D := ⟨_, rfl⟩
    rw [hD] at ra
    show Calls _ _ _ _ fun e w' => ∃ v1, e = .returned (.tuple #[.int .u32 (beV (xs.take 4)), v1, .int .i64 0]) ∧ Rd .u8 wo v1 (xs.drop 4) ∧ _
    rw [hR, hD]
    clear e hD ev hR c5 g0 g1 g2 g3
    go_enter Try.func34, Try.ntmps34
    go_wp2_with fail
    go_rounds 5
    go_quiet (fail)
    go_wp2_with fail
    go_ret3
    rw [HR.out]
    exact ⟨va, rfl, ra, below_drewN (Below.refl _ _) _⟩

theorem deT_hit (l : List Int) (i : Nat) (h : i < l.length) (hz : l[i] = 0) (inv : spl 0 [] l = spl 0 (l.take i) (l.drop i)) : deTF l = (l.take i, l.drop (i + 1), 0) := by
  have hl := spl_len 0 (l.drop (i + 1)) []
  unfold deTF
  rw [inv, List.drop_eq_getElem_cons h, spl, if_pos hz]
  cases hq : spl 0 [] (l.drop (i + 1)) with
  | nil => rw [hq] at hl; simp at hl
  | cons q r =>
    simp
    omega
theorem deT_miss (l : List Int) (inv : spl 0 [] l = spl 0 l []) : deTF l = ([], [], 2) := by
  unfold deTF
  rw [inv]
  rfl
theorem spl_step (l : List Int) (i : Nat) (h : i < l.length) (hz : ¬ l[i] = 0) (inv : spl 0 [] l = spl 0 (l.take i) (l.drop i)) : spl 0 [] l = spl 0 (l.take (i + 1)) (l.drop (i + 1)) := by
  rw [inv, List.drop_eq_getElem_cons h, spl, if_neg hz, List.take_succ_eq_append_getElem h]
end Go.Proofs.Ytlnlifijnijgmaa
