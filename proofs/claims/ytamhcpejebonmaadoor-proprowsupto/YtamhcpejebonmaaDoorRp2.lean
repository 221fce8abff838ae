/-
  EncodeText, DecodeInt, DecodeText, Join, Ints, Texts of the document's answer for properties.
-/
import Derived.Test.YtamhcpejebonmaaDoorRp1
import Derived.Test.YtamhcpejebonmaaDoorRmf
import Derived.Test.YtamhcpejebonmaaDoorSg
namespace Go.Proofs.YtamhcpejebonmaaDoor
open Go.ChangeShapes Go.WideShapes Go.ChangeAt Go.RowKit
set_option linter.unusedVariables false
set_option linter.unusedSimpArgs false

/-- append of one cell onto a row of the call's own -/
theorem wpList_append_one {P : Program} {w : World} {ops : Array Oper} {rest : List Oper} {o : Oper} {a : Act} {Q : Exit → Act → World → Prop} (hgd : o.guard = none) (s x : Operand) (t : TypeId)
    (ho : o.op = .call { callee := .builtin .append, args := #[s, x], argTypes := #[t, t] })
    (base : Nat) (e : TypeId) (i : TypeInfo) (z : Value) (bytes : Nat) (ht : P.underlying t = some (.slice e)) (hi : P.info? e = some i) (hz : i.zero = some z) (hsize : i.size = 1) (hby : i.bytes = bytes) (hz1 : z.cells = #[z])
    (v : Value) (cs : List Value) (hs : a.eval s = v) (hown : w.ownsRow base e 1 v cs.length cs)
    (b : Nat) (c : Value) (hx : a.eval x = .slice (some ⟨b, 0, none⟩) 1 1) (hc : w.cell? ⟨b, 0, none⟩ = some c) (hc1 : c.oneCell' = true)
    (h63 : cs.length + 1 ≤ maxLen) (hbytes : (cs.length + 1) * bytes ≤ 140737488355328) (hbase : base ≤ w.heap.size)
    (h : ∀ v' w', w'.ownsRow base e 1 v' (cs ++ [c]).length (cs ++ [c]) → w.grownBy w' v.ownBlock → wpList P ops Q rest (a.put o.dst v') w') : wpList P ops Q (o :: rest) a w := by
  refine wpList_plain hgd fun _ hK => ?_
  refine wp_append_own w s x t ho base e i z 1 bytes ht hi hz hsize hby (by rw [hz1]; rfl) (by decide) v cs.length _ hs hown ⟨b, 0, none⟩ 1 1 [c] hx (by simp) ?_ ?_ (by simpa using h63) (by simpa using hbytes) hbase ?_
  · intro j u hj
    have : j = 0 := by
      rcases Nat.eq_zero_or_pos j with h | h
      · exact h
      · rw [List.getElem?_eq_none (by simp; omega)] at hj; cases hj
    subst this
    simp at hj
    subst hj
    simpa [Addr.add] using hc
  · intro u hu
    simp at hu
    subst hu
    exact hc1
  · intro v' w' h2 h3 _
    exact hK _ _ (h v' w' (by simpa using h2) h3)

theorem enT_zero (l : List Int) (k : Nat) (h : k < l.length) (hz : l[k] = 0) : enTF l = ([], 15) := by
  unfold enTF
  rw [if_pos]
  rw [Bool.eq_false_iff]
  intro hall
  rw [List.all_eq_true] at hall
  have := hall l[k] (List.getElem_mem h)
  simp [hz] at this
theorem enT_long (l : List Int) (h : l.all (fun c => decide (¬ c = 0)) = true) (hl : 256 ≤ l.length) : enTF l = ([], 3) := by
  unfold enTF
  rw [h, if_neg (by decide), if_pos hl]
theorem enT_ok (l : List Int) (h : l.all (fun c => decide (¬ c = 0)) = true) (hl : ¬ 256 ≤ l.length) : enTF l = (l ++ [0], 0) := by
  unfold enTF
  rw [h, if_neg (by decide), if_neg hl]

set_option maxHeartbeats 1000000 in
set_option maxRecDepth 100000 in
theorem w_renctext (s : ByteArray) (w : World) (hs : s.size ≤ maxLen) :
    Calls Tryd.prog 18 #[.string s] w fun e w' => ∃ v, e = .returned (.tuple #[v, .int .i64 (enTF (L s)).2]) ∧ Rd .u8 w' v (enTF (L s)).1 ∧ Below w.heap.size w w' := by
  have hs2 := hs
  unfold maxLen at hs2
  obtain ⟨i0, hi, hz0, hz1, hz2⟩ := info_parts infoU8
  obtain ⟨A, E, hAE⟩ : ∃ A E, enTF (L s) = (A, E) := ⟨_, _, rfl⟩
  have HAE := hid hAE
  rw [hAE]
  show Calls _ _ _ _ fun e w' => ∃ v, e = .returned (.tuple #[v, .int .i64 E]) ∧ Rd .u8 w' v A ∧ _
  clear hAE
  go_enter Tryd.func18, Tryd.ntmps18
  go_wp2_with fail
  go_loopw [4] (fun I wx => ∃ (k : Nat), (k : Int) ≤ s.size ∧ I = .int .i64 k ∧ Hid (((L s).take k).all (fun c => decide (¬ c = 0)) = true) ∧ Below w.heap.size w wx) (fun I _ => (s.size - intOf I).toNat)
  case atStart => exact ⟨0, by omega, rfl, hid rfl, Below.refl _ _⟩
  case round =>
    obtain ⟨k, hk, rfl, ha, hb⟩ := hrel
    by_cases hlt : (k : Int) < s.size
    · have hkk : k < s.size := by omega
      obtain ⟨c, hc⟩ : ∃ c, (s[k].toNat : Int) = c := ⟨_, rfl⟩
      have hcb := L_bd s k hkk
      rw [hc] at hcb
      obtain ⟨c0, c1⟩ := hcb
      have hrun := run_at (w := wr) s k hkk hs
      rw [hc] at hrun
      by_cases hz : c = 0
      · subst hz
        have e := hid (enT_zero (L s) k (by rw [L_len]; exact hkk) (by rw [L_get s k hkk, hc]))
        clear hc
        go_wp2_with fail
        go_ret2
        obtain ⟨rfl, rfl⟩ := Prod.mk.inj (HAE.out.symm.trans e.out)
        exact ⟨_, rfl, Rd_nil, hb⟩
      · have ha2 : Hid (((L s).take (k + 1)).all (fun c => decide (¬ c = 0)) = true) := by
          show _ = _
          rw [L_take s k hkk, List.all_append, ha.out, hc]
          simp [hz]
        have hzb : (c == 0) = false := by simp [hz]
        clear hc hz
        go_wp2_with fail
        go_roundw
        case rel => exact ⟨k + 1, by omega, by go_num, ha2, hb⟩
        case measure => simp [intOf]; omega
    · have hall := ha.out
      rw [List.take_of_length_le (by rw [L_len]; omega)] at hall
      by_cases hl : (256 : Int) ≤ s.size
      · have e := hid (enT_long (L s) hall (by rw [L_len]; omega))
        clear hall
        go_wp2_with fail
        go_ret2
        obtain ⟨rfl, rfl⟩ := Prod.mk.inj (HAE.out.symm.trans e.out)
        exact ⟨_, rfl, Rd_nil, hb⟩
      · have e := hid (enT_ok (L s) hall (by rw [L_len]; omega))
        clear hall
        have hbs := hb.size
        go_upto_region 10 with (first
          | (at_builtin; refine wpList_append_rds rfl _ _ 32 9 rfl w.heap.size 5 i0 Tryd.underlying32 Tryd.underlying9 hi hz0 hz1 hz2 (.slice none 0 0) [] rfl (World.ownsRow_nil _ _ _ _) s rfl (by unfold maxLen; simp; omega) (by simp; omega) hbs ?_; intro v2 w3 ho3 hg3))
        rw [List.nil_append] at ho3
        have hb3 := below_grown hb hg3 (fun k hk => by cases hk)
        have ho4 := World.ownsRow.alloc ho3 (.cells #[.int .u8 0] 5)
        have hb4 := hb3.alloc hb3.size (.cells #[.int .u8 0] 5)
        obtain ⟨C, hC⟩ : ∃ C, LB s = C := ⟨_, rfl⟩
        have lC : C.length = s.size := by rw [← hC]; exact LB_len s
        rw [hC] at ho4
        go_wp2_with (at_builtin; refine wpList_append_rd (k := .u8) rfl _ _ 32 rfl w.heap.size 5 i0 1 Tryd.underlying32 hi hz0 hz1 hz2 _ C rfl ho4 _ [0] rfl (rd_one _ 0 5) (by unfold maxLen; simp; omega) (by simp; omega) hb4.size ?_; intro v5 w5 ho5 hg5)
        go_ret2
        obtain ⟨rfl, rfl⟩ := Prod.mk.inj (HAE.out.symm.trans e.out)
        refine ⟨v5, rfl, ?_, below_grown hb4 hg5 (fun k hk => (ho4.lt k hk).1)⟩
        rw [L_LB, hC]
        exact (Rd_own ho5).1

set_option maxHeartbeats 1000000 in
set_option maxRecDepth 100000 in
theorem w_rdecint (v : Value) (xs : List Int) (wo w : World) (hwo : Rd .u8 wo v xs) (hbo : Below wo.heap.size wo w) (hB : bytesL xs) (hz : xs.length ≤ 140737488355328) :
    Calls Tryd.prog 26 #[v] w fun e w' => ∃ v1, e = .returned (.tuple #[.int .u32 (deIF xs).1, v1, .int .i64 (deIF xs).2.2]) ∧ Rd .u8 wo v1 (deIF xs).2.1 ∧ Below w.heap.size w w' := by
  have h := hwo.below hbo
  have hlen := rd_len h uB (P := Tryd.prog)
  by_cases h4 : (xs.length : Int) < 4
  · have e : deIF xs = (0, [], 2) := by unfold deIF; rw [if_pos (by omega)]
    rw [e]
    clear e
    go_enter Tryd.func26, Tryd.ntmps26
    go_wp2_with fail
    go_ret3
    exact ⟨_, rfl, Rd_nil, Below.refl _ _⟩
  · have e : deIF xs = (beV (xs.take 4), xs.drop 4, 0) := by unfold deIF; rw [if_neg (by omega)]
    rw [e]
    obtain ⟨ad0, b0, r0, c0, l0, u0, g0⟩ := mem_at h hB 0 (by omega) (by omega)
    obtain ⟨ad1, b1, r1, c1, l1, u1, g1⟩ := mem_at h hB 1 (by omega) (by omega)
    obtain ⟨ad2, b2, r2, c2, l2, u2, g2⟩ := mem_at h hB 2 (by omega) (by omega)
    obtain ⟨ad3, b3, r3, c3, l3, u3, g3⟩ := mem_at h hB 3 (by omega) (by omega)
    have ev : beV (xs.take 4) = ((b0 * 256 + b1) * 256 + b2) * 256 + b3 := by
      have e4 := take_more xs 0 3 (by omega)
      rw [take_more xs 1 2 (by omega), take_more xs 2 1 (by omega), take_one xs 3 (by omega)] at e4
      simp only [Int.toNat_zero, show (1 : Int).toNat = 1 from rfl, show (2 : Int).toNat = 2 from rfl, show (3 : Int).toNat = 3 from rfl] at g0 g1 g2 g3
      rw [g0, g1, g2, g3] at e4
      rw [show xs.take 4 = (xs.drop 0).take (3 + 1) by simp, e4]
      simp [beV]
    obtain ⟨R, hR⟩ : ∃ R, beV (xs.take 4) = R := ⟨_, rfl⟩
    have HR := hid (hR.symm.trans ev)
    obtain ⟨va, ra, _, _, c5⟩ := rd_cutI hwo uB zB 4 xs.length (by omega) (by omega) (by omega)
    rw [show (4 : Int).toNat = 4 from rfl, List.take_of_length_le (by simp; omega)] at ra
    have c5' := c5 rfl
    obtain ⟨D, hD⟩ : ∃ D, xs.drop 4 = D := ⟨_, rfl⟩
    rw [hD] at ra
    show Calls _ _ _ _ fun e w' => ∃ v1, e = .returned (.tuple #[.int .u32 (beV (xs.take 4)), v1, .int .i64 0]) ∧ Rd .u8 wo v1 (xs.drop 4) ∧ _
    rw [hR, hD]
    clear e hD ev hR c5 g0 g1 g2 g3
    go_enter Tryd.func26, Tryd.ntmps26
    go_wp2_with fail
    go_rounds 5
    go_quiet (fail)
    go_wp2_with fail
    go_ret3
    rw [HR.out]
    exact ⟨va, rfl, ra, below_drewN (Below.refl _ _) _⟩

theorem deT_hit (l : List Int) (i : Nat) (h : i < l.length) (hz : l[i] = 0) (inv : spl 0 [] l = spl 0 (l.take i) (l.drop i)) : deTF l = (l.take i, l.drop (i + 1), 0) := by
  have hl := spl_len 0 (l.drop (i + 1)) []
  unfold deTF
  rw [inv, List.drop_eq_getElem_cons h, spl, if_pos hz]
  cases hq : spl 0 [] (l.drop (i + 1)) with
  | nil => rw [hq] at hl; simp at hl
  | cons q r =>
    simp
    omega
theorem deT_miss (l : List Int) (inv : spl 0 [] l = spl 0 l []) : deTF l = ([], [], 2) := by
  unfold deTF
  rw [inv]
  rfl
theorem spl_step (l : List Int) (i : Nat) (h : i < l.length) (hz : ¬ l[i] = 0) (inv : spl 0 [] l = spl 0 (l.take i) (l.drop i)) : spl 0 [] l = spl 0 (l.take (i + 1)) (l.drop (i + 1)) := by
  rw [inv, List.drop_eq_getElem_cons h, spl, if_neg hz, List.take_succ_eq_append_getElem h]

set_option maxHeartbeats 1000000 in
set_option maxRecDepth 100000 in
theorem w_rdectext (v : Value) (xs : List Int) (wo w : World) (hwo : Rd .u8 wo v xs) (hbo : Below wo.heap.size wo w) (hB : bytesL xs) (hz : xs.length ≤ 140737488355328) :
    Calls Tryd.prog 28 #[v] w fun e w' => ∃ v1, e = .returned (.tuple #[.string (strOfNums (deTF xs).1), v1, .int .i64 (deTF xs).2.2]) ∧ Rd .u8 wo v1 (deTF xs).2.1 ∧ Below w.heap.size w w' := by
  have h := hwo.below hbo
  have hlen := rd_len h uB (P := Tryd.prog)
  obtain ⟨A, D, E, hAE⟩ : ∃ A D E, deTF xs = (A, D, E) := ⟨_, _, _, rfl⟩
  have HAE := hid hAE
  rw [hAE]
  show Calls _ _ _ _ fun e w' => ∃ v1, e = .returned (.tuple #[.string (strOfNums A), v1, .int .i64 E]) ∧ Rd .u8 wo v1 D ∧ _
  clear hAE
  go_enter Tryd.func28, Tryd.ntmps28
  go_wp2_with fail
  go_loopw [5] (fun I wx => ∃ (k : Nat), (k : Int) ≤ xs.length ∧ I = .int .i64 k ∧ Hid (spl 0 [] xs = spl 0 (xs.take k) (xs.drop k)) ∧ Below w.heap.size w wx) (fun I _ => (xs.length - intOf I).toNat)
  case atStart => exact ⟨0, by omega, rfl, hid rfl, Below.refl _ _⟩
  case round =>
    obtain ⟨k, hk, rfl, ha, hb⟩ := hrel
    by_cases hlt : (k : Int) < xs.length
    · have hkk : k < xs.length := by omega
      obtain ⟨ad, c, r1, c1, l1, u1, g1⟩ := mem_at (h.below hb) hB k (by omega) hlt
      have hg : Hid (xs[k] = c) := by
        show _ = _
        rw [Int.toNat_natCast, List.getD_eq_getElem?_getD, List.getElem?_eq_getElem hkk] at g1
        simpa using g1
      clear g1
      by_cases hc : c = 0
      · subst hc
        have e := hid (deT_hit xs k hkk hg.out ha.out)
        obtain ⟨va, ra, _, c2, _⟩ := rd_cutI (h.below hb) uB zB 0 k (by omega) (by omega) (by omega)
        have c2' := c2 rfl
        rw [show ((k : Int) - 0).toNat = k by omega, Int.toNat_zero, List.drop_zero] at ra
        obtain ⟨vb, rb, _, _, c3⟩ := rd_cutI hwo uB zB (k + 1) xs.length (by omega) (by omega) (by omega)
        have c3' := c3 rfl
        rw [show ((k : Int) + 1).toNat = k + 1 by omega, List.take_of_length_le (by simp; omega)] at rb
        have cs := fun n => rd_strT (ra.below (below_drewN (Below.refl _ wr) n))
        obtain ⟨T, hT⟩ : ∃ T, strOfNums (xs.take k) = T := ⟨_, rfl⟩
        rw [hT] at cs
        have HT := hid hT
        clear hT c2 c3
        go_wp2_with fail
        go_quiet (fail)
        go_wp2_with fail
        go_ret3
        obtain ⟨rfl, hq⟩ := Prod.mk.inj (HAE.out.symm.trans e.out)
        obtain ⟨rfl, rfl⟩ := Prod.mk.inj hq
        rw [HT.out]
        exact ⟨vb, rfl, rb, below_drewN hb _⟩
      · have ha2 : Hid (spl 0 [] xs = spl 0 (xs.take (k + 1)) (xs.drop (k + 1))) := spl_step xs k hkk (by rw [hg.out]; exact hc) ha.out
        have hcb : (c == 0) = false := by simp [hc]
        clear hc
        go_wp2_with fail
        go_roundw
        case rel => exact ⟨k + 1, by omega, by go_num, ha2, hb⟩
        case measure => simp [intOf]; omega
    · have e : Hid (deTF xs = ([], [], 2)) := by
        show _ = _
        have := ha.out
        rw [List.take_of_length_le (by omega), List.drop_of_length_le (by omega)] at this
        exact deT_miss xs this
      go_wp2_with fail
      go_ret3
      obtain ⟨rfl, hq⟩ := Prod.mk.inj (HAE.out.symm.trans e.out)
      obtain ⟨rfl, rfl⟩ := Prod.mk.inj hq
      exact ⟨_, rfl, Rd_nil, hb⟩
end Go.Proofs.YtamhcpejebonmaaDoor
