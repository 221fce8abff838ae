/-
  Append onto a row of the call's own, also where it is greater than half of what fits: a row grows by a quarter there. No Go text in sight.
-/
import Derived.Test.YtfmpeminfcehaaaOw2
namespace Go.Proofs.Ytfmpeminfcehaaa
open Go.ChangeShapes Go.WideShapes Go.ChangeAt Go.RowKit
set_option linter.unusedVariables false
set_option linter.unusedSimpArgs false

theorem cap_quarter {need old : Nat} (h : old < need) : Builtin.nextslicecap need old ≤ need + need / 4 + 512 := by
  unfold Builtin.nextslicecap
  split
  · omega
  · split
    · omega
    · rw [growBy_four]
      repeat' split
      all_goals omega
theorem grow_fits {need old bytes : Nat} (h : old < need) (hs : bytes ≤ 4096) (hb : need * bytes ≤ 190000000000000) : Builtin.nextslicecap need old * bytes ≤ 281474976710656 := by
  have h1 : Builtin.nextslicecap need old * bytes ≤ (need + need / 4 + 512) * bytes := Nat.mul_le_mul_right _ (cap_quarter h)
  have h2 : need / 4 * bytes ≤ need * bytes / 4 := by
    rw [Nat.le_div_iff_mul_le (by decide), Nat.mul_right_comm]
    exact Nat.mul_le_mul_right _ (Nat.div_mul_le_self _ _)
  rw [Nat.add_mul, Nat.add_mul] at h1
  have h3 : 512 * bytes ≤ 512 * 4096 := Nat.mul_le_mul_left _ hs
  omega
/-- what a row that was laid anew owns -/
theorem own_anew {w : World} {base n m cap : Nat} {e : TypeId} {sz : Nat} {z : Value} {xs news : List Value} (hx : xs.length = n * sz) (hl : news.length = m * sz) (hz : z.cells.size = sz) (hc : n + m ≤ cap) (hm : cap ≤ maxLen) (hb : base ≤ w.heap.size) (row : Option Nat) :
    (w.drew.alloc (.cells (xs.toArray ++ news.toArray ++ Builtin.zeroCells z.cells (cap - (n + m))) e)).ownsRow base e sz (.slice (some ⟨w.heap.size, 0, none⟩) (n + m) cap) (n + m) (xs ++ news) ∧ w.grownBy (w.drew.alloc (.cells (xs.toArray ++ news.toArray ++ Builtin.zeroCells z.cells (cap - (n + m))) e)) row := by
  have hlen : (xs ++ news).length = (n + m) * sz := by rw [List.length_append, hx, hl, Nat.add_mul]
  refine ⟨⟨hlen, Or.inr ⟨w.heap.size, cap, _, rfl, hb, heap_alloc_new w.drew _, hc, hm, ?_, ?_⟩⟩, rfl, rfl, rfl, by simp, fun k hk _ => (box_below w.drew _).block k hk⟩
  · rw [Array.size_append, Array.size_append, size_zeroCells, hz, List.size_toArray, List.size_toArray, hx, hl, ← Nat.add_mul, ← Nat.add_mul]
    congr 1
    omega
  · rw [Array.toList_append, Array.toList_append, ← hlen]
    exact List.take_left
theorem run_append_big {P : Program} {w : World} (base : Nat) (t ty e : TypeId) (i : TypeInfo) (z : Value) (sz bytes : Nat) (ht : P.underlying t = some (.slice e)) (hi : P.info? e = some i) (hz : i.zero = some z) (hsize : i.size = sz) (hby : i.bytes = bytes) (hzs : z.cells.size = sz) (hsz : 0 < sz)
    (v : Value) (n : Nat) (xs : List Value) (hown : w.ownsRow base e sz v n xs)
    (a : Addr) (m c : Nat) (news : List Value) (hl : news.length = m * sz) (hnews : ∀ j u, news[j]? = some u → w.cell? (a.add j) = some u) (h1 : ∀ u ∈ news, u.oneCell' = true)
    (hs : bytes ≤ 4096) (h63 : n + m ≤ maxLen) (hbytes : (n + m) * bytes ≤ 190000000000000) (hbase : base ≤ w.heap.size) :
    ∃ v' w', (Builtin.append_ #[t, t] ty #[v, .slice (some a) m c]).run P w = .ok v' w' ∧ w'.ownsRow base e sz v' (n + m) (xs ++ news) ∧ w.grownBy w' v.ownBlock := by
  by_cases hsm : (n + m) * bytes ≤ 140737488355328
  · obtain ⟨v', w', r1, r2, r3, _⟩ := run_append_own (P := P) w base t ty e i z sz bytes ht hi hz hsize hby hzs hsz v n xs hown a m c news hl hnews h1 h63 hsm hbase
    exact ⟨v', w', r1, r2, r3⟩
  · have hpos : 0 < n + m := by
      rcases Nat.eq_zero_or_pos (n + m) with h0 | h0
      · rw [h0] at hsm; omega
      · exact h0
    have h64 : n + m ≤ 9223372036854775807 := by unfold maxLen at h63; omega
    subst hsize hby
    rcases hown with ⟨hx, ⟨rfl, rfl⟩ | ⟨g, cap, cur, rfl, hbg, hg, hnc, hcm, hcs, htk⟩⟩
    · obtain rfl : xs = [] := List.eq_nil_of_length_eq_zero (by simpa using hx)
      have r := run_append_nil (P := P) w t ty e i z ht hi hz a m c news hl hnews (by omega) (by omega) (by rw [Nat.zero_add] at hbytes; omega)
      have o := own_anew (w := w) (e := e) (base := base) (cap := grownCap w (0 + m) 0 e) (xs := []) (n := 0) (by simp) hl hzs (grownCap_ge w (0 + m) 0 e) (grownCap_le_maxLen w (0 + m) 0 e h63) hbase (Value.slice none 0 0).ownBlock
      simp only [Nat.zero_add, List.nil_append, Array.empty_append] at o ⊢
      exact ⟨_, _, r, o.1, o.2⟩
    · by_cases hroom : n + m ≤ cap
      · have hfit : n * i.size + news.length ≤ cur.size := by rw [hl, hcs, ← Nat.add_mul]; exact Nat.mul_le_mul_right _ hroom
        have r := run_append_room (P := P) w t ty e i ht hi g n cap cur hg a m c news hl hnews h1 hroom hfit
        refine ⟨_, _, r, ⟨by rw [List.length_append, hx, hl, Nat.add_mul], Or.inr ⟨g, cap, _, rfl, hbg, setRow_heap w g cur _ e _ hg, hroom, hcm, ?_, ?_⟩⟩, rfl, rfl, rfl, by simp, fun k _ hk => setRow_other w g k _ (fun q => hk (by simp [Value.ownBlock, q]))⟩
        · rw [List.size_toArray, List.length_append, List.length_append, List.length_take, List.length_drop, Array.length_toList]
          omega
        · have e1 : (xs ++ news).length = (n + m) * i.size := by rw [List.length_append, hx, hl, Nat.add_mul]
          rw [htk, ← e1]
          exact List.take_left
      · have hc : ∀ j u, xs[j]? = some u → w.cell? ((⟨g, 0, none⟩ : Addr).add j) = some u := World.ownsRow.cells (base := base) (e := e) (size := i.size) (n := n) (v := .slice (some ⟨g, 0, none⟩) n cap) ⟨hx, Or.inr ⟨g, cap, cur, rfl, hbg, hg, hnc, hcm, hcs, htk⟩⟩ (g := g) rfl
        have r := run_append_grow (P := P) w t ty e i z ht hi hz ⟨g, 0, none⟩ n cap xs hx hc a m c news hl hnews (by omega) (by omega) (grow_fits (by omega) hs hbytes)
        have o := own_anew (w := w) (e := e) (base := base) (cap := grownCap w (n + m) cap e) hx hl hzs (grownCap_ge w (n + m) cap e) (grownCap_le_maxLen w (n + m) cap e h63) hbase (Value.slice (some ⟨g, 0, none⟩) n cap).ownBlock
        exact ⟨_, _, r, o.1, o.2⟩
/-- append of a slice of rows onto a row of the call's own -/
theorem wp_append_rowsB {P : Program} {w : World} {o : Oper} {a : Act} {K : Act → World → Prop} {Q : Exit → Act → World → Prop} (s x : Operand) (t : TypeId)
    (ho : o.op = .call { callee := .builtin .append, args := #[s, x], argTypes := #[t, t] })
    (base : Nat) (e : TypeId) (i : TypeInfo) (z : Value) (sz bytes : Nat) (ht : P.underlying t = some (.slice e)) (hi : P.info? e = some i) (hz : i.zero = some z) (hsize : i.size = sz) (hby : i.bytes = bytes) (hzs : z.cells.size = sz) (hsz : 0 < sz ∧ bytes ≤ 4096)
    (v : Value) (n : Nat) (cs : List Value) (hs : a.eval s = v) (hown : w.ownsRow base e sz v n cs)
    (vx : Value) (rows : List (List Value)) (hx : a.eval x = vx) (hr : SlC sz w vx rows) (h1 : ∀ r ∈ rows, ∀ u ∈ r, u.oneCell' = true)
    (h63 : n + rows.length ≤ maxLen) (hbytes : (n + rows.length) * bytes ≤ 190000000000000) (hbase : base ≤ w.heap.size)
    (h : ∀ v' w', w'.ownsRow base e sz v' (n + rows.length) (cs ++ rows.flatten) → w.grownBy w' v.ownBlock → K (a.put o.dst v') w') : o.wp P a w K Q := by
  by_cases hsm : (n + rows.length) * bytes ≤ 140737488355328
  · exact wp_append_rows s x t ho base e i z sz bytes ht hi hz hsize hby hzs hsz.1 v n cs hs hown vx rows hx hr h1 h63 hsm hbase h
  · rcases hr with ⟨ao, cap, rfl, hn, rfl⟩ | ⟨b, off, cap, rfl, h0, hc1, hc2, hc⟩
    · cases ao with
      | none =>
        obtain rfl := hn rfl
        have hrun := run_append_owned_none (P := P) (w := w) base t o.type e i sz ht hi v n cs hown
        unfold Oper.wp
        simp [execOp, ho, resolve, invoke, builtin, hs, hx, hrun, Result.andThen]
        exact h v w (by simpa using hown) ⟨rfl, rfl, rfl, Nat.le_refl _, fun _ _ _ => rfl⟩
      | some ad =>
        obtain ⟨v', w', r1, r2, r3⟩ := run_append_big (P := P) (w := w) base t o.type e i z sz bytes ht hi hz hsize hby hzs hsz.1 v n cs hown ad 0 cap [] (by simp) (by simp) (by simp) hsz.2 (by simpa using h63) (by simpa using hbytes) hbase
        unfold Oper.wp
        simp [execOp, ho, resolve, invoke, builtin, hs, hx, r1, Result.andThen]
        exact h v' w' (by simpa using r2) r3
    · have hlen : ∀ r ∈ rows, r.length = sz := by
        intro r hr
        obtain ⟨k, hk, rfl⟩ := List.getElem_of_mem hr
        have := (hc k hk).1
        rwa [List.getD_eq_getElem?_getD, List.getElem?_eq_getElem hk] at this
      obtain ⟨v', w', r1, r2, r3⟩ := run_append_big (P := P) (w := w) base t o.type e i z sz bytes ht hi hz hsize hby hzs hsz.1 v n cs hown ⟨b, off, none⟩ rows.length cap rows.flatten (flat_len rows sz hlen) (by
        intro j u hj
        have hjl : j < rows.length * sz := by
          rw [← flat_len rows sz hlen]
          rcases Nat.lt_or_ge j rows.flatten.length with g | g
          · exact g
          · rw [List.getElem?_eq_none g] at hj; cases hj
        have hq : j / sz < rows.length := (Nat.div_lt_iff_lt_mul hsz.1).2 hjl
        have hm := Nat.mod_lt j hsz.1
        have e1 := flat_get rows sz (j / sz) (j % sz) hlen hq hm
        have e2 : j / sz * sz + j % sz = j := by rw [Nat.mul_comm]; exact Nat.div_add_mod j sz
        rw [e2, hj] at e1
        have e3 := (hc (j / sz) hq).2 (j % sz) hm
        rw [← e1, Nat.add_assoc, e2] at e3
        by_cases hz : j = 0
        · subst hz; simpa [Addr.add] using e3
        · simpa [Addr.add, hz] using e3) (fun u hu => by
        rw [List.mem_flatten] at hu
        obtain ⟨r, hr, hu⟩ := hu
        exact h1 r hr u hu) hsz.2 h63 hbytes hbase
      unfold Oper.wp
      simp [execOp, ho, resolve, invoke, builtin, hs, hx, r1, Result.andThen]
      exact h v' w' r2 r3
theorem wpList_append_rowsB {P : Program} {w : World} {ops : Array Oper} {rest : List Oper} {o : Oper} {a : Act} {Q : Exit → Act → World → Prop} (hgd : o.guard = none) (s x : Operand) (t : TypeId)
    (ho : o.op = .call { callee := .builtin .append, args := #[s, x], argTypes := #[t, t] })
    (base : Nat) (e : TypeId) (i : TypeInfo) (z : Value) (sz bytes : Nat) (ht : P.underlying t = some (.slice e)) (hi : P.info? e = some i) (hz : i.zero = some z) (hsize : i.size = sz) (hby : i.bytes = bytes) (hzs : z.cells.size = sz) (hsz : 0 < sz ∧ bytes ≤ 4096)
    (v : Value) (n : Nat) (cs : List Value) (hs : a.eval s = v) (hown : w.ownsRow base e sz v n cs)
    (vx : Value) (rows : List (List Value)) (hx : a.eval x = vx) (hr : SlC sz w vx rows) (h1 : ∀ r ∈ rows, ∀ u ∈ r, u.oneCell' = true)
    (h63 : n + rows.length ≤ maxLen) (hbytes : (n + rows.length) * bytes ≤ 190000000000000) (hbase : base ≤ w.heap.size)
    (h : ∀ v' w', w'.ownsRow base e sz v' (n + rows.length) (cs ++ rows.flatten) → w.grownBy w' v.ownBlock → wpList P ops Q rest (a.put o.dst v') w') : wpList P ops Q (o :: rest) a w :=
  wpList_plain hgd fun _ hK => wp_append_rowsB s x t ho base e i z sz bytes ht hi hz hsize hby hzs hsz v n cs hs hown vx rows hx hr h1 h63 hbytes hbase fun v' w' h2 h3 => hK _ _ (h v' w' h2 h3)
end Go.Proofs.Ytfmpeminfcehaaa
