/-
  The first setting of bytes, as the landed package vars cuts it off.
-/
import Derived.Test.YtaiimfdcbdfbdaaDoorVa5
import Derived.Test.YtaiimfdcbdfbdaaDoorRv8
namespace Go.Proofs.YtaiimfdcbdfbdaaDoor
open Go.ChangeShapes Go.WideShapes Go.ChangeAt Go.RowKit
set_option linter.unusedVariables false
set_option linter.unusedSimpArgs false

theorem set2q {w : World} {b : Nat} {z0 z1 : Value} {T : TypeId} (h : Stands w b #[z0, z1] T) (a0 a1 : Value) :
    Stands ((w.setCell ⟨b, 0, none⟩ a0).setCell ⟨b, 1, none⟩ a1) b #[a0, a1] T ∧ ∀ Q : World → Prop, (∀ u u', Kept T u u' → Q u → Q u') → Q w → Q ((w.setCell ⟨b, 0, none⟩ a0).setCell ⟨b, 1, none⟩ a1) := by
  have h0 := h.set 0 a0
  have h1 := h0.set 1 a1
  exact ⟨by simpa only [List.setIfInBounds_toArray, List.set_cons_zero, List.set_cons_succ] using h1, fun Q hQ q => hQ _ _ (set_kept h0 1 a1) (hQ _ _ (set_kept h 0 a0) q)⟩

/-- what the first setting of bytes is -/
def CutS (w : World) (xs : List Int) (N V : ByteArray) (v2 : Value) (f : Bool) : Prop :=
  N.size ≤ xs.length ∧ V.size ≤ xs.length ∧ ((f = false ∧ (¬ xs = [] → ∀ out, vaX xs [] none out = none)) ∨ (f = true ∧ ∃ r, (∀ out, vaX xs [] none out = vaX r [] none (out ++ [(N, V)])) ∧ Rd .u8 w v2 r ∧ r.length < xs.length ∧ bytesL r))

set_option maxHeartbeats 4000000 in
set_option maxRecDepth 100000 in
theorem w_pcut19 (v : Value) (xs : List Int) (wo w : World) (h : Rd .u8 wo v xs) (hwo : Below wo.heap.size wo w) (hB : bytesL xs) (hz : xs.length ≤ 140737488351232) :
    Calls Tryd.prog 39 #[v] w fun e w' => ∃ N V v2 f, e = .returned (.tuple #[.agg #[.string N, .string V], v2, .bool f]) ∧ CutS wo xs N V v2 f ∧ Below w.heap.size w w' := by
  have s0 := stands_new w #[.string ⟨#[]⟩, .string ⟨#[]⟩] 46
  have bw := box_below w (.cells #[.string ⟨#[]⟩, .string ⟨#[]⟩] 46)
  obtain ⟨qa, qq, rfl⟩ := rd_slice h
  go_enter Tryd.func39, Tryd.ntmps39
  go_upto_region 1 with fail
  generalize w.alloc (.cells #[.string ⟨#[]⟩, .string ⟨#[]⟩] 46) = W0 at s0 bw ⊢
  have hw0 := below_trans hwo bw
  go_wp2_with (go_at_call 49; refine (w_pbcut _ _ xs 0 wo _ h (below_trans hw0 (box_below W0 _)) hB (rd_one W0 0 5) (by decide) (by decide) hz).mono ?_; rintro e w1 ⟨v1, v2, f, rfl, hc, b1'⟩; have b1 := below_trans (box_below W0 _) b1'; refine Hid.out ?_)
  have B1 := below_trans hw0 b1
  rcases hc with ⟨rfl, c1, c2, rfl⟩ | ⟨rfl, a, b, rfl, c1, c2, c3⟩
  · obtain ⟨ra, rq, rfl⟩ := rd_slice c2
    have HC := hid c1
    refine hid ?_
    clear c1
    go_upto_region 3 with (first | (go_at_call 49; refine (w_pbcut _ _ xs 61 wo _ c2 (below_trans B1 (box_below w1 _)) hB (rd_one w1 61 5) (by decide) (by decide) hz).mono ?_; rintro e w2 ⟨v3, v4, f2, rfl, hc2, b2'⟩; have b2 := below_trans b1 (below_trans (box_below w1 _) b2'); clear hc2) | fail)
    have SZ := s0.below b2
    have zz0 := SZ.cell 0 _ rfl
    have zz1 := SZ.cell 1 _ rfl
    have zf := SZ.free
    go_wp2_with fail
    obtain ⟨g1, g2⟩ := set2q (s0.below b2) (.string ⟨#[]⟩) (.string ⟨#[]⟩)
    have J7 := below_set (below_set (below_trans bw b2) w.heap.size 0 (.string ⟨#[]⟩) (Nat.le_refl _)) w.heap.size 1 (.string ⟨#[]⟩) (Nat.le_refl _)
    (try simp only [Exit.inBlock, Exit.then])
    refine bodyPost_ret (res_row3 rfl _ _ w.heap.size 46 _ (0, 0) _ rfl g1 Tryd.underlying46 rfl (show _ = some 2 by kernel_rfl)) rfl ?_
    exact ⟨⟨#[]⟩, ⟨#[]⟩, _, _, rfl, ⟨Nat.zero_le _, Nat.zero_le _, Or.inl ⟨rfl, fun hn out => va_noend xs [] none out HC.out (fun z => hn z.1)⟩⟩, J7⟩
  · obtain ⟨ra, rq, rfl⟩ := rd_slice c2
    have hBa : bytesL a := fun x hx => hB x (by simp [hx])
    have hBb : bytesL b := fun x hx => hB x (by simp [hx])
    have hza : a.length ≤ 140737488351232 := by simp at hz; omega
    have HC := hid c1
    have HL : Hid ((a ++ 0 :: b).length = a.length + b.length + 1) := by show _ = _; simp; omega
    refine hid ?_
    clear c1
    go_upto_region 3 with (first | (go_at_call 49; refine (w_pbcut _ _ a 61 wo _ c2 (below_trans B1 (box_below w1 _)) hBa (rd_one w1 61 5) (by decide) (by decide) hza).mono ?_; rintro e w2 ⟨v3, v4, f2, rfl, hc2, b2'⟩; have b2 := below_trans b1 (below_trans (box_below w1 _) b2')) | fail)
    have SZ := s0.below b2
    have zz0 := SZ.cell 0 _ rfl
    have zz1 := SZ.cell 1 _ rfl
    have zf := SZ.free
    rcases hc2 with ⟨rfl, d1, d2, rfl⟩ | ⟨rfl, n, u, rfl, d1, d2, d3⟩
    · have HD := hid d1
      clear d1
      go_wp2_with fail
      obtain ⟨g1, g2⟩ := set2q (s0.below b2) (.string ⟨#[]⟩) (.string ⟨#[]⟩)
      have J7 := below_set (below_set (below_trans bw b2) w.heap.size 0 (.string ⟨#[]⟩) (Nat.le_refl _)) w.heap.size 1 (.string ⟨#[]⟩) (Nat.le_refl _)
      (try simp only [Exit.inBlock, Exit.then])
      refine bodyPost_ret (res_row3 rfl _ _ w.heap.size 46 _ (0, 0) _ rfl g1 Tryd.underlying46 rfl (show _ = some 2 by kernel_rfl)) rfl ?_
      exact ⟨⟨#[]⟩, ⟨#[]⟩, _, _, rfl, ⟨Nat.zero_le _, Nat.zero_le _, Or.inl ⟨rfl, fun hn out => va_nopart a b out HC.out HD.out⟩⟩, J7⟩
    · have HD := hid d1
      clear d1
      have B2 := below_trans hw0 b2
      have k1 := rd_str (P := Tryd.prog) (d2.below B2) Tryd.underlying39 Tryd.underlying5 Tryd.underlying9
      have k2 := rd_str (P := Tryd.prog) (d3.below B2) Tryd.underlying39 Tryd.underlying5 Tryd.underlying9
      have HN := hid (va_both n u b)
      have hBn : bytesL n := fun x hx => hBa x (by simp [hx])
      have hBu : bytesL u := fun x hx => hBa x (by simp [hx])
      have s1 := nums_size n
      have s2 := nums_size u
      obtain ⟨N, hN⟩ : ∃ N, strOfNums n = N := ⟨_, rfl⟩
      obtain ⟨V, hV⟩ : ∃ N, strOfNums u = N := ⟨_, rfl⟩
      rw [hN, hV] at HN
      rw [hN] at k1 s1
      rw [hV] at k2 s2
      clear hN hV
      go_wp2_with fail
      obtain ⟨g1, g2⟩ := set2q (s0.below b2) (.string N) (.string V)
      have J7 := below_set (below_set (below_trans bw b2) w.heap.size 0 (.string N) (Nat.le_refl _)) w.heap.size 1 (.string V) (Nat.le_refl _)
      (try simp only [Exit.inBlock, Exit.then])
      refine bodyPost_ret (res_row3 rfl _ _ w.heap.size 46 _ (0, 0) _ rfl g1 Tryd.underlying46 rfl (show _ = some 2 by kernel_rfl)) rfl ?_
      exact ⟨_, _, _, _, rfl, ⟨by rw [HL.out, s1]; simp; omega, by rw [HL.out, s2]; simp; omega, Or.inr ⟨rfl, b, fun out => HN.out out hBn hBu HC.out HD.out, c3, by rw [HL.out]; omega, hBb⟩⟩, J7⟩
end Go.Proofs.YtaiimfdcbdfbdaaDoor
