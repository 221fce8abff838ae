/-
  Index and Cut of bytes at one byte; the first setting of bytes.
-/
import Derived.Test.YtaiimfdcbdfbdaaDoorVa4
import Derived.Test.YtaiimfdcbdfbdaaDoorGen
namespace Go.Proofs.YtaiimfdcbdfbdaaDoor
open Go.ChangeShapes Go.WideShapes Go.ChangeAt Go.RowKit
set_option linter.unusedVariables false
set_option linter.unusedSimpArgs false

theorem va_noend : ∀ (a cur : List Int) (eq : Option Nat) (out : List Stt), (∀ x ∈ a, ¬ x = 0) → ¬ (a = [] ∧ cur = []) → vaX a cur eq out = none
  | [], cur, eq, out, _, h => by
    have h2 : ¬ cur = [] := fun z => h ⟨rfl, z⟩
    simp [vaX, h2]
  | c :: a, cur, eq, out, h, _ => by
    have hc := h c (by simp)
    simp only [vaX, if_neg hc]
    exact va_noend a _ _ out (fun x hx => h x (by simp [hx])) (fun z => by simp at z)
theorem va_nopart (a r : List Int) (out : List Stt) (h : ∀ x ∈ a, ¬ x = 0) (h2 : ∀ x ∈ a, ¬ x = 61) : vaX (a ++ 0 :: r) [] none out = none := by
  rw [va_name a _ _ _ (fun c hc => ⟨h c hc, h2 c hc⟩)]
  simp [vaX]
theorem va_both (n v r : List Int) (out : List Stt) (hn : bytesL n) (hv : bytesL v) (h : ∀ x ∈ n ++ 61 :: v, ¬ x = 0) (h2 : ∀ x ∈ n, ¬ x = 61) : vaX ((n ++ 61 :: v) ++ 0 :: r) [] none out = vaX r [] none (out ++ [(strOfNums n, strOfNums v)]) := by
  have e1 : L (strOfNums n) = n := LB_nums _ hn
  have e2 : L (strOfNums v) = v := LB_nums _ hv
  have := va_rec (strOfNums n) (strOfNums v) r out (fun c hc => by rw [e1] at hc; exact ⟨h c (by simp [hc]), h2 c hc⟩) (fun c hc => by rw [e2] at hc; exact h c (by simp [hc]))
  rw [e1, e2] at this
  simpa using this

set_option maxHeartbeats 1000000 in
set_option maxRecDepth 100000 in
theorem w_pbindex (v vs : Value) (xs : List Int) (c : Int) (w : World) (h : Rd .u8 w v xs) (hB : bytesL xs) (hs : Rd .u8 w vs [c]) (h0 : 0 ≤ c) (h1 : c < 256) :
    Calls Tryd.prog 54 #[v, vs] w fun e w' => ∃ i, e = .returned (.int .i64 i) ∧ AtB xs c i ∧ w' = w := by
  have hl := rd_len hs uB (P := Tryd.prog)
  obtain ⟨a, i1, i2⟩ := rd_idx hs uB zB 0 (by decide) (by simp)
  replace i2 : w.cell? a = some (.int .u8 c) := i2
  have hl1 : ∀ ty w', (Builtin.len_ #[39] ty #[vs]).run Tryd.prog w' = .ok (.int .i64 1) w' := fun ty w' => hl ty w'
  clear hl
  have cB := w_bib v xs c w h hB h0 h1
  go_enter Tryd.func54, Tryd.ntmps54
  go_wp2_with (go_at_call 60; refine cB.mono ?_; rintro e w1 ⟨i, rfl, hi, hw⟩; obtain rfl := hw.symm)
  go_ret
  exact ⟨i, rfl, hi, rfl⟩

/-- what Cut at one byte answers -/
def CutB (w : World) (xs : List Int) (c : Int) (v1 v2 : Value) (f : Bool) : Prop :=
  (f = false ∧ (∀ x ∈ xs, ¬ x = c) ∧ Rd .u8 w v1 xs ∧ v2 = .slice none 0 0) ∨ (f = true ∧ ∃ a b, xs = a ++ c :: b ∧ (∀ x ∈ a, ¬ x = c) ∧ Rd .u8 w v1 a ∧ Rd .u8 w v2 b)

set_option maxHeartbeats 1000000 in
set_option maxRecDepth 100000 in
theorem w_pbcut (v vs : Value) (xs : List Int) (c : Int) (wo w : World) (h : Rd .u8 wo v xs) (hwo : Below wo.heap.size wo w) (hB : bytesL xs) (hs : Rd .u8 w vs [c]) (h0 : 0 ≤ c) (h1 : c < 256) (hz : xs.length ≤ 140737488351232) :
    Calls Tryd.prog 49 #[v, vs] w fun e w' => ∃ v1 v2 f, e = .returned (.tuple #[v1, v2, .bool f]) ∧ CutB wo xs c v1 v2 f ∧ Below w.heap.size w w' := by
  have hl1 : ∀ ty w', (Builtin.len_ #[39] ty #[vs]).run Tryd.prog w' = .ok (.int .i64 1) w' := fun ty w' => rd_len hs uB (P := Tryd.prog) ty w'
  have cI := w_pbindex v vs xs c w (h.below hwo) hB hs h0 h1
  go_enter Tryd.func49, Tryd.ntmps49
  go_wp2_with (go_at_call 54; refine cI.mono ?_; rintro e w1 ⟨i, rfl, hi, hw⟩; obtain rfl := hw.symm; refine Hid.out ?_)
  rcases hi with ⟨rfl, h2⟩ | ⟨k, rfl, h2, h3, h4⟩
  · refine hid ?_
    have H2 := hid h2
    clear h2 cI
    go_wp2_with fail
    go_ret3
    exact ⟨_, _, _, rfl, Or.inl ⟨rfl, H2.out, h, rfl⟩, Below.refl _ _⟩
  · refine hid ?_
    have H3 := hid h3
    have H4 := hid h4
    clear h3 h4 cI
    obtain ⟨va, ra, ja, ja1, _⟩ := rd_cutI h uB zB 0 (k : Int) (by omega) (by omega) (by omega)
    obtain ⟨vb, rb, jb, _, jb1⟩ := rd_cutI h uB zB ((k : Int) + 1) xs.length (by omega) (by omega) (by omega)
    have ja2 := ja1 rfl
    have jb2 := jb1 rfl
    clear ja ja1 jb jb1
    have ea : (xs.drop (0 : Int).toNat).take ((k : Int) - 0).toNat = xs.take k := by simp
    have eb : (xs.drop ((k : Int) + 1).toNat).take ((xs.length : Int) - ((k : Int) + 1)).toNat = xs.drop (k + 1) := by
      rw [show ((k : Int) + 1).toNat = k + 1 by omega]
      exact List.take_of_length_le (by rw [List.length_drop]; omega)
    rw [ea] at ra
    rw [eb] at rb
    clear ea eb
    have hk : k ≤ 140737488351232 := by omega
    go_wp2_with fail
    go_quiet (fail)
    go_wp2_with fail
    go_ret3
    exact ⟨_, _, _, rfl, Or.inr ⟨rfl, xs.take k, xs.drop (k + 1), H3.out, H4.out, ra, rb⟩, below_drewN (Below.refl _ _) _⟩
end Go.Proofs.YtaiimfdcbdfbdaaDoor
