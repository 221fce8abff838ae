/-
  The header of a program as plain functions of lists: its sum, how it is made and checked. No Go text in sight.
-/
import Derived.Test.YtfnjebmjaokalaaPmm
namespace Go.Proofs.Ytfnjebmjaokalaa
set_option linter.unusedVariables false
set_option linter.unusedSimpArgs false

def smF : List Int → Int
  | [] => 0
  | a :: l => a + smF l
def sumF (l : List Int) : Int := smF l % 65536
theorem sm_app : ∀ (a b : List Int), smF (a ++ b) = smF a + smF b
  | [], b => by simp [smF]
  | x :: a, b => by simp only [List.cons_append, smF, sm_app a b]; omega
theorem sum_snoc (l : List Int) (x : Int) : sumF (l ++ [x]) = (sumF l + x) % 65536 := by
  simp only [sumF, sm_app, smF]; omega
theorem sum_bd (l : List Int) : 0 ≤ sumF l ∧ sumF l < 65536 := by unfold sumF; omega
theorem sm_set : ∀ (l : List Int) (i : Nat) (y : Int) (h : i < l.length), smF (l.set i y) = smF l - l[i] + y
  | x :: l, 0, y, h => by simp only [List.set_cons_zero, smF, List.getElem_cons_zero]; omega
  | x :: l, i + 1, y, h => by
    simp only [List.set_cons_succ, smF, List.getElem_cons_succ, sm_set l i y (by simpa using h)]; omega
/-- the eight bytes ahead of a body -/
def mkF (wide : Bool) : Int := if wide then 241 else 253
def hdF (body : List Int) (wide : Bool) : List Int := [mkF wide, 8, sumF body / 256, sumF body % 256] ++ beB 4 (8 + body.length)
def makF (body : List Int) (wide : Bool) : List Int × Int := if 8184 < body.length then ([], 3) else (hdF body wide ++ body, 0)
/-- the length that bytes tell, and whether they are a program -/
def szF (b : List Int) : Int := beV ((b.drop 4).take 4)
def bdF (b : List Int) : List Int := (b.drop 8).take (szF b - 8).toNat
def chkB (b : List Int) : Bool :=
  decide (8 ≤ b.length ∧ b.length ≤ 8192) && decide ((b.getD 0 0 = 241 ∨ b.getD 0 0 = 253) ∧ b.getD 1 0 = 8) && decide (8 ≤ szF b ∧ szF b ≤ b.length) && decide (beV ((b.drop 2).take 2) = sumF (bdF b))
def chkF (b : List Int) : List Int × Bool × Int := if chkB b then (bdF b, decide (b.getD 0 0 = 241), 0) else ([], false, 17)

theorem beB4 (n : Int) : beB 4 n = [n / 256 / 256 / 256 % 256, n / 256 / 256 % 256, n / 256 % 256, n % 256] := by simp [beB]
theorem hd_len (body : List Int) (wide : Bool) : (hdF body wide).length = 8 := by simp [hdF, beB4]
theorem hd_bytes (body : List Int) (wide : Bool) : bytesL (hdF body wide) := by
  have h := sum_bd body
  intro x hx
  simp only [hdF, beB4, List.cons_append, List.nil_append, List.mem_cons, List.not_mem_nil, or_false] at hx
  have hm : mkF wide = 241 ∨ mkF wide = 253 := by cases wide <;> simp [mkF]
  omega
theorem eight (b : List Int) (h : 8 ≤ b.length) : ∃ b0 b1 b2 b3 b4 b5 b6 b7 r, b = b0 :: b1 :: b2 :: b3 :: b4 :: b5 :: b6 :: b7 :: r := by
  match b, h with
  | b0 :: b1 :: b2 :: b3 :: b4 :: b5 :: b6 :: b7 :: r, _ => exact ⟨b0, b1, b2, b3, b4, b5, b6, b7, r, rfl⟩
theorem sz8 (b0 b1 b2 b3 b4 b5 b6 b7 : Int) (r : List Int) : szF (b0 :: b1 :: b2 :: b3 :: b4 :: b5 :: b6 :: b7 :: r) = ((b4 * 256 + b5) * 256 + b6) * 256 + b7 := by
  simp [szF, beV]
theorem sz_bd (b : List Int) (hb : bytesL b) : 0 ≤ szF b ∧ szF b < 4294967296 := by
  unfold szF
  match h : (b.drop 4).take 4 with
  | [] => simp [beV]
  | [a] => have := hb a (List.mem_of_mem_drop (List.mem_of_mem_take (by rw [h]; simp))); simp [beV]; omega
  | [a, c] =>
    have h1 := hb a (List.mem_of_mem_drop (List.mem_of_mem_take (by rw [h]; simp)))
    have h2 := hb c (List.mem_of_mem_drop (List.mem_of_mem_take (by rw [h]; simp)))
    simp [beV]; omega
  | [a, c, d] =>
    have h1 := hb a (List.mem_of_mem_drop (List.mem_of_mem_take (by rw [h]; simp)))
    have h2 := hb c (List.mem_of_mem_drop (List.mem_of_mem_take (by rw [h]; simp)))
    have h3 := hb d (List.mem_of_mem_drop (List.mem_of_mem_take (by rw [h]; simp)))
    simp [beV]; omega
  | [a, c, d, e] =>
    have h1 := hb a (List.mem_of_mem_drop (List.mem_of_mem_take (by rw [h]; simp)))
    have h2 := hb c (List.mem_of_mem_drop (List.mem_of_mem_take (by rw [h]; simp)))
    have h3 := hb d (List.mem_of_mem_drop (List.mem_of_mem_take (by rw [h]; simp)))
    have h4 := hb e (List.mem_of_mem_drop (List.mem_of_mem_take (by rw [h]; simp)))
    simp [beV]; omega
  | a :: c :: d :: e :: f :: l => have := congrArg List.length h; simp at this; omega
theorem bd_bytes (b : List Int) (hb : bytesL b) : bytesL (bdF b) := bytes_take (bytes_drop hb _) _
theorem mak_bytes (body : List Int) (wide : Bool) (hb : bytesL body) : bytesL (makF body wide).1 := by
  unfold makF
  split
  · intro x hx; simp at hx
  · exact bytes_app (hd_bytes body wide) hb
theorem chk_bytes (b : List Int) (hb : bytesL b) : bytesL (chkF b).1 := by
  unfold chkF
  split
  · exact bd_bytes b hb
  · intro x hx; simp at hx
/-- a program is what is made of its body -/
theorem chk_made (b : List Int) (hb : bytesL b) (h8 : 8 ≤ b.length) (hl : b.length ≤ 8192) (s8 : 8 ≤ szF b) (sl : szF b ≤ b.length) :
    (hdF (bdF b) (decide (b.getD 0 0 = 241)) ++ bdF b = b.take (szF b).toNat) ↔ chkB b = true := by
  obtain ⟨b0, b1, b2, b3, b4, b5, b6, b7, r, rfl⟩ := eight b h8
  have e := sz8 b0 b1 b2 b3 b4 b5 b6 b7 r
  have q4 := hb b4 (by simp)
  have q5 := hb b5 (by simp)
  have q6 := hb b6 (by simp)
  have q7 := hb b7 (by simp)
  have q3 := hb b3 (by simp)
  have q2 := hb b2 (by simp)
  have ht : (b0 :: b1 :: b2 :: b3 :: b4 :: b5 :: b6 :: b7 :: r).take (szF (b0 :: b1 :: b2 :: b3 :: b4 :: b5 :: b6 :: b7 :: r)).toNat = b0 :: b1 :: b2 :: b3 :: b4 :: b5 :: b6 :: b7 :: bdF (b0 :: b1 :: b2 :: b3 :: b4 :: b5 :: b6 :: b7 :: r) := by
    obtain ⟨n, hn⟩ : ∃ n, (szF (b0 :: b1 :: b2 :: b3 :: b4 :: b5 :: b6 :: b7 :: r)).toNat = n + 8 := ⟨(szF (b0 :: b1 :: b2 :: b3 :: b4 :: b5 :: b6 :: b7 :: r)).toNat - 8, by omega⟩
    have hn2 : (szF (b0 :: b1 :: b2 :: b3 :: b4 :: b5 :: b6 :: b7 :: r) - 8).toNat = n := by omega
    unfold bdF
    rw [hn, hn2]
    simp
  have hbl : ((bdF (b0 :: b1 :: b2 :: b3 :: b4 :: b5 :: b6 :: b7 :: r)).length : Int) = szF (b0 :: b1 :: b2 :: b3 :: b4 :: b5 :: b6 :: b7 :: r) - 8 := by
    simp only [bdF, List.length_take, List.length_drop, List.length_cons] at *
    omega
  rw [ht]
  have hs := sum_bd (bdF (b0 :: b1 :: b2 :: b3 :: b4 :: b5 :: b6 :: b7 :: r))
  have hck : chkB (b0 :: b1 :: b2 :: b3 :: b4 :: b5 :: b6 :: b7 :: r) = decide (((b0 = 241 ∨ b0 = 253) ∧ b1 = 8) ∧ b2 * 256 + b3 = sumF (bdF (b0 :: b1 :: b2 :: b3 :: b4 :: b5 :: b6 :: b7 :: r))) := by
    unfold chkB
    rw [decide_eq_true (show 8 ≤ _ ∧ _ from ⟨h8, hl⟩), decide_eq_true (show 8 ≤ szF _ ∧ _ from ⟨s8, sl⟩)]
    have e2 : beV (((b0 :: b1 :: b2 :: b3 :: b4 :: b5 :: b6 :: b7 :: r).drop 2).take 2) = b2 * 256 + b3 := by simp [beV]
    rw [e2]
    simp
  rw [hck]
  generalize bdF (b0 :: b1 :: b2 :: b3 :: b4 :: b5 :: b6 :: b7 :: r) = B at *
  rw [e] at hbl
  have e4 : beB 4 (8 + (B.length : Int)) = [b4, b5, b6, b7] := by
    rw [beB4, hbl]
    simp only [List.cons.injEq, and_true]
    omega
  simp only [hdF, e4, List.cons_append, List.nil_append, List.cons.injEq, and_true, decide_eq_true_eq, List.getD_cons_zero]
  have hm : mkF (decide (b0 = 241)) = b0 ↔ (b0 = 241 ∨ b0 = 253) := by
    by_cases h : b0 = 241
    · simp [mkF, h]
    · simp [mkF, h]; omega
  constructor
  · rintro ⟨h1, h2, h3, h4⟩
    exact ⟨⟨hm.1 h1, h2.symm⟩, by omega⟩
  · rintro ⟨⟨h1, h2⟩, h3⟩
    exact ⟨hm.2 h1, h2.symm, by omega, by omega⟩
theorem sz_made (body more : List Int) (wide : Bool) (hl : body.length ≤ 8184) : szF (hdF body wide ++ body ++ more) = 8 + body.length := by
  simp only [hdF, beB4, List.cons_append, List.nil_append, sz8]
  omega
theorem bd_made (body more : List Int) (wide : Bool) (hl : body.length ≤ 8184) : bdF (hdF body wide ++ body ++ more) = body := by
  have h := sz_made body more wide hl
  unfold bdF
  rw [h, show ((8 : Int) + body.length - 8).toNat = body.length by omega, List.append_assoc, List.drop_left' (hd_len body wide), List.take_left' rfl]
/-- the body of a program that was made is had again, whatever stands behind -/
theorem back_law (body more : List Int) (wide : Bool) (hb : bytesL body) (hl : body.length ≤ 8184) (hm : more.length + body.length ≤ 8184) : chkF (hdF body wide ++ body ++ more) = (body, wide, 0) := by
  have hs := sz_made body more wide hl
  have hd := bd_made body more wide hl
  have hL : (hdF body wide ++ body ++ more).length = 8 + body.length + more.length := by simp only [List.length_append, hd_len]
  have h0 : (hdF body wide ++ body ++ more).getD 0 0 = mkF wide := by simp [hdF]
  have h1 : (hdF body wide ++ body ++ more).getD 1 0 = 8 := by simp [hdF]
  have h2 : beV (((hdF body wide ++ body ++ more).drop 2).take 2) = sumF body := by
    have := sum_bd body
    simp [hdF, beV]; omega
  have hmk : mkF wide = 241 ∨ mkF wide = 253 := by cases wide <;> simp [mkF]
  have hc : chkB (hdF body wide ++ body ++ more) = true := by
    unfold chkB
    rw [hs, hd, hL, h0, h1, h2]
    simp [hmk]
    omega
  unfold chkF
  rw [hc, hd, h0]
  cases wide <;> simp [mkF]
/-- one byte of the body, or of the sum, is another one -/
theorem tell_law (body : List Int) (wide : Bool) (hl : body.length ≤ 8184) (hb : bytesL body) (k : Nat) (y : Int) (hk : k = 2 ∨ k = 3 ∨ (8 ≤ k ∧ k < 8 + body.length)) (y0 : 0 ≤ y) (y1 : y < 256)
    (hy : ¬ y = (hdF body wide ++ body).getD k 0) : chkF ((hdF body wide ++ body).set k y) = ([], false, 17) := by
  have hs := sum_bd body
  have hc : chkB ((hdF body wide ++ body).set k y) = false := by
    unfold chkB
    rw [Bool.and_eq_false_iff]
    right
    rw [decide_eq_false_iff_not]
    have e : hdF body wide ++ body = mkF wide :: 8 :: (sumF body / 256) :: (sumF body % 256) :: ((8 + (body.length : Int)) / 256 / 256 / 256 % 256) :: ((8 + (body.length : Int)) / 256 / 256 % 256) :: ((8 + (body.length : Int)) / 256 % 256) :: ((8 + (body.length : Int)) % 256) :: body := by simp [hdF, beB4]
    rw [e] at hy ⊢
    have hz : ∀ (a b : Int) (l : List Int), bdF (mkF wide :: 8 :: a :: b :: ((8 + (body.length : Int)) / 256 / 256 / 256 % 256) :: ((8 + (body.length : Int)) / 256 / 256 % 256) :: ((8 + (body.length : Int)) / 256 % 256) :: ((8 + (body.length : Int)) % 256) :: l) = l.take body.length := by
      intro a b l
      unfold bdF
      rw [sz8, show (((((8 + (body.length : Int)) / 256 / 256 / 256 % 256) * 256 + ((8 + (body.length : Int)) / 256 / 256 % 256)) * 256 + ((8 + (body.length : Int)) / 256 % 256)) * 256 + ((8 + (body.length : Int)) % 256) - 8).toNat = body.length by omega]
      rfl
    rcases hk with rfl | rfl | ⟨hk, hk2⟩
    · simp only [List.set_cons_succ, List.set_cons_zero, List.getD_cons_succ, List.getD_cons_zero] at hy ⊢
      rw [hz, List.take_of_length_le (Nat.le_refl _)]
      simp [beV]
      omega
    · simp only [List.set_cons_succ, List.set_cons_zero, List.getD_cons_succ, List.getD_cons_zero] at hy ⊢
      rw [hz, List.take_of_length_le (Nat.le_refl _)]
      simp [beV]
      omega
    · obtain ⟨j, rfl⟩ : ∃ j, k = j + 8 := ⟨k - 8, by omega⟩
      have hj : j < body.length := by omega
      simp only [List.set_cons_succ, List.getD_cons_succ] at hy ⊢
      rw [hz, List.take_of_length_le (show (body.set j y).length ≤ body.length by rw [List.length_set]; exact Nat.le_refl _)]
      rw [List.getD_eq_getElem?_getD, List.getElem?_eq_getElem hj] at hy
      have hq := hb _ (List.getElem_mem hj)
      simp only [Option.getD_some] at hy
      simp only [sumF, sm_set body j y hj] at hs ⊢
      simp [beV]
      omega
  unfold chkF
  rw [hc]
  rfl
end Go.Proofs.Ytfnjebmjaokalaa
