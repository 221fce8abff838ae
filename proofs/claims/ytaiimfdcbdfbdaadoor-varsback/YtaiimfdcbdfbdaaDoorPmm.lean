/-
  A memory of bytes, as plain functions of lists. No Go text in sight.
-/
import Derived.Test.YtaiimfdcbdfbdaaDoorSb
namespace Go.Proofs.YtaiimfdcbdfbdaaDoor
set_option linter.unusedVariables false
set_option linter.unusedSimpArgs false

/-- a stretch lies in a memory of L bytes -/
def inF (L a n : Int) : Bool := decide (a ≤ L ∧ n ≤ L - a)
/-- what is wrong with a number's address and size -/
def wrongF (L a s : Int) : Int := if ¬ (s = 1 ∨ s = 2 ∨ s = 4) then 1 else if ¬ a % s = 0 then 8 else if inF L a s = false then 9 else 0
/-- bytes as a number, the highest first; a number as bytes -/
def beV (l : List Int) : Int := l.foldl (fun v b => v * 256 + b) 0
def beB : Nat → Int → List Int
  | 0, _ => []
  | n + 1, v => beB n (v / 256) ++ [v % 256]
def fetF (m : List Int) (a s : Int) : Int × Int := if wrongF m.length a s = 0 then (beV ((m.drop a.toNat).take s.toNat), 0) else (0, wrongF m.length a s)
def stoF (m : List Int) (a s v : Int) : List Int × Int := if wrongF m.length a s = 0 then (m.take a.toNat ++ beB s.toNat v ++ m.drop (a.toNat + s.toNat), 0) else ([], wrongF m.length a s)
def texF (m : List Int) (a n : Int) : List Int × Int := if inF m.length a n = true then ((m.drop a.toNat).take n.toNat, 0) else ([], 9)
def putF (m : List Int) (a : Int) (s : List Int) : List Int × Int := if inF m.length a s.length = true then (m.take a.toNat ++ s ++ m.drop (a.toNat + s.length), 0) else ([], 9)
def movF (m : List Int) (f t n : Int) : List Int × Int := if inF m.length f n = true ∧ inF m.length t n = true then putF m t ((m.drop f.toNat).take n.toNat) else ([], 9)
def filF (m : List Int) (a n v : Int) : List Int × Int := if inF m.length a n = true then (m.take a.toNat ++ List.replicate n.toNat (v % 256) ++ m.drop (a.toNat + n.toNat), 0) else ([], 9)
def cmpL : List Int → List Int → Int
  | x :: xs, y :: ys => if y < x then 1 else if x < y then 4294967295 else cmpL xs ys
  | _, _ => 0
def cmpF (m : List Int) (a b n : Int) : Int × Int := if inF m.length a n = true ∧ inF m.length b n = true then (cmpL ((m.drop a.toNat).take n.toNat) ((m.drop b.toNat).take n.toNat), 0) else (0, 9)
def allAt (L : Int) : Int := (L + 3) / 4 * 4
def allF (m : List Int) (n : Int) : List Int × Int × Int :=
  if (4096 : Int) < m.length then ([], 0, 10) else if 4096 - allAt m.length < n then ([], 0, 10) else (m ++ List.replicate (allAt m.length + n - m.length).toNat 0, allAt m.length, 0)

theorem wrong_ok {L a s : Int} (h : wrongF L a s = 0) : (s = 1 ∨ s = 2 ∨ s = 4) ∧ a % s = 0 ∧ a ≤ L ∧ s ≤ L - a := by
  unfold wrongF at h
  by_cases h1 : s = 1 ∨ s = 2 ∨ s = 4
  · rw [if_neg (fun h => h h1)] at h
    by_cases h2 : a % s = 0
    · rw [if_neg (fun h => h h2)] at h
      by_cases h3 : inF L a s = false
      · rw [if_pos h3] at h; omega
      · simp [inF] at h3
        exact ⟨h1, h2, h3.1, h3.2⟩
    · rw [if_pos h2] at h; omega
  · rw [if_pos h1] at h; omega
theorem bytes_take {xs : List Int} (h : bytesL xs) (n : Nat) : bytesL (xs.take n) := fun x hx => h x (List.mem_of_mem_take hx)
theorem bytes_drop {xs : List Int} (h : bytesL xs) (n : Nat) : bytesL (xs.drop n) := fun x hx => h x (List.mem_of_mem_drop hx)
theorem bytes_app {xs ys : List Int} (h : bytesL xs) (g : bytesL ys) : bytesL (xs ++ ys) := fun x hx => (List.mem_append.1 hx).elim (h x) (g x)
theorem beB_len : ∀ (n : Nat) (v : Int), (beB n v).length = n
  | 0, _ => rfl
  | n + 1, v => by simp [beB, beB_len n]
theorem beB_bytes : ∀ (n : Nat) (v : Int), bytesL (beB n v)
  | 0, _ => fun x hx => by simp [beB] at hx
  | n + 1, v => by
    intro x hx
    simp only [beB, List.mem_append, List.mem_singleton] at hx
    rcases hx with hx | rfl
    · exact beB_bytes n _ x hx
    · omega
theorem beV_snoc (l : List Int) (b : Int) : beV (l ++ [b]) = beV l * 256 + b := by simp [beV]
/-- there and back -/
theorem beV_beB : ∀ (n : Nat) (v : Int), beV (beB n v) = v % 256 ^ n
  | 0, v => by simp [beB, beV]
  | n + 1, v => by
    rw [beB, beV_snoc, beV_beB n]
    have e : (256 : Int) ^ (n + 1) = 256 * 256 ^ n := by rw [Int.pow_succ, Int.mul_comm]
    rw [e]
    have hk : (0 : Int) < 256 ^ n := Int.pow_pos (by omega)
    obtain ⟨k, hk2⟩ : ∃ k, (256 : Int) ^ n = k := ⟨_, rfl⟩
    rw [hk2] at hk ⊢
    have h1 := Int.emod_add_mul_ediv (v / 256) k
    have h2 := Int.emod_nonneg (v / 256) (show k ≠ 0 by omega)
    have h3 := Int.emod_lt_of_pos (v / 256) hk
    have hv : v = (v / 256 % k * 256 + v % 256) + 256 * k * (v / 256 / k) := by
      rw [Int.mul_assoc]
      omega
    have h4 : 0 ≤ v % 256 ∧ v % 256 < 256 := by omega
    obtain ⟨u, hu⟩ : ∃ u, v / 256 % k = u := ⟨_, rfl⟩
    obtain ⟨t, ht⟩ : ∃ t, v / 256 / k = t := ⟨_, rfl⟩
    obtain ⟨r, hr⟩ : ∃ r, v % 256 = r := ⟨_, rfl⟩
    rw [hu, ht, hr] at hv
    rw [hu] at h2 h3 ⊢
    rw [hr] at h4 ⊢
    rw [hv, Int.add_mul_emod_self_left, Int.emod_eq_of_lt (by omega) (by omega)]
theorem sto_bytes {m : List Int} (h : bytesL m) (a s v : Int) : bytesL (stoF m a s v).1 := by
  unfold stoF
  split
  · exact bytes_app (bytes_app (bytes_take h _) (beB_bytes _ _)) (bytes_drop h _)
  · intro x hx; simp at hx
theorem tex_bytes {m : List Int} (h : bytesL m) (a n : Int) : bytesL (texF m a n).1 := by
  unfold texF
  split
  · exact bytes_take (bytes_drop h _) _
  · intro x hx; simp at hx
theorem put_bytes {m s : List Int} (h : bytesL m) (g : bytesL s) (a : Int) : bytesL (putF m a s).1 := by
  unfold putF
  split
  · exact bytes_app (bytes_app (bytes_take h _) g) (bytes_drop h _)
  · intro x hx; simp at hx
theorem mov_bytes {m : List Int} (h : bytesL m) (f t n : Int) : bytesL (movF m f t n).1 := by
  unfold movF
  split
  · exact put_bytes h (bytes_take (bytes_drop h _) _) _
  · intro x hx; simp at hx
theorem fil_bytes {m : List Int} (h : bytesL m) (a n v : Int) : bytesL (filF m a n v).1 := by
  unfold filF
  split
  · refine bytes_app (bytes_app (bytes_take h _) ?_) (bytes_drop h _)
    intro x hx
    rw [List.mem_replicate] at hx
    omega
  · intro x hx; simp at hx
theorem all_bytes {m : List Int} (h : bytesL m) (n : Int) : bytesL (allF m n).1 := by
  unfold allF
  split
  · intro x hx; simp at hx
  · split
    · intro x hx; simp at hx
    · refine bytes_app h ?_
      intro x hx
      rw [List.mem_replicate] at hx
      omega
end Go.Proofs.YtaiimfdcbdfbdaaDoor
