/-
  Old or new: what is found behind a writing that was cut off, or a byte that was turned. No Go text in sight.
-/
import Derived.Test.YtlnlifijnijgmaaPn1
namespace Go.Proofs.Ytlnlifijnijgmaa
set_option linter.unusedVariables false
set_option linter.unusedSimpArgs false

theorem getD_byte {l : List Int} (h : bytesL l) (i : Nat) : 0 ≤ l.getD i 0 ∧ l.getD i 0 < 256 := by
  by_cases hi : i < l.length
  · rw [List.getD_eq_getElem?_getD, List.getElem?_eq_getElem hi]
    exact h _ (List.getElem_mem hi)
  · rw [List.getD_eq_getElem?_getD, List.getElem?_eq_none (by omega)]
    simp
theorem bk_bytes {nv : List Int} (h : bytesL nv) (k : Int) : bytesL (bkF nv k) := bytes_take (bytes_drop h _) _
theorem put_bytesB {nv : List Int} (h : bytesL nv) {p : Int × Int} (hp : 0 ≤ p.2 ∧ p.2 < 256) : bytesL (putB nv p) := by
  unfold putB
  split
  · intro x hx
    rcases List.mem_or_eq_of_mem_set hx with hx | rfl
    · exact h x hx
    · exact hp
  · exact h
theorem apl_bytes : ∀ (l : List (Int × Int)) (nv : List Int), bytesL nv → (∀ p ∈ l, 0 ≤ p.2 ∧ p.2 < 256) → bytesL (aplL nv l)
  | [], _, h, _ => h
  | p :: l, nv, h, hl => apl_bytes l _ (put_bytesB h (hl p (List.mem_cons_self ..))) (fun q hq => hl q (List.mem_cons_of_mem _ hq))
theorem hed_bytes {g : Int} {d : List Int} (hg : 0 ≤ g ∧ g < 256) (hd : bytesL d) (hl : d.length ≤ 248) : bytesL (hedF g d) := by
  unfold hedF
  refine bytes_app (bytes_app ?_ (beB_bytes _ _)) hd
  intro x hx
  simp only [List.mem_cons, List.not_mem_nil, or_false] at hx
  omega
theorem wrt_bytes {b g : Int} {d : List Int} (hg : 0 ≤ g ∧ g < 256) (hd : bytesL d) (hl : d.length ≤ 248) : ∀ p ∈ wrtF b g d, 0 ≤ p.2 ∧ p.2 < 256 := by
  intro p h
  simp only [wrtF, List.mem_cons, List.mem_append, List.not_mem_nil, or_false] at h
  rcases h with rfl | h | rfl
  · simp
  · exact hed_bytes hg hd hl _ (row_mem _ _ p h).2.2
  · simp
theorem cnt_spec (nv : List Int) : (cntF nv = (0, (bkF nv 0).getD 1 0) ∧ bkR (bkF nv 0) = true ∧ ¬ (bkR (bkF nv 1) = true ∧ (bkF nv 1).getD 1 0 = ((bkF nv 0).getD 1 0 + 1) % 256)) ∨
    (cntF nv = (1, (bkF nv 1).getD 1 0) ∧ bkR (bkF nv 1) = true) ∨ (cntF nv = (-1, 0) ∧ bkR (bkF nv 0) = false ∧ bkR (bkF nv 1) = false) := by
  unfold cntF
  split
  · rename_i h
    exact Or.inr (Or.inl ⟨rfl, h.2.1⟩)
  · rename_i h
    split
    · rename_i h0
      exact Or.inl ⟨rfl, h0, fun z => h ⟨h0, z.1, z.2⟩⟩
    · rename_i h0
      split
      · rename_i h1
        exact Or.inr (Or.inl ⟨rfl, h1⟩)
      · rename_i h1
        exact Or.inr (Or.inr ⟨rfl, by simpa using h0, by simpa using h1⟩)
theorem cnt_gen {nv : List Int} (h : bytesL nv) : 0 ≤ (cntF nv).2 ∧ (cntF nv).2 < 256 := by
  rcases cnt_spec nv with ⟨e, _⟩ | ⟨e, _⟩ | ⟨e, _⟩
  · rw [e]; exact getD_byte (bk_bytes h _) 1
  · rw [e]; exact getD_byte (bk_bytes h _) 1
  · rw [e]; simp
theorem rcv_0 {nv : List Int} (hl : nv.length = 512) (h0 : bkR (bkF nv 0) = true) (h1 : ¬ (bkR (bkF nv 1) = true ∧ (bkF nv 1).getD 1 0 = ((bkF nv 0).getD 1 0 + 1) % 256)) : rcvF nv = (bkD (bkF nv 0), 0, true) := by
  have e : cntF nv = (0, (bkF nv 0).getD 1 0) := by unfold cntF; rw [if_neg (fun z => h1 ⟨z.2.1, z.2.2⟩), if_pos h0]
  unfold rcvF
  rw [if_pos hl, e]
  rfl
theorem rcv_1 {nv : List Int} (hl : nv.length = 512) (h1 : bkR (bkF nv 1) = true) (h0 : bkR (bkF nv 0) = false ∨ (bkF nv 1).getD 1 0 = ((bkF nv 0).getD 1 0 + 1) % 256) : rcvF nv = (bkD (bkF nv 1), 1, true) := by
  have e : cntF nv = (1, (bkF nv 1).getD 1 0) := by
    unfold cntF
    cases hx : bkR (bkF nv 0)
    · rw [if_neg (fun z => by cases z.1), if_neg (by simp), if_pos h1]
    · rw [hx] at h0
      rw [if_pos ⟨rfl, h1, h0.resolve_left (by simp)⟩]
  unfold rcvF
  rw [if_pos hl, e]
  rfl
theorem rcv_n {nv : List Int} (h0 : bkR (bkF nv 0) = false) (h1 : bkR (bkF nv 1) = false) : rcvF nv = ([], 0, false) := by
  have e : cntF nv = (-1, 0) := by
    unfold cntF
    rw [if_neg (fun z => by rw [h0] at z; cases z.1), if_neg (by rw [h0]; simp), if_neg (by rw [h1]; simp)]
  unfold rcvF
  rw [e]
  split <;> rfl
theorem apl_pre (nv : List Int) (l : List (Int × Int)) (n : Int) (h : (l.length : Int) ≤ n) : aplF nv l n = aplL nv l := by
  unfold aplF
  rw [List.take_of_length_le (by omega)]
/-- the bank that is written, as a number -/
theorem wrt_in {k : Nat} {g : Int} {d : List Int} (hd : d.length ≤ 248) (n : Nat) {p : Int × Int} (h : p ∈ (wrtF (256 * (k : Int)) g d).take n) : 256 * (k : Int) ≤ p.1 ∧ p.1 < 256 * k + 256 := by
  have := wrt_mem (List.mem_of_mem_take h)
  omega
theorem cut_new {nv d : List Int} (hl : nv.length = 512) (hb : bytesL nv) (hd : d.length ≤ 248) : ∃ k, rcvF (aplL nv (wrtF (bsF (cntF nv).1) (((cntF nv).2 + 1) % 256) d)) = (d, k, true) := by
  have hL : ∀ l, (aplL nv l).length = 512 := fun l => by rw [apl_len]; exact hl
  have inW : ∀ (k : Nat) (g : Int), ∀ p ∈ wrtF (256 * (k : Int)) g d, 256 * (k : Int) ≤ p.1 ∧ p.1 < 256 * k + 256 := fun k g p hp => by have := wrt_mem hp; omega
  rcases cnt_spec nv with ⟨e, h0, hn⟩ | ⟨e, h1⟩ | ⟨e, h0, h1⟩
  · rw [e]
    simp only
    rw [show bsF 0 = 256 * ((1 : Nat) : Int) from rfl]
    obtain ⟨a1, a2, a3, a4⟩ := apl_done nv hl 1 (by omega) (((bkF nv 0).getD 1 0 + 1) % 256) d hd
    have hR := bk_right a1 a2 hd a3
    obtain ⟨t1, t2, t3, t4⟩ := bk_told a1 hd a3
    have ho := apl_bank nv hl (wrtF (256 * ((1 : Nat) : Int)) (((bkF nv 0).getD 1 0 + 1) % 256) d) 0 (by omega) (fun p hp => by have := inW 1 _ p hp; omega)
    have hLW := hL (wrtF (256 * ((1 : Nat) : Int)) (((bkF nv 0).getD 1 0 + 1) % 256) d)
    clear a1 a2 a3 a4 t2 t4
    generalize aplL nv (wrtF (256 * ((1 : Nat) : Int)) (((bkF nv 0).getD 1 0 + 1) % 256) d) = W at hR t1 t3 ho hLW ⊢
    rw [show ((1 : Nat) : Int) = 1 from rfl] at hR t1 t3
    rw [show ((0 : Nat) : Int) = 0 from rfl] at ho
    exact ⟨1, by rw [rcv_1 hLW hR (Or.inr (by rw [ho]; exact t1)), t3]⟩
  · rw [e]
    simp only
    rw [show bsF 1 = 256 * ((0 : Nat) : Int) from rfl]
    obtain ⟨a1, a2, a3, a4⟩ := apl_done nv hl 0 (by omega) (((bkF nv 1).getD 1 0 + 1) % 256) d hd
    have hR := bk_right a1 a2 hd a3
    obtain ⟨t1, t2, t3, t4⟩ := bk_told a1 hd a3
    have ho := apl_bank nv hl (wrtF (256 * ((0 : Nat) : Int)) (((bkF nv 1).getD 1 0 + 1) % 256) d) 1 (by omega) (fun p hp => by have := inW 0 _ p hp; omega)
    have hg := getD_byte (bk_bytes hb 1) 1
    have hLW := hL (wrtF (256 * ((0 : Nat) : Int)) (((bkF nv 1).getD 1 0 + 1) % 256) d)
    clear a1 a2 a3 a4 t2 t4
    generalize aplL nv (wrtF (256 * ((0 : Nat) : Int)) (((bkF nv 1).getD 1 0 + 1) % 256) d) = W at hR t1 t3 ho hLW ⊢
    rw [show ((0 : Nat) : Int) = 0 from rfl] at hR t1 t3
    rw [show ((1 : Nat) : Int) = 1 from rfl] at ho
    exact ⟨0, by rw [rcv_0 hLW hR (fun z => by have z2 := z.2; rw [ho, t1] at z2; omega), t3]⟩
  · rw [e]
    simp only
    rw [show bsF (-1) = 256 * ((0 : Nat) : Int) from rfl]
    obtain ⟨a1, a2, a3, a4⟩ := apl_done nv hl 0 (by omega) ((0 + 1) % 256) d hd
    have hR := bk_right a1 a2 hd a3
    obtain ⟨t1, t2, t3, t4⟩ := bk_told a1 hd a3
    have ho := apl_bank nv hl (wrtF (256 * ((0 : Nat) : Int)) ((0 + 1) % 256) d) 1 (by omega) (fun p hp => by have := inW 0 _ p hp; omega)
    have hLW := hL (wrtF (256 * ((0 : Nat) : Int)) ((0 + 1) % 256) d)
    clear a1 a2 a3 a4 t2 t4
    generalize aplL nv (wrtF (256 * ((0 : Nat) : Int)) ((0 + 1) % 256) d) = W at hR t1 t3 ho hLW ⊢
    rw [show ((0 : Nat) : Int) = 0 from rfl] at hR t1 t3
    rw [show ((1 : Nat) : Int) = 1 from rfl] at ho
    exact ⟨0, by rw [rcv_0 hLW hR (fun z => by have z1 := z.1; rw [ho, h1] at z1; cases z1), t3]⟩
theorem cut_old {nv d : List Int} (hl : nv.length = 512) (hd : d.length ≤ 248) (n : Int) (hn : n < (wrtF (bsF (cntF nv).1) (((cntF nv).2 + 1) % 256) d).length) :
    (rcvF (aplF nv (wrtF (bsF (cntF nv).1) (((cntF nv).2 + 1) % 256) d) n)).1 = (rcvF nv).1 ∧ (rcvF (aplF nv (wrtF (bsF (cntF nv).1) (((cntF nv).2 + 1) % 256) d) n)).2.2 = (rcvF nv).2.2 := by
  by_cases h0 : 0 < n
  · have hL : ∀ l, (aplL nv l).length = 512 := fun l => by rw [apl_len]; exact hl
    unfold aplF
    obtain ⟨m, hm⟩ : ∃ m : Nat, n.toNat = m := ⟨_, rfl⟩
    have hm0 : 0 < m := by omega
    have hm1 : m < (wrtF (bsF (cntF nv).1) (((cntF nv).2 + 1) % 256) d).length := by omega
    rw [hm]
    clear hn hm h0
    rcases cnt_spec nv with ⟨e, h0, hh⟩ | ⟨e, h1⟩ | ⟨e, h0, h1⟩
    · rw [e] at hm1 ⊢
      simp only at hm1 ⊢
      rw [show bsF 0 = 256 * ((1 : Nat) : Int) from rfl] at hm1 ⊢
      have hb := apl_begun nv hl 1 (by omega) _ d hd m hm1 hm0
      have ho := apl_bank nv hl ((wrtF (256 * ((1 : Nat) : Int)) (((bkF nv 0).getD 1 0 + 1) % 256) d).take m) 0 (by omega) (fun p hp => by have := wrt_in hd m hp; omega)
      rw [show ((1 : Nat) : Int) = 1 from rfl] at hb
      rw [show ((0 : Nat) : Int) = 0 from rfl] at ho
      rw [rcv_0 hl h0 hh, rcv_0 (hL _) (by rw [ho]; exact h0) (fun z => by rw [show ((1 : Nat) : Int) = 1 from rfl, hb] at z; cases z.1), ho]
      exact ⟨rfl, rfl⟩
    · rw [e] at hm1 ⊢
      simp only at hm1 ⊢
      rw [show bsF 1 = 256 * ((0 : Nat) : Int) from rfl] at hm1 ⊢
      have hb := apl_begun nv hl 0 (by omega) _ d hd m hm1 hm0
      have ho := apl_bank nv hl ((wrtF (256 * ((0 : Nat) : Int)) (((bkF nv 1).getD 1 0 + 1) % 256) d).take m) 1 (by omega) (fun p hp => by have := wrt_in hd m hp; omega)
      rw [show ((1 : Nat) : Int) = 1 from rfl] at ho
      rw [rcv_1 (hL _) (by rw [ho]; exact h1) (Or.inl hb), ho]
      have hr : rcvF nv = (bkD (bkF nv 1), 1, true) := by unfold rcvF; rw [if_pos hl, e]; rfl
      rw [hr]
      exact ⟨rfl, rfl⟩
    · rw [e] at hm1 ⊢
      simp only at hm1 ⊢
      rw [show bsF (-1) = 256 * ((0 : Nat) : Int) from rfl] at hm1 ⊢
      have hb := apl_begun nv hl 0 (by omega) _ d hd m hm1 hm0
      have ho := apl_bank nv hl ((wrtF (256 * ((0 : Nat) : Int)) ((0 + 1) % 256) d).take m) 1 (by omega) (fun p hp => by have := wrt_in hd m hp; omega)
      rw [show ((1 : Nat) : Int) = 1 from rfl] at ho
      rw [rcv_n hb (by rw [ho]; exact h1), rcv_n h0 h1]
      exact ⟨rfl, rfl⟩
  · have : aplF nv (wrtF (bsF (cntF nv).1) (((cntF nv).2 + 1) % 256) d) n = nv := by
      unfold aplF
      rw [show n.toNat = 0 by omega]
      rfl
    rw [this]
    exact ⟨rfl, rfl⟩

/-! a byte that is turned -/
def nv0 : List Int := List.replicate 512 0
theorem nv0_cnt : cntF nv0 = (-1, 0) := by decide +kernel
theorem nv0_len : nv0.length = 512 := by decide +kernel
theorem nv0_bytes : bytesL nv0 := by intro x hx; unfold nv0 at hx; rw [List.mem_replicate] at hx; omega
/-- the NVRAM whose first bank was written -/
def nv1 (d : List Int) : List Int := aplL nv0 (wrtF 0 1 d)
theorem nv1_len (d : List Int) : (nv1 d).length = 512 := by unfold nv1; rw [apl_len]; exact nv0_len
theorem nv1_bytes {d : List Int} (hd : bytesL d) (hl : d.length ≤ 248) : bytesL (nv1 d) := apl_bytes _ _ nv0_bytes (wrt_bytes (by omega) hd hl)
theorem nv1_told {d : List Int} (hd : d.length ≤ 248) : (bkF (nv1 d) 0).length = 256 ∧ (bkF (nv1 d) 0).getD 0 0 = 165 ∧ (∀ j < 7 + d.length, (bkF (nv1 d) 0).getD (1 + j) 0 = (hedF 1 d).getD j 0) := by
  obtain ⟨a1, a2, a3, a4⟩ := apl_done nv0 nv0_len 0 (by omega) 1 d hd
  exact ⟨a1, a2, a3⟩
theorem set_bank (m : List Int) (hm : m.length = 512) (k : Nat) (hk : k < 256) (y : Int) : bkF (m.set k y) 0 = (bkF m 0).set k y ∧ bkF (m.set k y) 1 = bkF m 1 := by
  constructor
  · apply ext_getD
    · simp [bkF]
    · intro i hi
      have hi2 : i < 256 := by simp [bkF] at hi; omega
      have e := bk_at (m.set k y) 0 i hi2
      have e2 := bk_at m 0 i hi2
      rw [show ((0 : Nat) : Int) = 0 from rfl, Nat.mul_zero, Nat.zero_add] at e e2
      rw [e]
      rw [List.getD_eq_getElem?_getD, List.getElem?_set, List.getD_eq_getElem?_getD, List.getElem?_set]
      have hl : (bkF m 0).length = 256 := bk_len m hm 0 (by omega)
      by_cases h : k = i
      · rw [if_pos h, if_pos h, if_pos (by omega), if_pos (by omega)]
      · rw [if_neg h, if_neg h, ← List.getD_eq_getElem?_getD, ← List.getD_eq_getElem?_getD, e2]
  · apply ext_getD
    · simp [bkF]
    · intro i hi
      have hi2 : i < 256 := by simp [bkF] at hi; omega
      have e := bk_at (m.set k y) 1 i hi2
      have e2 := bk_at m 1 i hi2
      rw [show ((1 : Nat) : Int) = 1 from rfl] at e e2
      rw [e, e2, List.getD_eq_getElem?_getD, List.getElem?_set, if_neg (by omega), ← List.getD_eq_getElem?_getD]
theorem nv1_other {d : List Int} (hd : d.length ≤ 248) : bkR (bkF (nv1 d) 1) = false := by
  have ho := apl_bank nv0 nv0_len (wrtF (256 * ((0 : Nat) : Int)) 1 d) 1 (by omega) (fun p hp => by have := wrt_mem hp; omega)
  have : bkF (nv1 d) 1 = bkF nv0 1 := ho
  rw [this]
  decide +kernel
theorem tell_gen {d : List Int} (hd : d.length ≤ 248) (k : Nat) (hk : k < 256) (y : Int) : rcvF ((nv1 d).set k y) = if bkR ((bkF (nv1 d) 0).set k y) = true then (bkD ((bkF (nv1 d) 0).set k y), 0, true) else ([], 0, false) := by
  obtain ⟨s0, s1⟩ := set_bank (nv1 d) (nv1_len d) k hk y
  have hn := nv1_other hd
  have hl : ((nv1 d).set k y).length = 512 := by rw [List.length_set]; exact nv1_len d
  split
  · rename_i h
    rw [rcv_0 hl (by rw [s0]; exact h) (fun z => by rw [s1, hn] at z; cases z.1), s0]
  · rename_i h
    rw [rcv_n (by rw [s0]; simpa using h) (by rw [s1]; exact hn)]
theorem tell_right {d : List Int} (hd : d.length ≤ 248) (k : Nat) (hk : k < 256) (y : Int) (h : 8 + d.length ≤ k) : rcvF ((nv1 d).set k y) = (d, 0, true) := by
  obtain ⟨a1, a2, a3⟩ := nv1_told hd
  have b1 : ((bkF (nv1 d) 0).set k y).length = 256 := by rw [List.length_set]; exact a1
  have b2 : ∀ i, ¬ i = k → ((bkF (nv1 d) 0).set k y).getD i 0 = (bkF (nv1 d) 0).getD i 0 := fun i hi => by
    rw [List.getD_eq_getElem?_getD, List.getElem?_set, if_neg (by omega), ← List.getD_eq_getElem?_getD]
  have b3 : ∀ j < 7 + d.length, ((bkF (nv1 d) 0).set k y).getD (1 + j) 0 = (hedF 1 d).getD j 0 := fun j hj => by rw [b2 _ (by omega)]; exact a3 j hj
  rw [tell_gen hd k hk y, if_pos (bk_right b1 (by rw [b2 0 (by omega)]; exact a2) hd b3), (bk_told b1 hd b3).2.2.1]
theorem be4_set (a b c e : Int) (j : Nat) (hj : j < 4) (y : Int) (hy : ¬ y = [a, b, c, e].getD j 0) (ha : 0 ≤ a ∧ a < 256) (hb : 0 ≤ b ∧ b < 256) (hc : 0 ≤ c ∧ c < 256) (he : 0 ≤ e ∧ e < 256) (h0 : 0 ≤ y ∧ y < 256) : ¬ beV ([a, b, c, e].set j y) = beV [a, b, c, e] := by
  match j, hj with
  | 0, _ => simp [beV] at hy ⊢; omega
  | 1, _ => simp [beV] at hy ⊢; omega
  | 2, _ => simp [beV] at hy ⊢; omega
  | 3, _ => simp [beV] at hy ⊢; omega
theorem four_list {l : List Int} (h : l.length = 4) : ∃ a b c e, l = [a, b, c, e] := by
  match l, h with
  | [a, b, c, e], _ => exact ⟨a, b, c, e, rfl⟩
theorem tell_wrong {d : List Int} (hd : d.length ≤ 248) (hb : bytesL d) (k : Nat) (hk : k < 256) (y : Int) (y0 : 0 ≤ y) (y1 : y < 256) (hy : ¬ y = (nv1 d).getD k 0) (h : k = 0 ∨ 4 ≤ k ∧ k < 8 + d.length) : rcvF ((nv1 d).set k y) = ([], 0, false) := by
  obtain ⟨a1, a2, a3⟩ := nv1_told hd
  obtain ⟨t1, t2, t3, t4⟩ := bk_told a1 hd a3
  have hB := bk_bytes (nv1_bytes hb hd) 0
  have hyb : ¬ y = (bkF (nv1 d) 0).getD k 0 := by
    have := bk_at (nv1 d) 0 k hk
    rw [show ((0 : Nat) : Int) = 0 from rfl, Nat.mul_zero, Nat.zero_add] at this
    rw [this]; exact hy
  rw [tell_gen hd k hk y, if_neg]
  have b2 : ∀ i, ¬ i = k → ((bkF (nv1 d) 0).set k y).getD i 0 = (bkF (nv1 d) 0).getD i 0 := fun i hi => by
    rw [List.getD_eq_getElem?_getD, List.getElem?_set, if_neg (by omega), ← List.getD_eq_getElem?_getD]
  have b4 : k < (bkF (nv1 d) 0).length := by omega
  have b3 : ((bkF (nv1 d) 0).set k y).getD k 0 = y := by
    rw [List.getD_eq_getElem?_getD, List.getElem?_set, if_pos rfl, if_pos b4]; rfl
  rw [Bool.not_eq_true]
  generalize hbk : bkF (nv1 d) 0 = b at *
  rcases h with rfl | ⟨h4, h8⟩
  · apply nr_mark
    rw [b3]
    rw [a2] at hyb
    exact hyb
  · have hN : bkN (b.set k y) = bkN b := by unfold bkN; rw [b2 2 (by omega), b2 3 (by omega)]
    have h1 := b2 1 (by omega)
    unfold bkR
    rw [Bool.and_eq_false_iff]
    right
    rw [decide_eq_false_iff_not, h1, t1]
    by_cases hk8 : k < 8
    · have hD : bkD (b.set k y) = bkD b := by
        unfold bkD
        rw [hN, List.drop_set, if_pos (by omega)]
      rw [hD, t3, ← t4]
      unfold bkS
      have hl4 : ((b.drop 4).take 4).length = 4 := by simp; omega
      obtain ⟨x0, x1, x2, x3, he⟩ := four_list hl4
      have e1 : ((b.set k y).drop 4).take 4 = [x0, x1, x2, x3].set (k - 4) y := by
        rw [List.drop_set, if_neg (by omega), ← he, List.take_set]
      have hx : bytesL [x0, x1, x2, x3] := by rw [← he]; exact bytes_take (bytes_drop hB _) _
      rw [e1, he]
      refine be4_set x0 x1 x2 x3 (k - 4) (by omega) y ?_ (hx _ (by simp)) (hx _ (by simp)) (hx _ (by simp)) (hx _ (by simp)) ⟨y0, y1⟩
      rw [← he, List.getD_eq_getElem?_getD, List.getElem?_take, if_pos (by omega), List.getElem?_drop, ← List.getD_eq_getElem?_getD, show 4 + (k - 4) = k by omega]
      exact hyb
    · have hD : bkD (b.set k y) = d.set (k - 8) y := by
        have t3' := t3
        unfold bkD at t3' ⊢
        rw [hN, List.drop_set, if_neg (by omega), List.take_set, t3']
      have hS : bkS (b.set k y) = bkS b := by
        unfold bkS
        rw [List.drop_set, if_neg (by omega), List.take_set, List.set_eq_of_length_le (by simp; omega)]
      rw [hD, hS, t4]
      intro e
      refine ns_set 1 d hb (k - 8) y (by omega) y0 y1 ?_ e.symm
      have := a3 (k - 1) (by omega)
      rw [show 1 + (k - 1) = k by omega] at this
      rw [this] at hyb
      unfold hedF at hyb
      rw [getD_app, if_neg (by simp only [List.length_append, List.length_cons, List.length_nil, beB_len]; omega)] at hyb
      simp only [List.length_append, List.length_cons, List.length_nil, beB_len] at hyb
      rw [show k - 1 - (0 + 1 + 1 + 1 + 4) = k - 8 by omega] at hyb
      exact hyb
end Go.Proofs.Ytlnlifijnijgmaa
