/-
  Texts of one proof, laid one behind the other: Pn2 Rp2 Nr1.
-/
import Derived.Test.YtaiimfdcbdfbdabDoorB15
import Derived.Laws.BitsAllLaws
namespace Go.Proofs.YtaiimfdcbdfbdabDoor
open Go.ChangeShapes Go.WideShapes Go.ChangeAt Go.RowKit
set_option linter.unusedVariables false
set_option linter.unusedSimpArgs false

/-
  Old or new: what is found behind a writing that was cut off, or a byte that was turned. No Go text in sight.
-/
theorem getD_byte {l : List Int} (h : bytesL l) (i : Nat) : 0 ≤ l.getD i 0 ∧ l.getD i 0 < 256 := by
  by_cases hi : i < l.length
  · rw [List.getD_eq_getElem?_getD, List.getElem?_eq_getElem hi]
    exact h _ (List.getElem_mem hi)
  · rw [List.getD_eq_getElem?_getD, List.getElem?_eq_none (by omega)]
    simp
theorem bk_bytes {nv : List Int} (h : bytesL nv) (k : Int) : bytesL (bkF nv k) := bytes_take (bytes_drop h _) _
theorem put_bytesB {nv : List Int} (h : bytesL nv) {p : Int × Int} (hp : 0 ≤ p.2 ∧ p.2 < 256) : bytesL (putB nv p) := by
  unfold putB
  split
  · intro x hx
    rcases List.mem_or_eq_of_mem_set hx with hx | rfl
    · exact h x hx
    · exact hp
  · exact h
theorem apl_bytes : ∀ (l : List (Int × Int)) (nv : List Int), bytesL nv → (∀ p ∈ l, 0 ≤ p.2 ∧ p.2 < 256) → bytesL (aplL nv l)
  | [], _, h, _ => h
  | p :: l, nv, h, hl => apl_bytes l _ (put_bytesB h (hl p (List.mem_cons_self ..))) (fun q hq => hl q (List.mem_cons_of_mem _ hq))
theorem hed_bytes {g : Int} {d : List Int} (hg : 0 ≤ g ∧ g < 256) (hd : bytesL d) (hl : d.length ≤ 248) : bytesL (hedF g d) := by
  unfold hedF
  refine bytes_app (bytes_app ?_ (beB_bytes _ _)) hd
  intro x hx
  simp only [List.mem_cons, List.not_mem_nil, or_false] at hx
  omega
theorem wrt_bytes {b g : Int} {d : List Int} (hg : 0 ≤ g ∧ g < 256) (hd : bytesL d) (hl : d.length ≤ 248) : ∀ p ∈ wrtF b g d, 0 ≤ p.2 ∧ p.2 < 256 := by
  intro p h
  simp only [wrtF, List.mem_cons, List.mem_append, List.not_mem_nil, or_false] at h
  rcases h with rfl | h | rfl
  · simp
  · exact hed_bytes hg hd hl _ (row_mem _ _ p h).2.2
  · simp
theorem cnt_spec (nv : List Int) : (cntF nv = (0, (bkF nv 0).getD 1 0) ∧ bkR (bkF nv 0) = true ∧ ¬ (bkR (bkF nv 1) = true ∧ (bkF nv 1).getD 1 0 = ((bkF nv 0).getD 1 0 + 1) % 256)) ∨
    (cntF nv = (1, (bkF nv 1).getD 1 0) ∧ bkR (bkF nv 1) = true) ∨ (cntF nv = (-1, 0) ∧ bkR (bkF nv 0) = false ∧ bkR (bkF nv 1) = false) := by
  unfold cntF
  split
  · rename_i h
    exact Or.inr (Or.inl ⟨rfl, h.2.1⟩)
  · rename_i h
    split
    · rename_i h0
      exact Or.inl ⟨rfl, h0, fun z => h ⟨h0, z.1, z.2⟩⟩
    · rename_i h0
      split
      · rename_i h1
        exact Or.inr (Or.inl ⟨rfl, h1⟩)
      · rename_i h1
        exact Or.inr (Or.inr ⟨rfl, by simpa using h0, by simpa using h1⟩)
theorem cnt_gen {nv : List Int} (h : bytesL nv) : 0 ≤ (cntF nv).2 ∧ (cntF nv).2 < 256 := by
  rcases cnt_spec nv with ⟨e, _⟩ | ⟨e, _⟩ | ⟨e, _⟩
  · rw [e]; exact getD_byte (bk_bytes h _) 1
  · rw [e]; exact getD_byte (bk_bytes h _) 1
  · rw [e]; simp
theorem rcv_0 {nv : List Int} (hl : nv.length = 512) (h0 : bkR (bkF nv 0) = true) (h1 : ¬ (bkR (bkF nv 1) = true ∧ (bkF nv 1).getD 1 0 = ((bkF nv 0).getD 1 0 + 1) % 256)) : rcvF nv = (bkD (bkF nv 0), 0, true) := by
  have e : cntF nv = (0, (bkF nv 0).getD 1 0) := by unfold cntF; rw [if_neg (fun z => h1 ⟨z.2.1, z.2.2⟩), if_pos h0]
  unfold rcvF
  rw [if_pos hl, e]
  rfl
theorem rcv_1 {nv : List Int} (hl : nv.length = 512) (h1 : bkR (bkF nv 1) = true) (h0 : bkR (bkF nv 0) = false ∨ (bkF nv 1).getD 1 0 = ((bkF nv 0).getD 1 0 + 1) % 256) : rcvF nv = (bkD (bkF nv 1), 1, true) := by
  have e : cntF nv = (1, (bkF nv 1).getD 1 0) := by
    unfold cntF
    cases hx : bkR (bkF nv 0)
    · rw [if_neg (fun z => by cases z.1), if_neg (by simp), if_pos h1]
    · rw [hx] at h0
      rw [if_pos ⟨rfl, h1, h0.resolve_left (by simp)⟩]
  unfold rcvF
  rw [if_pos hl, e]
  rfl
theorem rcv_n {nv : List Int} (h0 : bkR (bkF nv 0) = false) (h1 : bkR (bkF nv 1) = false) : rcvF nv = ([], 0, false) := by
  have e : cntF nv = (-1, 0) := by
    unfold cntF
    rw [if_neg (fun z => by rw [h0] at z; cases z.1), if_neg (by rw [h0]; simp), if_neg (by rw [h1]; simp)]
  unfold rcvF
  rw [e]
  split <;> rfl
theorem apl_pre (nv : List Int) (l : List (Int × Int)) (n : Int) (h : (l.length : Int) ≤ n) : aplF nv l n = aplL nv l := by
  unfold aplF
  rw [List.take_of_length_le (by omega)]
/-- the bank that is written, as a number -/
theorem wrt_in {k : Nat} {g : Int} {d : List Int} (hd : d.length ≤ 248) (n : Nat) {p : Int × Int} (h : p ∈ (wrtF (256 * (k : Int)) g d).take n) : 256 * (k : Int) ≤ p.1 ∧ p.1 < 256 * k + 256 := by
  have := wrt_mem (List.mem_of_mem_take h)
  omega
theorem cut_new {nv d : List Int} (hl : nv.length = 512) (hb : bytesL nv) (hd : d.length ≤ 248) : ∃ k, rcvF (aplL nv (wrtF (bsF (cntF nv).1) (((cntF nv).2 + 1) % 256) d)) = (d, k, true) := by
  have hL : ∀ l, (aplL nv l).length = 512 := fun l => by rw [apl_len]; exact hl
  have inW : ∀ (k : Nat) (g : Int), ∀ p ∈ wrtF (256 * (k : Int)) g d, 256 * (k : Int) ≤ p.1 ∧ p.1 < 256 * k + 256 := fun k g p hp => by have := wrt_mem hp; omega
  rcases cnt_spec nv with ⟨e, h0, hn⟩ | ⟨e, h1⟩ | ⟨e, h0, h1⟩
  · rw [e]
    simp only
    rw [show bsF 0 = 256 * ((1 : Nat) : Int) from rfl]
    obtain ⟨a1, a2, a3, a4⟩ := apl_done nv hl 1 (by omega) (((bkF nv 0).getD 1 0 + 1) % 256) d hd
    have hR := bk_right a1 a2 hd a3
    obtain ⟨t1, t2, t3, t4⟩ := bk_told a1 hd a3
    have ho := apl_bank nv hl (wrtF (256 * ((1 : Nat) : Int)) (((bkF nv 0).getD 1 0 + 1) % 256) d) 0 (by omega) (fun p hp => by have := inW 1 _ p hp; omega)
    have hLW := hL (wrtF (256 * ((1 : Nat) : Int)) (((bkF nv 0).getD 1 0 + 1) % 256) d)
    clear a1 a2 a3 a4 t2 t4
    generalize aplL nv (wrtF (256 * ((1 : Nat) : Int)) (((bkF nv 0).getD 1 0 + 1) % 256) d) = W at hR t1 t3 ho hLW ⊢
    rw [show ((1 : Nat) : Int) = 1 from rfl] at hR t1 t3
    rw [show ((0 : Nat) : Int) = 0 from rfl] at ho
    exact ⟨1, by rw [rcv_1 hLW hR (Or.inr (by rw [ho]; exact t1)), t3]⟩
  · rw [e]
    simp only
    rw [show bsF 1 = 256 * ((0 : Nat) : Int) from rfl]
    obtain ⟨a1, a2, a3, a4⟩ := apl_done nv hl 0 (by omega) (((bkF nv 1).getD 1 0 + 1) % 256) d hd
    have hR := bk_right a1 a2 hd a3
    obtain ⟨t1, t2, t3, t4⟩ := bk_told a1 hd a3
    have ho := apl_bank nv hl (wrtF (256 * ((0 : Nat) : Int)) (((bkF nv 1).getD 1 0 + 1) % 256) d) 1 (by omega) (fun p hp => by have := inW 0 _ p hp; omega)
    have hg := getD_byte (bk_bytes hb 1) 1
    have hLW := hL (wrtF (256 * ((0 : Nat) : Int)) (((bkF nv 1).getD 1 0 + 1) % 256) d)
    clear a1 a2 a3 a4 t2 t4
    generalize aplL nv (wrtF (256 * ((0 : Nat) : Int)) (((bkF nv 1).getD 1 0 + 1) % 256) d) = W at hR t1 t3 ho hLW ⊢
    rw [show ((0 : Nat) : Int) = 0 from rfl] at hR t1 t3
    rw [show ((1 : Nat) : Int) = 1 from rfl] at ho
    exact ⟨0, by rw [rcv_0 hLW hR (fun z => by have z2 := z.2; rw [ho, t1] at z2; omega), t3]⟩
  · rw [e]
    simp only
    rw [show bsF (-1) = 256 * ((0 : Nat) : Int) from rfl]
    obtain ⟨a1, a2, a3, a4⟩ := apl_done nv hl 0 (by omega) ((0 + 1) % 256) d hd
    have hR := bk_right a1 a2 hd a3
    obtain ⟨t1, t2, t3, t4⟩ := bk_told a1 hd a3
    have ho := apl_bank nv hl (wrtF (256 * ((0 : Nat) : Int)) ((0 + 1) % 256) d) 1 (by omega) (fun p hp => by have := inW 0 _ p hp; omega)
    have hLW := hL (wrtF (256 * ((0 : Nat) : Int)) ((0 + 1) % 256) d)
    clear a1 a2 a3 a4 t2 t4
    generalize aplL nv (wrtF (256 * ((0 : Nat) : Int)) ((0 + 1) % 256) d) = W at hR t1 t3 ho hLW ⊢
    rw [show ((0 : Nat) : Int) = 0 from rfl] at hR t1 t3
    rw [show ((1 : Nat) : Int) = 1 from rfl] at ho
    exact ⟨0, by rw [rcv_0 hLW hR (fun z => by have z1 := z.1; rw [ho, h1] at z1; cases z1), t3]⟩
theorem cut_old {nv d : List Int} (hl : nv.length = 512) (hd : d.length ≤ 248) (n : Int) (hn : n < (wrtF (bsF (cntF nv).1) (((cntF nv).2 + 1) % 256) d).length) :
    (rcvF (aplF nv (wrtF (bsF (cntF nv).1) (((cntF nv).2 + 1) % 256) d) n)).1 = (rcvF nv).1 ∧ (rcvF (aplF nv (wrtF (bsF (cntF nv).1) (((cntF nv).2 + 1) % 256) d) n)).2.2 = (rcvF nv).2.2 := by
  by_cases h0 : 0 < n
  · have hL : ∀ l, (aplL nv l).length = 512 := fun l => by rw [apl_len]; exact hl
    unfold aplF
    obtain ⟨m, hm⟩ : ∃ m : Nat, n.toNat = m := ⟨_, rfl⟩
    have hm0 : 0 < m := by omega
    have hm1 : m < (wrtF (bsF (cntF nv).1) (((cntF nv).2 + 1) % 256) d).length := by omega
    rw [hm]
    clear hn hm h0
    rcases cnt_spec nv with ⟨e, h0, hh⟩ | ⟨e, h1⟩ | ⟨e, h0, h1⟩
    · rw [e] at hm1 ⊢
      simp only at hm1 ⊢
      rw [show bsF 0 = 256 * ((1 : Nat) : Int) from rfl] at hm1 ⊢
      have hb := apl_begun nv hl 1 (by omega) _ d hd m hm1 hm0
      have ho := apl_bank nv hl ((wrtF (256 * ((1 : Nat) : Int)) (((bkF nv 0).getD 1 0 + 1) % 256) d).take m) 0 (by omega) (fun p hp => by have := wrt_in hd m hp; omega)
      rw [show ((1 : Nat) : Int) = 1 from rfl] at hb
      rw [show ((0 : Nat) : Int) = 0 from rfl] at ho
      rw [rcv_0 hl h0 hh, rcv_0 (hL _) (by rw [ho]; exact h0) (fun z => by rw [show ((1 : Nat) : Int) = 1 from rfl, hb] at z; cases z.1), ho]
      exact ⟨rfl, rfl⟩
    · rw [e] at hm1 ⊢
      simp only at hm1 ⊢
      rw [show bsF 1 = 256 * ((0 : Nat) : Int) from rfl] at hm1 ⊢
      have hb := apl_begun nv hl 0 (by omega) _ d hd m hm1 hm0
      have ho := apl_bank nv hl ((wrtF (256 * ((0 : Nat) : Int)) (((bkF nv 1).getD 1 0 + 1) % 256) d).take m) 1 (by omega) (fun p hp => by have := wrt_in hd m hp; omega)
      rw [show ((1 : Nat) : Int) = 1 from rfl] at ho
      rw [rcv_1 (hL _) (by rw [ho]; exact h1) (Or.inl hb), ho]
      have hr : rcvF nv = (bkD (bkF nv 1), 1, true) := by unfold rcvF; rw [if_pos hl, e]; rfl
      rw [hr]
      exact ⟨rfl, rfl⟩
    · rw [e] at hm1 ⊢
      simp only at hm1 ⊢
      rw [show bsF (-1) = 256 * ((0 : Nat) : Int) from rfl] at hm1 ⊢
      have hb := apl_begun nv hl 0 (by omega) _ d hd m hm1 hm0
      have ho := apl_bank nv hl ((wrtF (256 * ((0 : Nat) : Int)) ((0 + 1) % 256) d).take m) 1 (by omega) (fun p hp => by have := wrt_in hd m hp; omega)
      rw [show ((1 : Nat) : Int) = 1 from rfl] at ho
      rw [rcv_n hb (by rw [ho]; exact h1), rcv_n h0 h1]
      exact ⟨rfl, rfl⟩
  · have : aplF nv (wrtF (bsF (cntF nv).1) (((cntF nv).2 + 1) % 256) d) n = nv := by
      unfold aplF
      rw [show n.toNat = 0 by omega]
      rfl
    rw [this]
    exact ⟨rfl, rfl⟩

/-! a byte that is turned -/
def nv0 : List Int := List.replicate 512 0
theorem nv0_cnt : cntF nv0 = (-1, 0) := by decide +kernel
theorem nv0_len : nv0.length = 512 := by decide +kernel
theorem nv0_bytes : bytesL nv0 := by intro x hx; unfold nv0 at hx; rw [List.mem_replicate] at hx; omega
/-- the NVRAM whose first bank was written -/
def nv1 (d : List Int) : List Int := aplL nv0 (wrtF 0 1 d)
theorem nv1_len (d : List Int) : (nv1 d).length = 512 := by unfold nv1; rw [apl_len]; exact nv0_len
theorem nv1_bytes {d : List Int} (hd : bytesL d) (hl : d.length ≤ 248) : bytesL (nv1 d) := apl_bytes _ _ nv0_bytes (wrt_bytes (by omega) hd hl)
theorem nv1_told {d : List Int} (hd : d.length ≤ 248) : (bkF (nv1 d) 0).length = 256 ∧ (bkF (nv1 d) 0).getD 0 0 = 165 ∧ (∀ j < 7 + d.length, (bkF (nv1 d) 0).getD (1 + j) 0 = (hedF 1 d).getD j 0) := by
  obtain ⟨a1, a2, a3, a4⟩ := apl_done nv0 nv0_len 0 (by omega) 1 d hd
  exact ⟨a1, a2, a3⟩
theorem set_bank (m : List Int) (hm : m.length = 512) (k : Nat) (hk : k < 256) (y : Int) : bkF (m.set k y) 0 = (bkF m 0).set k y ∧ bkF (m.set k y) 1 = bkF m 1 := by
  constructor
  · apply ext_getD
    · simp [bkF]
    · intro i hi
      have hi2 : i < 256 := by simp [bkF] at hi; omega
      have e := bk_at (m.set k y) 0 i hi2
      have e2 := bk_at m 0 i hi2
      rw [show ((0 : Nat) : Int) = 0 from rfl, Nat.mul_zero, Nat.zero_add] at e e2
      rw [e]
      rw [List.getD_eq_getElem?_getD, List.getElem?_set, List.getD_eq_getElem?_getD, List.getElem?_set]
      have hl : (bkF m 0).length = 256 := bk_len m hm 0 (by omega)
      by_cases h : k = i
      · rw [if_pos h, if_pos h, if_pos (by omega), if_pos (by omega)]
      · rw [if_neg h, if_neg h, ← List.getD_eq_getElem?_getD, ← List.getD_eq_getElem?_getD, e2]
  · apply ext_getD
    · simp [bkF]
    · intro i hi
      have hi2 : i < 256 := by simp [bkF] at hi; omega
      have e := bk_at (m.set k y) 1 i hi2
      have e2 := bk_at m 1 i hi2
      rw [show ((1 : Nat) : Int) = 1 from rfl] at e e2
      rw [e, e2, List.getD_eq_getElem?_getD, List.getElem?_set, if_neg (by omega), ← List.getD_eq_getElem?_getD]
theorem nv1_other {d : List Int} (hd : d.length ≤ 248) : bkR (bkF (nv1 d) 1) = false := by
  have ho := apl_bank nv0 nv0_len (wrtF (256 * ((0 : Nat) : Int)) 1 d) 1 (by omega) (fun p hp => by have := wrt_mem hp; omega)
  have : bkF (nv1 d) 1 = bkF nv0 1 := ho
  rw [this]
  decide +kernel
theorem tell_gen {d : List Int} (hd : d.length ≤ 248) (k : Nat) (hk : k < 256) (y : Int) : rcvF ((nv1 d).set k y) = if bkR ((bkF (nv1 d) 0).set k y) = true then (bkD ((bkF (nv1 d) 0).set k y), 0, true) else ([], 0, false) := by
  obtain ⟨s0, s1⟩ := set_bank (nv1 d) (nv1_len d) k hk y
  have hn := nv1_other hd
  have hl : ((nv1 d).set k y).length = 512 := by rw [List.length_set]; exact nv1_len d
  split
  · rename_i h
    rw [rcv_0 hl (by rw [s0]; exact h) (fun z => by rw [s1, hn] at z; cases z.1), s0]
  · rename_i h
    rw [rcv_n (by rw [s0]; simpa using h) (by rw [s1]; exact hn)]
theorem tell_right {d : List Int} (hd : d.length ≤ 248) (k : Nat) (hk : k < 256) (y : Int) (h : 8 + d.length ≤ k) : rcvF ((nv1 d).set k y) = (d, 0, true) := by
  obtain ⟨a1, a2, a3⟩ := nv1_told hd
  have b1 : ((bkF (nv1 d) 0).set k y).length = 256 := by rw [List.length_set]; exact a1
  have b2 : ∀ i, ¬ i = k → ((bkF (nv1 d) 0).set k y).getD i 0 = (bkF (nv1 d) 0).getD i 0 := fun i hi => by
    rw [List.getD_eq_getElem?_getD, List.getElem?_set, if_neg (by omega), ← List.getD_eq_getElem?_getD]
  have b3 : ∀ j < 7 + d.length, ((bkF (nv1 d) 0).set k y).getD (1 + j) 0 = (hedF 1 d).getD j 0 := fun j hj => by rw [b2 _ (by omega)]; exact a3 j hj
  rw [tell_gen hd k hk y, if_pos (bk_right b1 (by rw [b2 0 (by omega)]; exact a2) hd b3), (bk_told b1 hd b3).2.2.1]
theorem be4_set (a b c e : Int) (j : Nat) (hj : j < 4) (y : Int) (hy : ¬ y = [a, b, c, e].getD j 0) (ha : 0 ≤ a ∧ a < 256) (hb : 0 ≤ b ∧ b < 256) (hc : 0 ≤ c ∧ c < 256) (he : 0 ≤ e ∧ e < 256) (h0 : 0 ≤ y ∧ y < 256) : ¬ beV ([a, b, c, e].set j y) = beV [a, b, c, e] := by
  match j, hj with
  | 0, _ => simp [beV] at hy ⊢; omega
  | 1, _ => simp [beV] at hy ⊢; omega
  | 2, _ => simp [beV] at hy ⊢; omega
  | 3, _ => simp [beV] at hy ⊢; omega
theorem four_list {l : List Int} (h : l.length = 4) : ∃ a b c e, l = [a, b, c, e] := by
  match l, h with
  | [a, b, c, e], _ => exact ⟨a, b, c, e, rfl⟩
theorem tell_wrong {d : List Int} (hd : d.length ≤ 248) (hb : bytesL d) (k : Nat) (hk : k < 256) (y : Int) (y0 : 0 ≤ y) (y1 : y < 256) (hy : ¬ y = (nv1 d).getD k 0) (h : k = 0 ∨ 4 ≤ k ∧ k < 8 + d.length) : rcvF ((nv1 d).set k y) = ([], 0, false) := by
  obtain ⟨a1, a2, a3⟩ := nv1_told hd
  obtain ⟨t1, t2, t3, t4⟩ := bk_told a1 hd a3
  have hB := bk_bytes (nv1_bytes hb hd) 0
  have hyb : ¬ y = (bkF (nv1 d) 0).getD k 0 := by
    have := bk_at (nv1 d) 0 k hk
    rw [show ((0 : Nat) : Int) = 0 from rfl, Nat.mul_zero, Nat.zero_add] at this
    rw [this]; exact hy
  rw [tell_gen hd k hk y, if_neg]
  have b2 : ∀ i, ¬ i = k → ((bkF (nv1 d) 0).set k y).getD i 0 = (bkF (nv1 d) 0).getD i 0 := fun i hi => by
    rw [List.getD_eq_getElem?_getD, List.getElem?_set, if_neg (by omega), ← List.getD_eq_getElem?_getD]
  have b4 : k < (bkF (nv1 d) 0).length := by omega
  have b3 : ((bkF (nv1 d) 0).set k y).getD k 0 = y := by
    rw [List.getD_eq_getElem?_getD, List.getElem?_set, if_pos rfl, if_pos b4]; rfl
  rw [Bool.not_eq_true]
  generalize hbk : bkF (nv1 d) 0 = b at *
  rcases h with rfl | ⟨h4, h8⟩
  · apply nr_mark
    rw [b3]
    rw [a2] at hyb
    exact hyb
  · have hN : bkN (b.set k y) = bkN b := by unfold bkN; rw [b2 2 (by omega), b2 3 (by omega)]
    have h1 := b2 1 (by omega)
    unfold bkR
    rw [Bool.and_eq_false_iff]
    right
    rw [decide_eq_false_iff_not, h1, t1]
    by_cases hk8 : k < 8
    · have hD : bkD (b.set k y) = bkD b := by
        unfold bkD
        rw [hN, List.drop_set, if_pos (by omega)]
      rw [hD, t3, ← t4]
      unfold bkS
      have hl4 : ((b.drop 4).take 4).length = 4 := by simp; omega
      obtain ⟨x0, x1, x2, x3, he⟩ := four_list hl4
      have e1 : ((b.set k y).drop 4).take 4 = [x0, x1, x2, x3].set (k - 4) y := by
        rw [List.drop_set, if_neg (by omega), ← he, List.take_set]
      have hx : bytesL [x0, x1, x2, x3] := by rw [← he]; exact bytes_take (bytes_drop hB _) _
      rw [e1, he]
      refine be4_set x0 x1 x2 x3 (k - 4) (by omega) y ?_ (hx _ (by simp)) (hx _ (by simp)) (hx _ (by simp)) (hx _ (by simp)) ⟨y0, y1⟩
      rw [← he, List.getD_eq_getElem?_getD, List.getElem?_take, if_pos (by omega), List.getElem?_drop, ← List.getD_eq_getElem?_getD, show 4 + (k - 4) = k by omega]
      exact hyb
    · have hD : bkD (b.set k y) = d.set (k - 8) y := by
        have t3' := t3
        unfold bkD at t3' ⊢
        rw [hN, List.drop_set, if_neg (by omega), List.take_set, t3']
      have hS : bkS (b.set k y) = bkS b := by
        unfold bkS
        rw [List.drop_set, if_neg (by omega), List.take_set, List.set_eq_of_length_le (by simp; omega)]
      rw [hD, hS, t4]
      intro e
      refine ns_set 1 d hb (k - 8) y (by omega) y0 y1 ?_ e.symm
      have := a3 (k - 1) (by omega)
      rw [show 1 + (k - 1) = k by omega] at this
      rw [this] at hyb
      unfold hedF at hyb
      rw [getD_app, if_neg (by simp only [List.length_append, List.length_cons, List.length_nil, beB_len]; omega)] at hyb
      simp only [List.length_append, List.length_cons, List.length_nil, beB_len] at hyb
      rw [show k - 1 - (0 + 1 + 1 + 1 + 4) = k - 8 by omega] at hyb
      exact hyb

/-
  EncodeText, DecodeInt, DecodeText, Join, Ints, Texts of the document's answer for properties.
-/
/-- append of one cell onto a row of the call's own -/
theorem wpList_append_one {P : Program} {w : World} {ops : Array Oper} {rest : List Oper} {o : Oper} {a : Act} {Q : Exit → Act → World → Prop} (hgd : o.guard = none) (s x : Operand) (t : TypeId)
    (ho : o.op = .call { callee := .builtin .append, args := #[s, x], argTypes := #[t, t] })
    (base : Nat) (e : TypeId) (i : TypeInfo) (z : Value) (bytes : Nat) (ht : P.underlying t = some (.slice e)) (hi : P.info? e = some i) (hz : i.zero = some z) (hsize : i.size = 1) (hby : i.bytes = bytes) (hz1 : z.cells = #[z])
    (v : Value) (cs : List Value) (hs : a.eval s = v) (hown : w.ownsRow base e 1 v cs.length cs)
    (b : Nat) (c : Value) (hx : a.eval x = .slice (some ⟨b, 0, none⟩) 1 1) (hc : w.cell? ⟨b, 0, none⟩ = some c) (hc1 : c.oneCell' = true)
    (h63 : cs.length + 1 ≤ maxLen) (hbytes : (cs.length + 1) * bytes ≤ 140737488355328) (hbase : base ≤ w.heap.size)
    (h : ∀ v' w', w'.ownsRow base e 1 v' (cs ++ [c]).length (cs ++ [c]) → w.grownBy w' v.ownBlock → wpList P ops Q rest (a.put o.dst v') w') : wpList P ops Q (o :: rest) a w := by
  refine wpList_plain hgd fun _ hK => ?_
  refine wp_append_own w s x t ho base e i z 1 bytes ht hi hz hsize hby (by rw [hz1]; rfl) (by decide) v cs.length _ hs hown ⟨b, 0, none⟩ 1 1 [c] hx (by simp) ?_ ?_ (by simpa using h63) (by simpa using hbytes) hbase ?_
  · intro j u hj
    have : j = 0 := by
      rcases Nat.eq_zero_or_pos j with h | h
      · exact h
      · rw [List.getElem?_eq_none (by simp; omega)] at hj; cases hj
    subst this
    simp at hj
    subst hj
    simpa [Addr.add] using hc
  · intro u hu
    simp at hu
    subst hu
    exact hc1
  · intro v' w' h2 h3 _
    exact hK _ _ (h v' w' (by simpa using h2) h3)

theorem enT_zero (l : List Int) (k : Nat) (h : k < l.length) (hz : l[k] = 0) : enTF l = ([], 15) := by
  unfold enTF
  rw [if_pos]
  rw [Bool.eq_false_iff]
  intro hall
  rw [List.all_eq_true] at hall
  have := hall l[k] (List.getElem_mem h)
  simp [hz] at this
theorem enT_long (l : List Int) (h : l.all (fun c => decide (¬ c = 0)) = true) (hl : 256 ≤ l.length) : enTF l = ([], 3) := by
  unfold enTF
  rw [h, if_neg (by decide), if_pos hl]
theorem enT_ok (l : List Int) (h : l.all (fun c => decide (¬ c = 0)) = true) (hl : ¬ 256 ≤ l.length) : enTF l = (l ++ [0], 0) := by
  unfold enTF
  rw [h, if_neg (by decide), if_neg hl]

set_option maxHeartbeats 1000000 in
set_option maxRecDepth 100000 in
theorem w_rdecint (v : Value) (xs : List Int) (wo w : World) (hwo : Rd .u8 wo v xs) (hbo : Below wo.heap.size wo w) (hB : bytesL xs) (hz : xs.length ≤ 140737488355328) :
    Calls Tryd.prog 64 #[v] w fun e w' => ∃ v1, e = .returned (.tuple #[.int .u32 (deIF xs).1, v1, .int .i64 (deIF xs).2.2]) ∧ Rd .u8 wo v1 (deIF xs).2.1 ∧ Below w.heap.size w w' := by
  have h := hwo.below hbo
  have hlen := rd_len h uB (P := Tryd.prog)
  by_cases h4 : (xs.length : Int) < 4
  · have e : deIF xs = (0, [], 2) := by unfold deIF; rw [if_pos (by omega)]
    rw [e]
    clear e
    go_enter Tryd.func64, Tryd.ntmps64
    go_wp2_with fail
    go_ret3
    exact ⟨_, rfl, Rd_nil, Below.refl _ _⟩
  · have e : deIF xs = (beV (xs.take 4), xs.drop 4, 0) := by unfold deIF; rw [if_neg (by omega)]
    rw [e]
    obtain ⟨ad0, b0, r0, c0, l0, u0, g0⟩ := mem_at h hB 0 (by omega) (by omega)
    obtain ⟨ad1, b1, r1, c1, l1, u1, g1⟩ := mem_at h hB 1 (by omega) (by omega)
    obtain ⟨ad2, b2, r2, c2, l2, u2, g2⟩ := mem_at h hB 2 (by omega) (by omega)
    obtain ⟨ad3, b3, r3, c3, l3, u3, g3⟩ := mem_at h hB 3 (by omega) (by omega)
    have ev : beV (xs.take 4) = ((b0 * 256 + b1) * 256 + b2) * 256 + b3 := by
      have e4 := take_more xs 0 3 (by omega)
      rw [take_more xs 1 2 (by omega), take_more xs 2 1 (by omega), take_one xs 3 (by omega)] at e4
      simp only [Int.toNat_zero, show (1 : Int).toNat = 1 from rfl, show (2 : Int).toNat = 2 from rfl, show (3 : Int).toNat = 3 from rfl] at g0 g1 g2 g3
      rw [g0, g1, g2, g3] at e4
      rw [show xs.take 4 = (xs.drop 0).take (3 + 1) by simp, e4]
      simp [beV]
    obtain ⟨R, hR⟩ : ∃ R, beV (xs.take 4) = R := ⟨_, rfl⟩
    have HR := hid (hR.symm.trans ev)
    obtain ⟨va, ra, _, _, c5⟩ := rd_cutI hwo uB zB 4 xs.length (by omega) (by omega) (by omega)
    rw [show (4 : Int).toNat = 4 from rfl, List.take_of_length_le (by simp; omega)] at ra
    have c5' := c5 rfl
    obtain ⟨D, hD⟩ : ∃ D, xs.drop 4 = D := ⟨_, rfl⟩
    rw [hD] at ra
    show Calls _ _ _ _ fun e w' => ∃ v1, e = .returned (.tuple #[.int .u32 (beV (xs.take 4)), v1, .int .i64 0]) ∧ Rd .u8 wo v1 (xs.drop 4) ∧ _
    rw [hR, hD]
    clear e hD ev hR c5 g0 g1 g2 g3
    go_enter Tryd.func64, Tryd.ntmps64
    go_wp2_with fail
    go_rounds 5
    go_quiet (fail)
    go_wp2_with fail
    go_ret3
    rw [HR.out]
    exact ⟨va, rfl, ra, below_drewN (Below.refl _ _) _⟩

theorem deT_hit (l : List Int) (i : Nat) (h : i < l.length) (hz : l[i] = 0) (inv : spl 0 [] l = spl 0 (l.take i) (l.drop i)) : deTF l = (l.take i, l.drop (i + 1), 0) := by
  have hl := spl_len 0 (l.drop (i + 1)) []
  unfold deTF
  rw [inv, List.drop_eq_getElem_cons h, spl, if_pos hz]
  cases hq : spl 0 [] (l.drop (i + 1)) with
  | nil => rw [hq] at hl; simp at hl
  | cons q r =>
    simp
    omega
theorem deT_miss (l : List Int) (inv : spl 0 [] l = spl 0 l []) : deTF l = ([], [], 2) := by
  unfold deTF
  rw [inv]
  rfl
theorem spl_step (l : List Int) (i : Nat) (h : i < l.length) (hz : ¬ l[i] = 0) (inv : spl 0 [] l = spl 0 (l.take i) (l.drop i)) : spl 0 [] l = spl 0 (l.take (i + 1)) (l.drop (i + 1)) := by
  rw [inv, List.drop_eq_getElem_cons h, spl, if_neg hz, List.take_succ_eq_append_getElem h]

/-
  Sum of the document's answer for layer 18: what it returns, for all bytes.
-/
set_option maxRecDepth 100000

theorem xor_low (h x : Nat) (hx : x < 256) : h - h % 256 + (h % 256 ^^^ x) = h ^^^ x := by
  have e1 : (h ^^^ x) % 256 = h % 256 ^^^ x := by
    have := @Nat.xor_mod_two_pow h x 8
    rw [show (2 : Nat) ^ 8 = 256 from rfl] at this
    rw [this, Nat.mod_eq_of_lt hx]
  have e2 : (h ^^^ x) / 256 = h / 256 := by
    have := @Nat.shiftRight_xor_distrib 8 h x
    rw [Nat.shiftRight_eq_div_pow, Nat.shiftRight_eq_div_pow, Nat.shiftRight_eq_div_pow, show (2 : Nat) ^ 8 = 256 from rfl, Nat.div_eq_of_lt hx, Nat.xor_zero] at this
    exact this
  have h1 := Nat.div_add_mod h 256
  have h2 := Nat.div_add_mod (h ^^^ x) 256
  rw [e1, e2] at h2
  omega
/-- one step of the sum, as the document's answer takes it -/
theorem step_low (a b : Int) (a0 : 0 ≤ a) (a1 : a < 4294967296) (b0 : 0 ≤ b) (b1 : b < 256) : ∃ X Y : Int, bits .xor .u64 (a % 256) b = X ∧ 0 ≤ X ∧ X < 256 ∧ a - a % 256 + X = Y ∧ 0 ≤ Y ∧ Y < 4294967296 ∧ fnvS a b = Y * 16777619 % 4294967296 := by
  refine ⟨(((a % 256).toNat ^^^ b.toNat : Nat) : Int), ((a.toNat ^^^ b.toNat : Nat) : Int), u64_xor _ _ (by omega) (by omega) (by omega) (by omega), by omega, ?_, ?_, by omega, ?_, ?_⟩
  · have := Nat.xor_lt_two_pow (n := 8) (x := (a % 256).toNat) (y := b.toNat) (by omega) (by omega)
    omega
  · have := xor_low a.toNat b.toNat (by omega)
    have e : (a % 256).toNat = a.toNat % 256 := by omega
    rw [e]
    omega
  · have := xor_lt32 (a := a.toNat) (b := b.toNat) (by omega) (by omega)
    omega
  · unfold fnvS
    omega

set_option maxHeartbeats 2000000 in
theorem w_rsum18 (g : Int) (v : Value) (xs : List Int) (w : World) (g0 : 0 ≤ g) (g1 : g < 256) (h : Rd .u8 w v xs) (hb : bytesL xs) (hz : xs.length ≤ 140737488351232) :
    Calls Tryd.prog 41 #[.int .u8 g, v] w fun e w' => e = .returned (.int .u32 (nsF g xs)) ∧ Below w.heap.size w w' := by
  obtain ⟨i0, hi, hz0, hz1, hz2⟩ := info_parts infoU8
  have hlen := rd_len h uB (P := Tryd.prog)
  obtain ⟨L, hL⟩ : ∃ L : Int, (xs.length : Int) = L := ⟨_, rfl⟩
  have hns : Hid (nsF g xs = fnvL 2166136261 ([g, L / 256 % 256, L % 256] ++ xs)) := by show _ = _; rw [← hL]; rfl
  have hL0 : 0 ≤ L := by omega
  have hL1 : L ≤ 140737488351232 := by omega
  rw [hL] at hlen
  have HL := hid hL
  clear hL
  have w0 : IntKind.u64.wrap L = L := by rw [IntKind.wrap_u64]; omega
  have t1 : L.tdiv 256 = L / 256 := Int.tdiv_eq_ediv_of_nonneg hL0
  have t2 : (L / 256).tmod 256 = L / 256 % 256 := Int.tmod_eq_emod_of_nonneg (by omega)
  have t3 : L.tmod 256 = L % 256 := Int.tmod_eq_emod_of_nonneg hL0
  have w1 : IntKind.u8.wrap (L / 256 % 256) = L / 256 % 256 := by rw [IntKind.wrap_u8]; omega
  have w2 : IntKind.u8.wrap (L % 256) = L % 256 := by rw [IntKind.wrap_u8]; omega
  have o0 : Own8 w.heap.size (w.alloc (.cells #[.int .u8 g, .int .u8 (L / 256 % 256), .int .u8 (L % 256)] 5)) (.slice (some ⟨w.heap.size, 0, none⟩) 3 3) [g, L / 256 % 256, L % 256] := ⟨by simp, .inr ⟨w.heap.size, 3, _, rfl, Nat.le_refl _, heap_alloc_new w _, by simp, by decide, rfl, rfl⟩⟩
  have r0 := h.below (box_below w (.cells #[.int .u8 g, .int .u8 (L / 256 % 256), .int .u8 (L % 256)] 5))
  have b0 := box_below w (.cells #[.int .u8 g, .int .u8 (L / 256 % 256), .int .u8 (L % 256)] 5)
  have hyb : bytesL ([g, L / 256 % 256, L % 256] ++ xs) := bytes_app (fun x hx => by simp only [List.mem_cons, List.not_mem_nil, or_false] at hx; omega) hb
  have hyl : (([g, L / 256 % 256, L % 256] ++ xs).length : Int) = L + 3 := by rw [List.length_append, ← HL.out]; simp; omega
  have hyt := fun k => fnvL_bd (([g, L / 256 % 256, L % 256] ++ xs).take k) 2166136261 (by omega)
  go_enter Tryd.func41, Tryd.ntmps41
  go_wp2_with (at_builtin; refine wpList_append_rd (k := .u8) rfl _ _ 22 rfl w.heap.size 5 i0 1 Tryd.underlying22 hi hz0 hz1 hz2 _ [g, L / 256 % 256, L % 256] rfl o0 v xs rfl r0 (by unfold maxLen; simp only [List.length_cons, List.length_nil]; omega) (by simp only [List.length_cons, List.length_nil]; omega) (by simp) ?_; intro v3 w3 o3 g3; have b3 := below_grown b0 g3 (fun k hk => (o0.lt k hk).1))
  have r3 := (Rd_own o3).1
  obtain ⟨ys, hys⟩ : ∃ ys, [g, L / 256 % 256, L % 256] ++ xs = ys := ⟨_, rfl⟩
  rw [hys] at hns hyb hyl hyt r3
  have hl3 := rd_len r3 uB (P := Tryd.prog)
  have HY := hid hyl
  have hy1 : (ys.length : Int) ≤ 140737488351235 := by omega
  clear o3 o0 r0 hys hyl
  go_loopw [7, 8] (fun U I wx => ∃ k : Nat, (k : Int) ≤ ys.length ∧ I = .int .i64 k ∧ U = .int .u64 (fnvL 2166136261 (ys.take k)) ∧ wx = w3) (fun _ I _ => (ys.length - intOf I).toNat)
  case atStart => exact ⟨0, by omega, rfl, rfl, rfl⟩
  case round =>
    obtain ⟨k, hk, rfl, rfl, rfl⟩ := hrel
    by_cases hlt : (k : Int) < ys.length
    · obtain ⟨ad, b, q1, q2, q3, q4, q5⟩ := mem_at r3 hyb k (by omega) (by omega)
      have hkk : k < ys.length := by omega
      have hsm := hyt k
      have hnx : Hid (fnvL 2166136261 (ys.take (k + 1)) = fnvS (fnvL 2166136261 (ys.take k)) b) := by
        show _ = _
        rw [List.take_succ_eq_append_getElem hkk, fnvL_snoc]
        congr 1
        rw [← q5, List.getD_eq_getElem?_getD]
        simp [hkk]
      obtain ⟨a, ha⟩ : ∃ a, fnvL 2166136261 (ys.take k) = a := ⟨_, rfl⟩
      rw [ha] at hsm hnx ⊢
      obtain ⟨m0, m1⟩ := hsm
      obtain ⟨X, Y, x1, x2, x3, x4, x5, x6, x7⟩ := step_low a b m0 m1 q3 q4
      have HF := hid x7
      have t4 : a.tmod 256 = a % 256 := Int.tmod_eq_emod_of_nonneg m0
      have t5 : (Y * 16777619).tmod 4294967296 = Y * 16777619 % 4294967296 := Int.tmod_eq_emod_of_nonneg (by omega)
      clear ha q5 x7 hyt
      go_wp2_with fail
      go_roundw
      case rel => exact ⟨k + 1, by omega, by go_num, by rw [hnx.out, HF.out], trivial⟩
      case measure => simp [intOf]; omega
    · have e : Hid (ys.take k = ys) := List.take_of_length_le (by omega)
      have hsm := hyt k
      obtain ⟨m0, m1⟩ := hsm
      go_wp2_with fail
      go_ret
      rw [hns.out, e.out]
      exact ⟨rfl, b3⟩

end Go.Proofs.YtaiimfdcbdfbdabDoor
