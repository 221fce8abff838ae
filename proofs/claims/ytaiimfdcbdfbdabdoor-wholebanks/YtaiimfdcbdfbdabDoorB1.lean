/-
  Texts of one proof, laid one behind the other: Rdg Dsh Rsh.
-/
import Derived.Test.YtaiimfdcbdfbdabDoorB0
import Derived.Test.YtaiimfdcbdfbdabDoorProg
namespace Go.Proofs.YtaiimfdcbdfbdabDoor
open Go.ChangeShapes Go.WideShapes Go.ChangeAt Go.RowKit
set_option linter.unusedVariables false
set_option linter.unusedSimpArgs false

/-
  Small and Value of the document's answer return the plain functions, for all bytes and bases.
-/
/-- the constant text of all digits -/
def dgs : ByteArray := ⟨#[48, 49, 50, 51, 52, 53, 54, 55, 56, 57, 97, 98, 99, 100, 101, 102, 103, 104, 105, 106, 107, 108, 109, 110, 111, 112, 113, 114, 115, 116, 117, 118, 119, 120, 121, 122]⟩
theorem dgs_at : ∀ k : Fin 36, ((dgs.data[k.val]!).toNat : Int) = dg k.val := by decide
theorem dgs_size : dgs.size = 36 := by decide
theorem dgs_get (k : Nat) (h : k < dgs.size) : ((dgs[k]'h).toNat : Int) = dg k := by
  have e := dgs_at ⟨k, by rw [dgs_size] at h; exact h⟩
  have h2 : k < dgs.data.size := h
  simp only [getElem!_pos dgs.data k h2] at e
  exact e
theorem run_dgs0 (k : Nat) (hk : (k : Int) < 36) (w : World) : (Instr.index 9 (.string dgs) (.int .i64 k)).run Tryd.prog w = .ok (.int .u8 (dg k)) w := by
  have hs : k < dgs.size := by rw [dgs_size]; omega
  rw [run_index_string _ _ _ _ _ Tryd.underlying9, dif_pos ⟨by omega, by rw [dgs_size]; omega⟩]
  simp only [Int.toNat_natCast, dgs_get k hs]
theorem run_dgs (k : Nat) (hk : (k : Int) < 36) (w : World) : (Instr.index 9 (.string ⟨#[48, 49, 50, 51, 52, 53, 54, 55, 56, 57, 97, 98, 99, 100, 101, 102, 103, 104, 105, 106, 107, 108, 109, 110, 111, 112, 113, 114, 115, 116, 117, 118, 119, 120, 121, 122]⟩) (.int .i64 k)).run Tryd.prog w = .ok (.int .u8 (dg k)) w :=
  run_dgs0 k hk w

theorem w_rsmall (c : Int) (w : World) (h0 : 0 ≤ c) (h1 : c < 256) : Calls Tryd.prog 89 #[.int .u8 c] w fun e w' => e = .returned (.int .u8 (sm c)) ∧ w' = w := by
  go_enter Tryd.func89, Tryd.ntmps89
  go_wp2
  all_goals go_ret
  all_goals exact ⟨ret_i (by unfold sm; omega), rfl⟩

set_option maxHeartbeats 400000 in
theorem w_rvalue (c b : Int) (w : World) (h0 : 0 ≤ c) (h1 : c < 256) (g0 : 0 ≤ b) (g1 : b < 4294967296) :
    Calls Tryd.prog 76 #[.int .u8 c, .int .u32 b] w fun e w' => e = .returned (.tuple #[.int .u32 (vl c b), .bool (isD c b)]) ∧ Gr w w' := by
  by_cases hb : b < 2 ∨ 36 < b
  · obtain ⟨e1, e2⟩ := isD_unfit c b hb
    rw [e1, e2]
    rcases hb with hb | hb
    · go_enter Tryd.func76, Tryd.ntmps76
      go_wp2
      go_ret2
      exact ⟨rfl, Gr.refl _⟩
    · have : ¬ b < 2 := by omega
      go_enter Tryd.func76, Tryd.ntmps76
      go_wp2
      go_ret2
      exact ⟨rfl, Gr.refl _⟩
  · have b0 : 2 ≤ b := by omega
    have b1 : b ≤ 36 := by omega
    clear hb
    obtain ⟨s0, s1⟩ := sm_bd c h0 h1
    go_enter Tryd.func76, Tryd.ntmps76
    go_wp2
    go_loopw [6] (fun i wx => ∃ k : Nat, (k : Int) ≤ b ∧ i = .int .i64 k ∧ (∀ j : Nat, j < k → ¬ dg j = sm c) ∧ Gr w wx) (fun i _ => (b - intOf i).toNat)
    case atStart => exact ⟨0, by omega, rfl, fun j hj => absurd hj (by omega), Gr.refl _⟩
    case round =>
      obtain ⟨k, hk, rfl, hm, hgr⟩ := hrel
      have HM : Hid (∀ j : Nat, j < k → ¬ dg j = sm c) := hm
      clear hm
      by_cases hlt : (k : Int) < b
      · have hr := run_dgs k (by omega)
        by_cases he : dg k = sm c
        · obtain ⟨e1, e2⟩ := isD_hit c b k h0 h1 b0 b1 (by omega) hlt he
          have E1 : Hid (isD c b = true) := e1
          have E2 : Hid (vl c b = k) := e2
          clear e1 e2
          go_wp2
          go_quiet ((go_at_call 89; exact Calls.quiet_of_same (w_rsmall _ _ h0 h1)))
          go_wp2
          go_ret2
          exact ⟨ret_ib E2.out.symm E1.out.symm, grown_drewN hgr _⟩
        · go_wp2
          go_quiet ((go_at_call 89; exact Calls.quiet_of_same (w_rsmall _ _ h0 h1)))
          go_wp2
          go_roundw
          case rel =>
            refine ⟨k + 1, by omega, by go_num, fun j hj => ?_, grown_drewN hgr _⟩
            by_cases hjk : j = k
            · subst hjk; exact he
            · exact HM.out j (by omega)
          case measure => simp [intOf]; omega
      · obtain ⟨e1, e2⟩ := isD_miss c b h0 h1 (fun j hj => HM.out j (by omega))
        have E1 : Hid (isD c b = false) := e1
        have E2 : Hid (vl c b = 0) := e2
        clear e1 e2
        go_wp2
        go_ret2
        exact ⟨ret_ib E2.out.symm E1.out.symm, hgr⟩

/-
  Numbers shown in a base, as plain lists of bytes: the digits, that they are read back as the number, and that unlike numbers have unlike texts. No Go text in sight; bases from 2 to 36.
-/
/-- bytes of numbers -/
def toB (l : List Int) : ByteArray := ⟨(l.map fun x => UInt8.ofNat x.toNat).toArray⟩
theorem toB_L (t : ByteArray) : toB (L t) = t := by
  obtain ⟨⟨l⟩⟩ := t
  simp [toB, L, Function.comp_def]
theorem L_toB (l : List Int) (h : ∀ x ∈ l, 0 ≤ x ∧ x < 256) : L (toB l) = l := by
  simp only [L, toB, List.map_map]
  conv => rhs; rw [← List.map_id l]
  apply List.map_congr_left
  intro x hx
  have := h x hx
  simp [UInt8.toNat_ofNat']
  omega
theorem L_eq (t : ByteArray) (l : List Int) (h : L t = l) : t = toB l := by rw [← h, toB_L]
theorem L_app (s t : ByteArray) : L (s ++ t) = L s ++ L t := by simp [L]

/-- the digits of a number, the highest first -/
def shF (b : Int) : Nat → Int → List Int
  | 0, _ => []
  | f + 1, n => if n < b then [dg n] else shF b f (n / b) ++ [dg (n % b)]
def sh (b n : Int) : List Int := shF b 32 n
theorem shF_lo (b n : Int) (f : Nat) (h : n < b) : shF b (f + 1) n = [dg n] := by simp [shF, h]
theorem shF_hi (b n : Int) (f : Nat) (h : ¬ n < b) : shF b (f + 1) n = shF b f (n / b) ++ [dg (n % b)] := by simp [shF, h]
theorem div_half (n b : Int) (h0 : 0 ≤ n) (b0 : 2 ≤ b) : 0 ≤ n / b ∧ n / b * 2 ≤ n ∧ 0 ≤ n % b ∧ n % b < b := by
  have h1 : n / b * b ≤ n := Int.ediv_mul_le n (by omega)
  have h2 : 0 ≤ n / b := Int.ediv_nonneg h0 (by omega)
  have h3 : n / b * 2 ≤ n / b * b := Int.mul_le_mul_of_nonneg_left b0 h2
  exact ⟨h2, by omega, Int.emod_nonneg n (by omega), Int.emod_lt_of_pos n (by omega)⟩
theorem div_pos (n b : Int) (b0 : 2 ≤ b) (h : ¬ n < b) : 0 < n / b := by
  have : 1 ≤ n / b := Int.le_ediv_of_mul_le (by omega) (by omega)
  omega
theorem dg_isD (b k : Int) (b0 : 2 ≤ b) (b1 : b ≤ 36) (k0 : 0 ≤ k) (k1 : k < b) : isD (dg k) b = true ∧ vl (dg k) b = k ∧ 0 ≤ dg k ∧ dg k < 256 ∧ ¬ dg k = 45 := by
  have e : dv (dg k) = k := by unfold dg dv; omega
  have d : isD (dg k) b = true := by unfold isD; rw [e]; simp; omega
  refine ⟨d, by unfold vl; rw [if_pos d, e], ?_, ?_, ?_⟩ <;> (unfold dg; omega)

theorem shF_len (b : Int) (f : Nat) : ∀ n, (shF b f n).length ≤ f := by
  induction f with
  | zero => intro n; simp [shF]
  | succ f ih =>
    intro n
    have := ih (n / b)
    unfold shF
    split <;> simp <;> omega
theorem toB_size (l : List Int) : (toB l).size = l.length := by simp [toB, ByteArray.size]
theorem toB_cons (x : Int) (l : List Int) : toB [x] ++ toB l = toB (x :: l) := by
  simp [toB, ByteArray.ext_iff]

/-- what is shown: digits of the base, at least one, the first no sign, read back as the number -/
theorem shF_all (b : Int) (b0 : 2 ≤ b) (b1 : b ≤ 36) (f : Nat) : ∀ n : Int, 0 ≤ n → n < 2 ^ f → 0 < f →
    allD b (shF b f n) = true ∧ num b (shF b f n) = n ∧ (∀ x ∈ shF b f n, 0 ≤ x ∧ x < 256 ∧ ¬ x = 45) ∧ shF b f n ≠ [] := by
  induction f with
  | zero => intro n _ _ h; omega
  | succ f ih =>
    intro n h0 h1 _
    by_cases c : n < b
    · rw [shF_lo b n f c]
      obtain ⟨d1, d2, d3, d4, d5⟩ := dg_isD b n b0 b1 h0 c
      refine ⟨by simp [allD, d1], by simp [num, d2], ?_, by simp⟩
      intro x hx
      simp at hx
      subst hx
      exact ⟨d3, d4, d5⟩
    · obtain ⟨q0, q1, r0, r1⟩ := div_half n b h0 b0
      have qp := div_pos n b b0 c
      have hp : (2 : Int) ^ (f + 1) = 2 ^ f * 2 := Int.pow_succ 2 f
      have hf : 0 < f := by
        rcases Nat.eq_zero_or_pos f with h | h
        · subst h; simp at h1; omega
        · exact h
      obtain ⟨i1, i2, i3, i4⟩ := ih (n / b) q0 (by omega) hf
      obtain ⟨d1, d2, d3, d4, d5⟩ := dg_isD b (n % b) b0 b1 r0 r1
      rw [shF_hi b n f c]
      refine ⟨by rw [allD_snoc, i1, d1]; rfl, ?_, ?_, by simp⟩
      · rw [num_snoc, i2, d2]
        exact Int.ediv_mul_add_emod n b
      · intro x hx
        rw [List.mem_append] at hx
        rcases hx with hx | hx
        · exact i3 x hx
        · simp at hx
          subst hx
          exact ⟨d3, d4, d5⟩
theorem sh_all (b n : Int) (b0 : 2 ≤ b) (b1 : b ≤ 36) (h0 : 0 ≤ n) (h1 : n < 4294967296) :
    allD b (sh b n) = true ∧ num b (sh b n) = n ∧ (∀ x ∈ sh b n, 0 ≤ x ∧ x < 256 ∧ ¬ x = 45) ∧ sh b n ≠ [] :=
  shF_all b b0 b1 32 n h0 (by simpa using h1) (by decide)
theorem sh_L (b n : Int) (b0 : 2 ≤ b) (b1 : b ≤ 36) (h0 : 0 ≤ n) (h1 : n < 4294967296) : L (toB (sh b n)) = sh b n :=
  L_toB _ fun x hx => ⟨((sh_all b n b0 b1 h0 h1).2.2.1 x hx).1, ((sh_all b n b0 b1 h0 h1).2.2.1 x hx).2.1⟩
theorem sh_back (b n : Int) (b0 : 2 ≤ b) (b1 : b ≤ 36) (h0 : 0 ≤ n) (h1 : n < 4294967296) : prs (sh b n) b = (n, 0) := by
  obtain ⟨i1, i2, i3, i4⟩ := sh_all b n b0 b1 h0 h1
  have hh : ¬ (sh b n).head? = some 45 := by
    intro h
    have := List.mem_of_mem_head? h
    exact (i3 45 this).2.2 rfl
  unfold prs
  rw [if_neg (by omega), if_neg hh]
  unfold prsT
  rw [if_neg i4, if_neg (by rw [i1]; decide), if_neg (by rw [i2]; omega), i2]
  simp
/-- the sign ahead -/
def sg (b n : Int) : List Int := if n < 2147483648 then sh b n else 45 :: sh b (4294967296 - n)
theorem sg_back (b n : Int) (b0 : 2 ≤ b) (b1 : b ≤ 36) (h0 : 0 ≤ n) (h1 : n < 4294967296) : prs (sg b n) b = (n, 0) := by
  unfold sg
  by_cases c : n < 2147483648
  · rw [if_pos c]; exact sh_back b n b0 b1 h0 h1
  · rw [if_neg c]
    obtain ⟨i1, i2, i3, i4⟩ := sh_all b (4294967296 - n) b0 b1 (by omega) (by omega)
    unfold prs
    rw [if_neg (by omega), if_pos (by simp)]
    unfold prsT
    simp only [List.tail_cons]
    rw [if_neg i4, if_neg (by rw [i1]; decide), if_neg (by rw [i2]; omega), i2]
    simp
    omega
theorem sg_bytes (b n : Int) (b0 : 2 ≤ b) (b1 : b ≤ 36) (h0 : 0 ≤ n) (h1 : n < 4294967296) : L (toB (sg b n)) = sg b n := by
  apply L_toB
  intro x hx
  unfold sg at hx
  by_cases c : n < 2147483648
  · rw [if_pos c] at hx
    have := (sh_all b n b0 b1 h0 h1).2.2.1 x hx
    exact ⟨this.1, this.2.1⟩
  · rw [if_neg c] at hx
    simp at hx
    rcases hx with rfl | hx
    · omega
    · have := (sh_all b (4294967296 - n) b0 b1 (by omega) (by omega)).2.2.1 x hx
      exact ⟨this.1, this.2.1⟩
theorem sh_inj (b n m : Int) (b0 : 2 ≤ b) (b1 : b ≤ 36) (h0 : 0 ≤ n) (h1 : n < 4294967296) (g0 : 0 ≤ m) (g1 : m < 4294967296) : sh b n = sh b m ↔ n = m := by
  constructor
  · intro h
    have e1 := (sh_all b n b0 b1 h0 h1).2.1
    have e2 := (sh_all b m b0 b1 g0 g1).2.1
    rw [h] at e1
    omega
  · intro h; rw [h]

/-
  Show and Signed of the document's answer return the plain texts, for all numbers and bases.
-/
/-- one digit cut out of the constant text -/
def one (r : Nat) : ByteArray := dgs.extract r (r + 1)
theorem one_L (r : Nat) (h : r < 36) : L (one r) = [dg r] := by
  unfold one
  rw [L_extract dgs r (r + 1) (by rw [dgs_size]; omega), L_drop dgs r (by rw [dgs_size]; omega), dgs_get r (by rw [dgs_size]; omega)]
  simp
theorem run_one0 (r : Nat) (h : (r : Int) < 36) (w : World) : (Instr.slice 9 (.string dgs) (some (.int .i64 r)) (some (.int .i64 ((r : Int) + 1))) none).run Tryd.prog w = .ok (.string (one r)) w := by
  rw [run_slice_string _ _ _ _ _ _ _ Tryd.underlying9 (by omega) (by omega) (by rw [dgs_size]; omega)]
  rfl
theorem run_one (r : Nat) (h : (r : Int) < 36) (w : World) : (Instr.slice 9 (.string ⟨#[48, 49, 50, 51, 52, 53, 54, 55, 56, 57, 97, 98, 99, 100, 101, 102, 103, 104, 105, 106, 107, 108, 109, 110, 111, 112, 113, 114, 115, 116, 117, 118, 119, 120, 121, 122]⟩) (some (.int .i64 r)) (some (.int .i64 ((r : Int) + 1))) none).run Tryd.prog w = .ok (.string (one r)) w :=
  run_one0 r h w
theorem pow_split (k : Nat) (h : k < 32) : (2 : Int) ^ (32 - k) = 2 ^ (32 - (k + 1)) * 2 := by
  rw [show 32 - k = (32 - (k + 1)) + 1 by omega, Int.pow_succ]

/-- what holds of the loop that shows a number: k digits are written, m is left -/
def ShInv (b n : Int) (k : Nat) (m : Int) (t : ByteArray) : Prop :=
  (0 < m ∨ k = 0 → sh b n = shF b (32 - k) m ++ L t) ∧ (m = 0 ∧ 0 < k → sh b n = L t) ∧ m < 2 ^ (32 - k) ∧ t.size = k
theorem ShInv_start (b n : Int) (h1 : n < 4294967296) : ShInv b n 0 n ⟨#[]⟩ :=
  ⟨fun _ => by simp [sh, L], fun h => by omega, by simpa using h1, rfl⟩
theorem ShInv_step (b n : Int) (k : Nat) (m : Int) (t : ByteArray) (r : Nat) (b0 : 2 ≤ b) (b1 : b ≤ 36) (hk : k < 32) (m0 : 0 ≤ m) (hm : 0 < m ∨ k = 0) (hr : m % b = r) (h : ShInv b n k m t) :
    ShInv b n (k + 1) (m / b) (one r ++ t) := by
  obtain ⟨i1, i2, i3, i4⟩ := h
  obtain ⟨q0, q1, r0, r1⟩ := div_half m b m0 b0
  have hs := i1 hm
  have hL : L (one r ++ t) = dg r :: L t := by rw [L_app, one_L r (by omega)]; rfl
  have hp := pow_split k hk
  have hz : (one r ++ t).size = k + 1 := by
    have e1 := L_len (one r ++ t)
    rw [hL, List.length_cons, L_len] at e1
    omega
  rw [show 32 - k = (32 - (k + 1)) + 1 by omega] at hs
  by_cases c : m < b
  · have e0 : m / b = 0 := Int.ediv_eq_zero_of_lt m0 c
    have e1 : m % b = m := Int.emod_eq_of_lt m0 c
    rw [shF_lo b m _ c] at hs
    unfold ShInv
    rw [hL, e0]
    refine ⟨fun h => by omega, fun _ => ?_, Int.pow_pos (by decide), hz⟩
    rw [hs, ← e1, hr]; rfl
  · have qp := div_pos m b b0 c
    rw [shF_hi b m _ c, hr] at hs
    unfold ShInv
    rw [hL]
    refine ⟨fun _ => ?_, fun h => by omega, by omega, hz⟩
    rw [hs]; simp
theorem ShInv_end (b n : Int) (k : Nat) (m : Int) (t : ByteArray) (hk : 0 < k) (hm : m ≤ 0) (m0 : 0 ≤ m) (h : ShInv b n k m t) : t = toB (sh b n) :=
  L_eq t _ (h.2.1 ⟨by omega, hk⟩).symm
theorem ShInv_last (b n m : Int) (t : ByteArray) (m0 : 0 ≤ m) (h : ShInv b n 32 m t) : m ≤ 0 := by
  have := h.2.2.1; simp at this; omega

/-- what Show answers -/
def shT (n b : Int) : ByteArray := if b < 2 ∨ 36 < b then ⟨#[]⟩ else toB (sh b n)
def shE (b : Int) : Int := if b < 2 ∨ 36 < b then 1 else 0

set_option maxHeartbeats 1000000 in
theorem w_rshow (n b : Int) (w : World) (n0 : 0 ≤ n) (n1 : n < 4294967296) (g0 : 0 ≤ b) (g1 : b < 4294967296) :
    Calls Tryd.prog 71 #[.int .u32 n, .int .u32 b] w fun e w' => e = .returned (.tuple #[.string (shT n b), .int .i64 (shE b)]) ∧ w' = w := by
  by_cases hb : b < 2 ∨ 36 < b
  · have e1 : shT n b = ⟨#[]⟩ := by unfold shT; rw [if_pos hb]
    have e2 : shE b = 1 := by unfold shE; rw [if_pos hb]
    rw [e1, e2]
    rcases hb with hb | hb
    · go_enter Tryd.func71, Tryd.ntmps71
      go_wp2
      go_ret2
      exact ⟨rfl, rfl⟩
    · have : ¬ b < 2 := by omega
      go_enter Tryd.func71, Tryd.ntmps71
      go_wp2
      go_ret2
      exact ⟨rfl, rfl⟩
  · have e1 : Hid (shT n b = toB (sh b n)) := by show _ = _; unfold shT; rw [if_neg hb]
    have e2 : Hid (shE b = 0) := by show _ = _; unfold shE; rw [if_neg hb]
    have b0 : 2 ≤ b := by omega
    have b1 : b ≤ 36 := by omega
    clear hb
    go_enter Tryd.func71, Tryd.ntmps71
    go_wp2
    go_loop [0, 6, 7] (fun N S i => ∃ (k : Nat) (m : Int) (t : ByteArray), (k : Int) ≤ 32 ∧ i = .int .i64 k ∧ N = .int .u32 m ∧ 0 ≤ m ∧ m < 4294967296 ∧ S = .string t ∧ (t.size : Int) ≤ 32 ∧ ShInv b n k m t) (fun _ _ i => (32 - intOf i).toNat)
    case atStart => exact ⟨0, n, ⟨#[]⟩, by omega, rfl, rfl, n0, n1, rfl, by decide, ShInv_start b n n1⟩
    case round =>
      obtain ⟨k, m, t, hk, rfl, rfl, m0, m1, rfl, ht, hI⟩ := hrel
      by_cases hlt : (k : Int) < 32
      · by_cases hm : 0 < m ∨ k = 0
        · obtain ⟨q0, q1, r0, r1⟩ := div_half m b m0 b0
          obtain ⟨r, hr⟩ : ∃ r : Nat, m % b = (r : Int) := Int.eq_ofNat_of_zero_le r0
          have hI2 := ShInv_step b n k m t r b0 b1 (by omega) m0 hm hr hI
          rw [hr] at r1
          clear r0
          have ho := run_one r (by omega)
          have hz := hI.2.2.2
          have hz2 : ((one r).size : Int) = 1 := by
            have := L_len (one r); rw [one_L r (by omega)] at this; simp at this; omega
          have hz3 : ((one r ++ t).size : Int) ≤ 32 := by have := hI2.2.2.2; omega
          have Hz : Hid (t.size = k) := hz
          clear hz
          rcases hm with hm | hm
          · go_wp2
            go_round
            case rel => exact ⟨k + 1, m / b, one r ++ t, by omega, by go_num, rfl, q0, by omega, rfl, hz3, hI2⟩
            case measure => simp [intOf]; omega
          · subst hm
            by_cases hm2 : 0 < m
            · go_wp2
              go_round
              case rel => exact ⟨0 + 1, m / b, one r ++ t, by omega, by go_num, rfl, q0, by omega, rfl, hz3, hI2⟩
              case measure => simp [intOf]
            · go_wp2
              go_round
              case rel => exact ⟨0 + 1, m / b, one r ++ t, by omega, by go_num, rfl, q0, by omega, rfl, hz3, hI2⟩
              case measure => simp [intOf]
        · have hfin := ShInv_end b n k m t (by omega) (by omega) m0 hI
          have hm1 : ¬ 0 < m := by omega
          have hk1 : ((k : Int) == 0) = false := beq_eq_false_iff_ne.2 (by omega)
          have Hf : Hid (t = toB (sh b n)) := hfin
          clear hm hI hfin
          go_wp2
          go_ret2
          exact ⟨ret_si (by rw [e1.out]; exact Hf.out) e2.out.symm, rfl⟩
      · obtain rfl : k = 32 := by omega
        have hfin := ShInv_end b n 32 m t (by omega) (ShInv_last b n m t m0 hI) m0 hI
        have Hf : Hid (t = toB (sh b n)) := hfin
        clear hI hfin
        go_wp2
        go_ret2
        exact ⟨ret_si (by rw [e1.out]; exact Hf.out) e2.out.symm, rfl⟩

/-- what Signed answers -/
def sgT (n b : Int) : ByteArray := if b < 2 ∨ 36 < b then ⟨#[]⟩ else toB (sg b n)

theorem sh_size (n b : Int) : (shT n b).size ≤ 33 := by
  unfold shT
  split
  · decide
  · rw [toB_size]; have := shF_len b 32 n; unfold sh; omega
theorem sg_size (n b : Int) : (sgT n b).size ≤ 33 := by
  unfold sgT
  split
  · decide
  · rw [toB_size]; unfold sg
    split
    · have := shF_len b 32 n; unfold sh; omega
    · have := shF_len b 32 (4294967296 - n); unfold sh; simp; omega
theorem shT_back (n b : Int) (n0 : 0 ≤ n) (n1 : n < 4294967296) (b0 : 2 ≤ b) (b1 : b ≤ 36) : prs (L (shT n b)) b = (n, 0) := by
  unfold shT; rw [if_neg (by omega), sh_L b n b0 b1 n0 n1]; exact sh_back b n b0 b1 n0 n1
theorem sgT_back (n b : Int) (n0 : 0 ≤ n) (n1 : n < 4294967296) (b0 : 2 ≤ b) (b1 : b ≤ 36) : prs (L (sgT n b)) b = (n, 0) := by
  unfold sgT; rw [if_neg (by omega), sg_bytes b n b0 b1 n0 n1]; exact sg_back b n b0 b1 n0 n1
theorem shT_same (n m b : Int) (n0 : 0 ≤ n) (n1 : n < 4294967296) (m0 : 0 ≤ m) (m1 : m < 4294967296) (b0 : 2 ≤ b) (b1 : b ≤ 36) : ((shT n b).toList == (shT m b).toList) = (n == m) := by
  have h : (shT n b).toList = (shT m b).toList ↔ n = m := by
    constructor
    · intro h
      rw [ByteArray.toList_eq, ByteArray.toList_eq] at h
      have : L (shT n b) = L (shT m b) := by unfold L; rw [h]
      unfold shT at this
      rw [if_neg (by omega), if_neg (by omega), sh_L b n b0 b1 n0 n1, sh_L b m b0 b1 m0 m1] at this
      exact (sh_inj b n m b0 b1 n0 n1 m0 m1).1 this
    · intro h; rw [h]
  rw [Bool.eq_iff_iff]
  simp [h]

end Go.Proofs.YtaiimfdcbdfbdabDoor
