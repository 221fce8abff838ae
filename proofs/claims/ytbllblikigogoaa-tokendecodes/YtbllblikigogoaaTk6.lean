/-
  The reader of the landed package token: take, number.
-/
import Derived.Test.YtbllblikigogoaaTk5
import Derived.Test.YtbllblikigogoaaRmf
namespace Go.Proofs.Ytbllblikigogoaa
open Go.ChangeShapes Go.WideShapes Go.ChangeAt Go.RowKit
set_option linter.unusedVariables false
set_option linter.unusedSimpArgs false

theorem or_joinQ (y b k : Nat) (h : b < 2 ^ k) : (y * 2 ^ k ||| b) = y * 2 ^ k + b := by
  rw [Nat.mul_comm, Nat.two_pow_add_eq_or_of_lt h]
theorem or32Q (y b : Int) (y0 : 0 ≤ y) (b0 : 0 ≤ b) (hb : b < 256) (hy : y * 256 + b < 4294967296) : bits .or .u32 (y * 256) b = y * 256 + b := by
  obtain ⟨n, rfl⟩ := Int.eq_ofNat_of_zero_le y0
  obtain ⟨m, rfl⟩ := Int.eq_ofNat_of_zero_le b0
  have e : (n : Int) * 256 = ((n * 2 ^ 8 : Nat) : Int) := by omega
  rw [e] at hy ⊢
  rw [u32_or _ _ (by omega) (by omega) (by omega) (by omega), Int.toNat_natCast, Int.toNat_natCast, or_joinQ n m 8 (by omega)]
  omega
theorem or64Q (y b : Int) (y0 : 0 ≤ y) (b0 : 0 ≤ b) (hb : b < 256) (hy : y < 4294967296) : bits .or .i64 (y * 256) b = y * 256 + b := by
  obtain ⟨n, rfl⟩ := Int.eq_ofNat_of_zero_le y0
  obtain ⟨m, rfl⟩ := Int.eq_ofNat_of_zero_le b0
  have e : (n : Int) * 256 = ((n * 2 ^ 8 : Nat) : Int) := by omega
  rw [e]
  show IntKind.i64.wrap ((BitVec.ofInt 64 ((n * 2 ^ 8 : Nat) : Int) ||| BitVec.ofInt 64 (m : Int)).toNat : Int) = _
  rw [BitVec.toNat_or, ofInt_u64 _ (by omega), ofInt_u64 _ (by omega), or_joinQ n m 8 (by omega), IntKind.wrap_i64]
  omega

/-- a reader's state: what is left, and whether more was asked for than there was -/
abbrev Rs := List Int × Bool
def tkP (n : Nat) (s : Rs) : List Int × Rs := if n ≤ s.1.length then (s.1.take n, s.1.drop n, s.2) else ([], [], true)
def nmF (l : List Int) : Int := l.foldl (fun a x => a * 256 + x) 0
def nuP (n : Nat) (s : Rs) : Int × Rs := (nmF (tkP n s).1, (tkP n s).2)
theorem nm_snoc (l : List Int) (x : Int) : nmF (l ++ [x]) = nmF l * 256 + x := by simp [nmF]
theorem nm_bd : ∀ (k : Nat) (l : List Int), bytesL l → l.length = k → 0 ≤ nmF l ∧ nmF l < 256 ^ k := by
  intro k
  induction k with
  | zero =>
    intro l hb hl
    have : l = [] := List.eq_nil_of_length_eq_zero hl
    subst this
    simp [nmF]
  | succ k ih =>
    intro l hb hl
    have hne : l ≠ [] := by intro h; subst h; simp at hl
    obtain ⟨m, x, rfl⟩ : ∃ m x, l = m ++ [x] := ⟨l.dropLast, l.getLast hne, (List.dropLast_concat_getLast hne).symm⟩
    have h1 := ih m (fun y hy => hb y (by simp [hy])) (by simpa using hl)
    have hx := hb x (by simp)
    rw [nm_snoc, Int.pow_succ]
    omega
theorem nm_small (l : List Int) (hb : bytesL l) (hl : l.length ≤ 3) : 0 ≤ nmF l ∧ nmF l < 16777216 := by
  have h := nm_bd l.length l hb rfl
  refine ⟨h.1, ?_⟩
  have : (256 : Int) ^ l.length ≤ 16777216 := by
    match hl' : l.length, hl with
    | 0, _ => decide
    | 1, _ => decide
    | 2, _ => decide
    | 3, _ => decide
  omega
theorem tk_bytes (n : Nat) (s : Rs) (h : bytesL s.1) : bytesL (tkP n s).1 ∧ bytesL (tkP n s).2.1 := by
  unfold tkP
  split
  · exact ⟨fun x hx => h x (List.mem_of_mem_take hx), fun x hx => h x (List.mem_of_mem_drop hx)⟩
  · exact ⟨fun x hx => by simp at hx, fun x hx => by simp at hx⟩
theorem tk_len (n : Nat) (s : Rs) : (tkP n s).1.length ≤ n ∧ (tkP n s).2.1.length ≤ s.1.length := by
  unfold tkP
  split
  · exact ⟨by simp; omega, by simp⟩
  · simp

/-- a reader in memory: the block of its two cells; what is left is read in the world of the caller -/
structure RdS (w0 : World) (R : Nat) (w : World) (s : Rs) : Prop where
  low : w0.heap.size ≤ R
  below : Below w0.heap.size w0 w
  at_ : ∃ v, Stands w R #[v, .bool s.2] 45 ∧ Rd .u8 w0 v s.1
  bytes : bytesL s.1
  len : s.1.length ≤ 8192
theorem g_trans {a b c : World} {R : Nat} (h : a.grownBy b (some R)) (g : b.grownBy c (some R)) : a.grownBy c (some R) :=
  ⟨g.os.trans h.os, g.tape.trans h.tape, g.output.trans h.output, Nat.le_trans h.size g.size, fun k hk e => by rw [g.block k (Nat.lt_of_lt_of_le hk h.size) e, h.block k hk e]⟩
theorem g_set (w : World) (R j : Nat) (u : Value) : w.grownBy (w.setCell ⟨R, j, none⟩ u) (some R) :=
  ⟨rfl, rfl, rfl, by simp [World.setCell], fun k hk e => Below.heap_setCell _ _ _ k (fun e2 => e (by have : k = R := e2; rw [this]))⟩
theorem g_below {w w' : World} (R : Nat) (h : Below w.heap.size w w') : w.grownBy w' (some R) := ⟨h.os, h.tape, h.output, h.size, fun k hk _ => h.block k hk⟩
theorem g_refl (w : World) (R : Nat) : w.grownBy w (some R) := ⟨rfl, rfl, rfl, Nat.le_refl _, fun _ _ _ => rfl⟩

set_option maxHeartbeats 1000000 in
theorem w_take (w0 : World) (R : Nat) (s : Rs) (n : Nat) (w : World) (h : RdS w0 R w s) (hn : n ≤ 255) :
    Calls Try.prog 37 #[.pointer (some ⟨R, 0, none⟩), .int .i64 n] w fun e w' => ∃ v1, e = .returned v1 ∧ Rd .u8 w0 v1 (tkP n s).1 ∧ RdS w0 R w' (tkP n s).2 ∧ w.grownBy w' (some R) := by
  obtain ⟨hl, hb, ⟨v, st, hr⟩, hby, hle⟩ := h
  have f0 : w.cell? ⟨R, 0, none⟩ = some v := st.cell 0 _ rfl
  have f1 : w.cell? ⟨R, 1, none⟩ = some (.bool s.2) := st.cell 1 _ rfl
  have z0 := st.free 0
  have z1 := st.free 1
  have hlen := rd_len hr uB (P := Try.prog)
  have tb := tk_bytes n s hby
  have tl := tk_len n s
  by_cases h1 : n ≤ s.1.length
  · have e : tkP n s = (s.1.take n, s.1.drop n, s.2) := by unfold tkP; rw [if_pos h1]
    rw [e] at tb tl ⊢
    have hI : ¬ (s.1.length : Int) < n := by omega
    obtain ⟨va, ra, _, c1, _⟩ := rd_cut hr uB zB 0 n (by omega) h1
    obtain ⟨vb, rb, _, _, c2⟩ := rd_cut hr uB zB n s.1.length h1 (Nat.le_refl _)
    rw [List.drop_zero, Nat.sub_zero] at ra
    rw [List.take_of_length_le (by simp)] at rb
    have c1' := c1 rfl
    have c2' := c2 rfl
    obtain ⟨D, hD⟩ : ∃ D, s.1.drop n = D := ⟨_, rfl⟩
    rw [hD] at rb tb tl ⊢
    clear hD
    obtain ⟨ao, cp, hvb, _, _, _⟩ := rd_form rb
    subst hvb
    have sf := st.set 0 (.slice ao D.length cp)
    clear e c1 c2 h1
    go_enter Try.func37, Try.ntmps37
    go_wp2_with fail
    go_ret
    exact ⟨va, rfl, ra, ⟨hl, below_set hb R 0 _ hl, ⟨_, sf, rb⟩, tb.2, Nat.le_trans tl.2 hle⟩, g_set w R 0 _⟩
  · have e : tkP n s = ([], [], true) := by unfold tkP; rw [if_neg h1]
    rw [e]
    have hI : (s.1.length : Int) < n := by omega
    have sf := (st.set 0 (.slice none 0 0)).set 1 (.bool true)
    clear e h1
    go_enter Try.func37, Try.ntmps37
    go_wp2_with fail
    go_ret
    exact ⟨_, rfl, Rd_nil, ⟨hl, below_set (below_set hb R 0 _ hl) R 1 _ hl, ⟨_, sf, Rd_nil⟩, fun x hx => by simp at hx, by simp⟩, g_trans (g_set w R 0 _) (g_set _ R 1 _)⟩

set_option maxHeartbeats 1000000 in
theorem w_number (w0 : World) (R : Nat) (s : Rs) (n : Nat) (w : World) (h : RdS w0 R w s) (hn : n ≤ 4) :
    Calls Try.prog 34 #[.pointer (some ⟨R, 0, none⟩), .int .i64 n] w fun e w' => e = .returned (.int .u32 (nuP n s).1) ∧ RdS w0 R w' (nuP n s).2 ∧ w.grownBy w' (some R) := by
  have cT := w_take w0 R s n w h (by omega)
  have tb := (tk_bytes n s h.bytes).1
  have tl := (tk_len n s).1
  show Calls _ _ _ _ fun e w' => e = .returned (.int .u32 (nmF (tkP n s).1)) ∧ RdS w0 R w' (tkP n s).2 ∧ _
  obtain ⟨X, hX⟩ : ∃ X, (tkP n s).1 = X := ⟨_, rfl⟩
  obtain ⟨σ, hσ⟩ : ∃ σ, (tkP n s).2 = σ := ⟨_, rfl⟩
  rw [hX, hσ] at cT ⊢
  rw [hX] at tb tl
  have hXl : (X.length : Int) ≤ 4 := by omega
  clear hX hσ h
  go_enter Try.func34, Try.ntmps34
  go_wp2_with (go_at_call 37; refine cT.mono ?_; rintro e w1 ⟨v1, rfl, r1, s1, g1⟩; have hlen := rd_len r1 uB (P := Try.prog))
  go_loopw [5, 12] (fun U I wx => ∃ k : Nat, (k : Int) ≤ X.length ∧ I = .int .i64 k ∧ U = .int .u32 (nmF (X.take k)) ∧ wx = w1) (fun _ I _ => (X.length - intOf I).toNat)
  case atStart => exact ⟨0, by omega, rfl, rfl, rfl⟩
  case round =>
    obtain ⟨k, hk, rfl, rfl, rfl⟩ := hrel
    by_cases hlt : (k : Int) < X.length
    · obtain ⟨ad, b, q1, q2, q3, q4, q5⟩ := mem_at (r1.below s1.below) tb k (by omega) (by omega)
      have hkk : k < X.length := by omega
      have hsm := nm_small (X.take k) (fun x hx => tb x (List.mem_of_mem_take hx)) (by simp; omega)
      have hnx : Hid (nmF (X.take (k + 1)) = nmF (X.take k) * 256 + b) := by
        show _ = _
        rw [List.take_succ_eq_append_getElem hkk, nm_snoc]
        congr 1
        rw [← q5, List.getD_eq_getElem?_getD]
        simp [hkk]
      obtain ⟨a, ha⟩ : ∃ a, nmF (X.take k) = a := ⟨_, rfl⟩
      rw [ha] at hsm hnx ⊢
      have hor := or32Q a b hsm.1 q3 q4 (by omega)
      obtain ⟨m0, m1⟩ := hsm
      have hw : IntKind.u32.wrap (a * 256) = a * 256 := by rw [IntKind.wrap_u32]; omega
      clear ha q5
      go_wp2_with fail
      go_roundw
      case rel => exact ⟨k + 1, by omega, by go_num, by rw [hnx.out], trivial⟩
      case measure => simp [intOf]; omega
    · have e : Hid (X.take k = X) := List.take_of_length_le (by omega)
      go_wp2_with fail
      go_ret
      rw [e.out]
      exact ⟨rfl, s1, g1⟩
end Go.Proofs.Ytbllblikigogoaa
