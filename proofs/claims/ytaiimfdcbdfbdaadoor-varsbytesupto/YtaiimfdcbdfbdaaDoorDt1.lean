/-
  Value, Parse and Literal of the program's package digit return the plain functions, for all texts and bases.
-/
import Derived.Test.YtaiimfdcbdfbdaaDoorRri
import Derived.Test.YtaiimfdcbdfbdaaDoorShf
namespace Go.Proofs.YtaiimfdcbdfbdaaDoor
open Go.ChangeShapes Go.WideShapes Go.ChangeAt Go.RowKit
set_option linter.unusedVariables false
set_option linter.unusedSimpArgs false

/-- the base is fit -/
def fitB (b : Int) : Bool := decide (2 ≤ b ∧ b ≤ 36)
theorem w_fit (b : Int) (w : World) (g0 : 0 ≤ b) (g1 : b < 4294967296) : Calls Tryd.prog 55 #[.int .u32 b] w fun e w' => e = .returned (.bool (fitB b)) ∧ w' = w := by
  go_enter Tryd.func55, Tryd.ntmps55
  go_wp2
  all_goals go_ret
  all_goals exact ⟨ret_b (by unfold fitB; simp; try omega), rfl⟩

def dvA (c : Int) : Int := if dv c = 99 then 0 else dv c
def isA (c : Int) : Bool := decide (dv c < 99)
theorem w_any (c : Int) (w : World) (h0 : 0 ≤ c) (h1 : c < 256) : Calls Tryd.prog 67 #[.int .u8 c] w fun e w' => e = .returned (.tuple #[.int .u32 (dvA c), .bool (isA c)]) ∧ w' = w := by
  rcases (show (48 ≤ c ∧ c ≤ 57) ∨ (97 ≤ c ∧ c ≤ 122) ∨ (65 ≤ c ∧ c ≤ 90) ∨ (¬ (48 ≤ c ∧ c ≤ 57) ∧ ¬ (97 ≤ c ∧ c ≤ 122) ∧ ¬ (65 ≤ c ∧ c ≤ 90)) by omega) with ⟨a, b⟩ | ⟨a, b⟩ | ⟨a, b⟩ | ⟨a, b, d⟩
  all_goals go_enter Tryd.func67, Tryd.ntmps67
  all_goals go_wp2
  all_goals first | go_ret2 | go_ret
  all_goals first | (exfalso; omega) | exact ⟨ret_ib (by unfold dvA dv; omega) (by unfold isA dv; simp; try omega), rfl⟩

theorem isD_not (c b : Int) (h : isA c = false) : isD c b = false ∧ vl c b = 0 := by
  have d : isD c b = false := by unfold isA at h; unfold isD; simp at h ⊢; omega
  exact ⟨d, by unfold vl; rw [if_neg (by rw [d]; decide)]⟩
theorem isD_at (c b : Int) (h : isA c = true) (b0 : 2 ≤ b) (b1 : b ≤ 36) : (dvA c < b → isD c b = true ∧ vl c b = dvA c) ∧ (¬ dvA c < b → isD c b = false ∧ vl c b = 0) := by
  unfold isA at h; simp at h
  have e : dvA c = dv c := by unfold dvA; omega
  constructor
  · intro hl
    have d : isD c b = true := by unfold isD; simp; omega
    exact ⟨d, by unfold vl; rw [if_pos d, e]⟩
  · intro hl
    have d : isD c b = false := by unfold isD; simp; omega
    exact ⟨d, by unfold vl; rw [if_neg (by rw [d]; decide)]⟩
theorem dvA_of (c b : Int) (h : isD c b = true) : dvA c = vl c b := by
  unfold vl; rw [if_pos h]
  unfold isD at h; simp at h
  unfold dvA; omega

set_option maxHeartbeats 400000 in
theorem w_dvalue0 (c b : Int) (w : World) (h0 : 0 ≤ c) (h1 : c < 256) (g0 : 0 ≤ b) (g1 : b < 4294967296) :
    Calls Tryd.prog 66 #[.int .u8 c, .int .u32 b] w fun e w' => e = .returned (.tuple #[.int .u32 (vl c b), .bool (isD c b)]) ∧ w' = w := by
  cases hA : isA c
  · obtain ⟨e1, e2⟩ := isD_not c b hA
    rw [e1, e2]
    go_enter Tryd.func66, Tryd.ntmps66
    go_wp2_with (first | (go_at_call 67; refine (w_any _ _ h0 h1).mono ?_; rintro e w1 ⟨rfl, rfl⟩) | (go_at_call 55; refine (w_fit _ _ g0 g1).mono ?_; rintro e w1 ⟨rfl, rfl⟩))
    go_ret2
    exact ⟨rfl, rfl⟩
  · cases hf : fitB b
    · obtain ⟨e1, e2⟩ := isD_unfit c b (by unfold fitB at hf; simp at hf; omega)
      rw [e1, e2]
      go_enter Tryd.func66, Tryd.ntmps66
      go_wp2_with (first | (go_at_call 67; refine (w_any _ _ h0 h1).mono ?_; rintro e w1 ⟨rfl, rfl⟩) | (go_at_call 55; refine (w_fit _ _ g0 g1).mono ?_; rintro e w1 ⟨rfl, rfl⟩))
      go_ret2
      exact ⟨rfl, rfl⟩
    · have hb : 2 ≤ b ∧ b ≤ 36 := by unfold fitB at hf; simpa using hf
      obtain ⟨hy, hn⟩ := isD_at c b hA hb.1 hb.2
      by_cases hl : dvA c < b
      · obtain ⟨e1, e2⟩ := hy hl
        rw [e1, e2]
        clear hy hn e1 e2 hb
        go_enter Tryd.func66, Tryd.ntmps66
        go_wp2_with (first | (go_at_call 67; refine (w_any _ _ h0 h1).mono ?_; rintro e w1 ⟨rfl, rfl⟩) | (go_at_call 55; refine (w_fit _ _ g0 g1).mono ?_; rintro e w1 ⟨rfl, rfl⟩))
        go_ret2
        exact ⟨rfl, rfl⟩
      · obtain ⟨e1, e2⟩ := hn hl
        rw [e1, e2]
        clear hy hn e1 e2 hb
        go_enter Tryd.func66, Tryd.ntmps66
        go_wp2_with (first | (go_at_call 67; refine (w_any _ _ h0 h1).mono ?_; rintro e w1 ⟨rfl, rfl⟩) | (go_at_call 55; refine (w_fit _ _ g0 g1).mono ?_; rintro e w1 ⟨rfl, rfl⟩))
        go_ret2
        exact ⟨rfl, rfl⟩
theorem w_dvalue (c b : Int) (w : World) (h0 : 0 ≤ c) (h1 : c < 256) (g0 : 0 ≤ b) (g1 : b < 4294967296) :
    Calls Tryd.prog 66 #[.int .u8 c, .int .u32 b] w fun e w' => e = .returned (.tuple #[.int .u32 (vl c b), .bool (isD c b)]) ∧ Gr w w' :=
  (w_dvalue0 c b w h0 h1 g0 g1).mono (by rintro e w' ⟨rfl, rfl⟩; exact ⟨rfl, Gr.refl _⟩)

/-- a text of digits alone, and not empty -/
def isN (b : Int) (l : List Int) : Bool := allD b l && !l.isEmpty
set_option maxHeartbeats 400000 in
theorem w_alldig (s : ByteArray) (b : Int) (w : World) (hs : s.size ≤ maxLen) (g0 : 0 ≤ b) (g1 : b < 4294967296) :
    Calls Tryd.prog 57 #[.string s, .int .u32 b] w fun e w' => e = .returned (.bool (isN b (L s))) ∧ w' = w := by
  unfold maxLen at hs
  go_enter Tryd.func57, Tryd.ntmps57
  go_wp2_with fail
  go_loopw [10] (fun i wx => ∃ k : Nat, (k : Int) ≤ s.size ∧ i = .int .i64 k ∧ Hid (allD b ((L s).take k) = true) ∧ wx = w) (fun i _ => (s.size - intOf i).toNat)
  case atStart => exact ⟨0, by omega, rfl, by show _ = _; simp [allD], rfl⟩
  case round =>
    obtain ⟨k, hk, rfl, hA, hwx⟩ := hrel
    subst hwx
    by_cases hlt : (k : Int) < s.size
    · have hks : k < s.size := by omega
      obtain ⟨c0, c1⟩ := L_bd s k hks
      have ht : Hid ((L s).take (k + 1) = (L s).take k ++ [(s[k].toNat : Int)]) := L_take s k hks
      cases hd : isD (s[k].toNat : Int) b
      · have hfin : Hid (isN b (L s) = false) := by
          show _ = _
          have e : L s = (L s).take k ++ (s[k].toNat : Int) :: (L s).drop (k + 1) := by rw [← L_drop s k hks, List.take_append_drop]
          have : allD b (L s) = false := by rw [e]; exact allD_mid b _ _ _ hd
          unfold isN; simp [this]
        go_wp2_with (go_at_call 66; refine (w_dvalue0 _ _ _ c0 c1 (by omega) (by omega)).mono ?_; rintro e w1 ⟨rfl, rfl⟩)
        go_ret
        exact ⟨by rw [hfin.out]; rfl, rfl⟩
      · have hA2 : Hid (allD b ((L s).take (k + 1)) = true) := by show _ = _; rw [ht.out, allD_snoc, hA.out, hd]; rfl
        go_wp2_with (go_at_call 66; refine (w_dvalue0 _ _ _ c0 c1 (by omega) (by omega)).mono ?_; rintro e w1 ⟨rfl, rfl⟩)
        go_roundw
        case rel => exact ⟨k + 1, by omega, by go_num, hA2, by first | rfl | trivial⟩
        case measure => simp [intOf]; omega
    · obtain rfl : k = s.size := by omega
      have htk : (L s).take s.size = L s := List.take_of_length_le (by rw [L_len]; exact Nat.le_refl _)
      rw [htk] at hA
      clear htk
      go_wp2_with fail
      go_ret
      exact ⟨ret_b (by unfold isN; rw [hA.out]; rw [Lib.toList_data]; simp [L]), rfl⟩

theorem num_app (b : Int) (l m : List Int) (b0 : 2 ≤ b) (h : 4294967296 ≤ num b l) (hm : ∀ c ∈ m, 0 ≤ c ∧ c < 256) : 4294967296 ≤ num b (l ++ m) := by
  induction m generalizing l with
  | nil => simpa using h
  | cons c m ih =>
    have e : l ++ c :: m = (l ++ [c]) ++ m := by simp
    rw [e]
    apply ih
    · rw [num_snoc]
      have := mul_ge _ b h b0
      have := vl_bd c b (hm c (by simp)).1 (hm c (by simp)).2
      omega
    · intro x hx; exact hm x (by simp [hx])
theorem L_mem (s : ByteArray) : ∀ c ∈ L s, 0 ≤ c ∧ c < 256 := by
  intro c hc
  unfold L at hc
  rw [List.mem_map] at hc
  obtain ⟨x, _, rfl⟩ := hc
  have := x.toNat_lt
  omega

/-- what the digits come to -/
def smT (b : Int) (l : List Int) : Int × Int := if 4294967296 ≤ num b l then (0, 4) else (num b l, 0)
set_option maxHeartbeats 1000000 in
set_option maxRecDepth 10000 in
theorem w_sum (s : ByteArray) (b : Int) (w : World) (hs : s.size ≤ maxLen) (b0 : 2 ≤ b) (b1 : b ≤ 36) (hD : allD b (L s) = true) :
    Calls Tryd.prog 58 #[.string s, .int .u32 b] w fun e w' => e = .returned (.tuple #[.int .u32 (smT b (L s)).1, .int .i64 (smT b (L s)).2]) ∧ w' = w := by
  unfold maxLen at hs
  have HD := hid hD
  clear hD
  go_enter Tryd.func58, Tryd.ntmps58
  go_wp2_with fail
  go_loopw [6, 12] (fun N i wx => ∃ (k : Nat) (n : Int), (k : Int) ≤ s.size ∧ i = .int .i64 k ∧ N = .int .u64 n ∧ Hid (n = num b ((L s).take k)) ∧ 0 ≤ n ∧ n < 4294967296 ∧ wx = w) (fun _ i _ => (s.size - intOf i).toNat)
  case atStart => exact ⟨0, 0, by omega, rfl, rfl, by show _ = _; simp [num], by omega, by omega, rfl⟩
  case round =>
    obtain ⟨k, n, hk, rfl, rfl, hn, n0, n1, hwx⟩ := hrel
    subst hwx
    by_cases hlt : (k : Int) < s.size
    · have hks : k < s.size := by omega
      obtain ⟨c0, c1⟩ := L_bd s k hks
      have ht : Hid ((L s).take (k + 1) = (L s).take k ++ [(s[k].toNat : Int)]) := L_take s k hks
      have hd : Hid (isD (s[k].toNat : Int) b = true) := by
        have h := HD.out
        show _ = _
        unfold allD at h
        rw [List.all_eq_true] at h
        have := h (s[k].toNat : Int) (by rw [← L_get s k hks]; exact List.getElem_mem _)
        exact this
      have ev : Hid (dvA (s[k].toNat : Int) = vl (s[k].toNat : Int) b) := dvA_of _ _ hd.out
      obtain ⟨v0, v1⟩ := vl_bd (s[k].toNat : Int) b c0 c1
      rw [← ev.out] at v0 v1
      obtain ⟨m0, m1⟩ := mul_b n b n0 n1 b0 b1
      have hnum : Hid (num b ((L s).take (k + 1)) = n * b + dvA (s[k].toNat : Int)) := by show _ = _; rw [ht.out, num_snoc, ← hn.out, ev.out]
      rcases (show 4294967295 < n * b + dvA (s[k].toNat : Int) ∨ n * b + dvA (s[k].toNat : Int) ≤ 4294967295 by omega) with hbig | hbig
      · have hfin : Hid (smT b (L s) = (0, 4)) := by
          show _ = _
          have e : L s = (L s).take (k + 1) ++ (L s).drop (k + 1) := by rw [List.take_append_drop]
          unfold smT
          rw [if_pos]
          rw [e]
          exact num_app b _ _ b0 (by rw [hnum.out]; omega) (fun c hc => L_mem s c (List.mem_of_mem_drop hc))
        go_wp2_with (go_at_call 67; refine (w_any _ _ c0 c1).mono ?_; rintro e w1 ⟨rfl, rfl⟩)
        go_ret2
        exact ⟨by rw [hfin.out]; rfl, rfl⟩
      · go_wp2_with (go_at_call 67; refine (w_any _ _ c0 c1).mono ?_; rintro e w1 ⟨rfl, rfl⟩)
        go_roundw
        case rel => exact ⟨k + 1, n * b + dvA (s[k].toNat : Int), by omega, by go_num, rfl, hid (by rw [hnum.out]), by omega, by omega, by first | rfl | trivial⟩
        case measure => simp [intOf]; omega
    · obtain rfl : k = s.size := by omega
      have htk : (L s).take s.size = L s := List.take_of_length_le (by rw [L_len]; exact Nat.le_refl _)
      rw [htk] at hn
      clear htk
      have hfin : Hid (smT b (L s) = (n, 0)) := by
        show _ = _
        unfold smT; rw [← hn.out, if_neg (by omega)]
      go_wp2_with fail
      go_ret2
      exact ⟨by rw [hfin.out]; exact ret_ii rfl rfl, rfl⟩

/-- a text without its sign, and whether it had one -/
def cutT (s : ByteArray) : ByteArray := ⟨(Lib.trimPrefix s.data.toList (⟨#[45]⟩ : ByteArray).data.toList).toArray⟩
def sgn (s : ByteArray) : Bool := Lib.hasPrefix s.data.toList (⟨#[45]⟩ : ByteArray).data.toList
theorem w_cut (s : ByteArray) (w : World) : Calls Tryd.prog 56 #[.string s, .string ⟨#[45]⟩] w fun e w' => e = .returned (.tuple #[.string (cutT s), .bool (sgn s)]) ∧ w' = w :=
  strings_CutPrefix s ⟨#[45]⟩ w
theorem cut_L (s : ByteArray) : (sgn s = true ∧ (L s).head? = some 45 ∧ L (cutT s) = (L s).tail) ∨ (sgn s = false ∧ ¬ (L s).head? = some 45 ∧ L (cutT s) = L s) := by
  obtain ⟨⟨l⟩⟩ := s
  cases l with
  | nil => right; exact ⟨rfl, by simp [L], rfl⟩
  | cons x l =>
    by_cases hx : x = 45
    · left
      subst hx
      refine ⟨?_, ?_, ?_⟩
      · simp [sgn, Lib.hasPrefix]
      · simp [L]
      · simp [cutT, L, Lib.trimPrefix, Lib.hasPrefix]
    · right
      have h2 : ¬ (45 : UInt8) = x := fun h => hx h.symm
      refine ⟨?_, ?_, ?_⟩
      · simp [sgn, Lib.hasPrefix, List.isPrefixOf, h2]
      · simp only [L, List.map_cons, List.head?_cons, Option.some.injEq]
        intro h
        apply hx
        apply UInt8.toNat_inj.1
        have : x.toNat = 45 := by omega
        rw [this]; rfl
      · simp [cutT, L, Lib.trimPrefix, Lib.hasPrefix, h2]
theorem cut_size (s : ByteArray) : (cutT s).size ≤ s.size := by
  rw [← L_len, ← L_len]
  rcases cut_L s with ⟨_, _, h⟩ | ⟨_, _, h⟩ <;> rw [h] <;> simp

theorem prs_cut (s : ByteArray) (b : Int) (b0 : 2 ≤ b) (b1 : b ≤ 36) : prs (L s) b = prsT (sgn s) (L (cutT s)) b := by
  unfold prs
  rw [if_neg (by omega)]
  rcases cut_L s with ⟨h1, h2, h3⟩ | ⟨h1, h2, h3⟩
  · rw [if_pos h2, h1, h3]
  · rw [if_neg h2, h1, h3]
theorem prsT_not (neg : Bool) (l : List Int) (b : Int) (h : isN b l = false) : prsT neg l b = (0, 15) := by
  unfold prsT
  unfold isN at h
  by_cases hl : l = []
  · rw [if_pos hl]
  · rw [if_neg hl, if_pos]
    cases h2 : allD b l
    · rfl
    · rw [h2] at h; simp at h; exact absurd h hl
theorem prsT_is (neg : Bool) (l : List Int) (b : Int) (h : isN b l = true) (hn : 0 ≤ num b l) : prsT neg l b = (if neg = true then (4294967296 - (smT b l).1) % 4294967296 else (smT b l).1, (smT b l).2) ∧ allD b l = true ∧ 0 ≤ (smT b l).1 ∧ (smT b l).1 < 4294967296 := by
  unfold isN at h
  simp at h
  obtain ⟨h1, h2⟩ := h
  unfold prsT smT
  rw [if_neg h2, if_neg (by rw [h1]; decide)]
  by_cases hb : 4294967296 ≤ num b l
  · rw [if_pos hb, if_pos hb]
    refine ⟨?_, h1, by decide, by decide⟩
    cases neg <;> rfl
  · rw [if_neg hb, if_neg hb]
    exact ⟨rfl, h1, by simpa using hn, by simp; omega⟩
theorem num_nn (b : Int) (l : List Int) (b0 : 0 ≤ b) (h : ∀ c ∈ l, 0 ≤ c ∧ c < 256) : 0 ≤ num b l := by
  have : ∀ (m : List Int) (a : Int), 0 ≤ a → (∀ c ∈ m, 0 ≤ c ∧ c < 256) → 0 ≤ m.foldl (fun a c => a * b + vl c b) a := by
    intro m
    induction m with
    | nil => intro a ha _; simpa using ha
    | cons c m ih =>
      intro a ha hm
      rw [List.foldl_cons]
      apply ih
      · have := Int.mul_nonneg ha b0
        have := vl_bd c b (hm c (by simp)).1 (hm c (by simp)).2
        omega
      · intro x hx; exact hm x (by simp [hx])
  exact this l 0 (by omega) h

set_option maxHeartbeats 1000000 in
theorem w_dparse0 (s : ByteArray) (b : Int) (w : World) (hs : s.size ≤ maxLen) (g0 : 0 ≤ b) (g1 : b < 4294967296) :
    Calls Tryd.prog 50 #[.string s, .int .u32 b] w fun e w' => e = .returned (.tuple #[.int .u32 (prs (L s) b).1, .int .i64 (prs (L s) b).2]) ∧ w' = w := by
  cases hf : fitB b
  · have e1 : Hid (prs (L s) b = (0, 1)) := by show _ = _; unfold prs; rw [if_pos (by unfold fitB at hf; simp at hf; omega)]
    go_enter Tryd.func50, Tryd.ntmps50
    go_wp2_with (first | (go_at_call 55; refine (w_fit _ _ g0 g1).mono ?_; rintro e w1 ⟨rfl, rfl⟩))
    go_ret2
    exact ⟨by rw [e1.out]; rfl, rfl⟩
  · have hb : 2 ≤ b ∧ b ≤ 36 := by unfold fitB at hf; simpa using hf
    obtain ⟨b0, b1⟩ := hb
    have hz : Hid ((cutT s).size ≤ maxLen) := Nat.le_trans (cut_size s) hs
    clear hs
    cases hN : isN b (L (cutT s))
    · have e1 : Hid (prs (L s) b = (0, 15)) := by show _ = _; rw [prs_cut s b b0 b1]; exact prsT_not _ _ _ hN
      go_enter Tryd.func50, Tryd.ntmps50
      go_wp2_with (first | (go_at_call 55; refine (w_fit _ _ g0 g1).mono ?_; rintro e w1 ⟨rfl, rfl⟩) | (go_at_call 56; refine (w_cut _ _).mono ?_; rintro e w1 ⟨rfl, rfl⟩) | (go_at_call 57; refine (w_alldig _ _ _ hz.out g0 g1).mono ?_; rintro e w1 ⟨rfl, rfl⟩))
      go_ret2
      exact ⟨by rw [e1.out]; rfl, rfl⟩
    · obtain ⟨p1, p2, p3, p4⟩ := prsT_is (sgn s) (L (cutT s)) b hN (num_nn b _ g0 (L_mem _))
      rw [prs_cut s b b0 b1, p1]
      clear p1
      have P2 := hid p2
      clear p2
      cases hg : sgn s
      · go_enter Tryd.func50, Tryd.ntmps50
        go_wp2_with (first | (go_at_call 55; refine (w_fit _ _ g0 g1).mono ?_; rintro e w1 ⟨rfl, rfl⟩) | (go_at_call 56; refine (w_cut _ _).mono ?_; rintro e w1 ⟨rfl, rfl⟩) | (go_at_call 57; refine (w_alldig _ _ _ hz.out g0 g1).mono ?_; rintro e w1 ⟨rfl, rfl⟩) | (go_at_call 58; refine (w_sum _ _ _ hz.out b0 b1 P2.out).mono ?_; rintro e w1 ⟨rfl, rfl⟩))
        go_ret2
        exact ⟨ret_ii (by simp) rfl, rfl⟩
      · go_enter Tryd.func50, Tryd.ntmps50
        go_wp2_with (first | (go_at_call 55; refine (w_fit _ _ g0 g1).mono ?_; rintro e w1 ⟨rfl, rfl⟩) | (go_at_call 56; refine (w_cut _ _).mono ?_; rintro e w1 ⟨rfl, rfl⟩) | (go_at_call 57; refine (w_alldig _ _ _ hz.out g0 g1).mono ?_; rintro e w1 ⟨rfl, rfl⟩) | (go_at_call 58; refine (w_sum _ _ _ hz.out b0 b1 P2.out).mono ?_; rintro e w1 ⟨rfl, rfl⟩))
        go_ret2
        exact ⟨ret_ii (by simp; try omega) rfl, rfl⟩
theorem w_dparse (s : ByteArray) (b : Int) (w : World) (hs : s.size ≤ maxLen) (g0 : 0 ≤ b) (g1 : b < 4294967296) :
    Calls Tryd.prog 50 #[.string s, .int .u32 b] w fun e w' => e = .returned (.tuple #[.int .u32 (prs (L s) b).1, .int .i64 (prs (L s) b).2]) ∧ Gr w w' :=
  (w_dparse0 s b w hs g0 g1).mono (by rintro e w' ⟨rfl, rfl⟩; exact ⟨rfl, Gr.refl _⟩)
end Go.Proofs.YtaiimfdcbdfbdaaDoor
