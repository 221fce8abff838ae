/-
  Encode and Decode of the landed package vars.
-/
import Derived.Test.YtaiimfdcbdfbdaaDoorVa6
import Derived.Test.YtaiimfdcbdfbdaaDoorRv7
namespace Go.Proofs.YtaiimfdcbdfbdaaDoor
open Go.ChangeShapes Go.WideShapes Go.ChangeAt Go.RowKit
set_option linter.unusedVariables false
set_option linter.unusedSimpArgs false

set_option maxHeartbeats 2000000 in
set_option maxRecDepth 100000 in
theorem w_pencode19 (v : Value) (l : List Stt) (w : World) (hT : Tab w) (h : SlR 2 stR w v l) :
    Calls Tryd.prog 24 #[v] w fun e w' => ∃ v', e = .returned (.tuple #[v', .int .i64 (vaEn l).2]) ∧ Rd .u8 w' v' (vaEn l).1 ∧ Below w.heap.size w w' := by
  have cR := w_pright19 v l w hT h
  have hlen := slr_len h uSt (P := Tryd.prog)
  unfold vaEn
  cases hr : vaG (-1) l
  · rw [hr] at cR
    simp only [Bool.false_eq_true, if_false]
    clear hr
    go_enter Tryd.func24, Tryd.ntmps24
    go_wp2_with (go_at_call 20; refine cR.mono ?_; rintro e w1 ⟨rfl, b1⟩)
    go_ret2
    exact ⟨_, rfl, Rd_nil, b1⟩
  · rw [hr] at cR
    simp only [if_true]
    have h9 := va_nine l (-1) hr (by decide)
    have hsz := va_gs (by decide) hr
    obtain ⟨i0, hi, hz0, hz1, hz2⟩ := info_parts infoU8
    have b61 := fun W : World => box_below W (.cells #[.int .u8 61] 5)
    have b00 := fun W : World => box_below W (.cells #[.int .u8 0] 5)
    have r61 := fun W : World => rd_one (k := .u8) W 61 5
    have r00 := fun W : World => rd_one (k := .u8) W 0 5
    have hB9 : ∀ k, Hid ((vaB (l.take k)).length ≤ 142 * 9) := fun k => by
      show _ ≤ _
      have h1 := va_blen (l.take k) (fun p hp => hsz p (List.mem_of_mem_take hp))
      have h2 := List.length_take_le' k l
      omega
    clear hr
    go_enter Tryd.func24, Tryd.ntmps24
    go_wp2_with (go_at_call 20; refine cR.mono ?_; rintro e w1 ⟨rfl, b1⟩)
    go_loopw [4, 12] (fun O I wx => ∃ k : Nat, k ≤ l.length ∧ I = .int .i64 k ∧ Own8 w.heap.size wx O (vaB (l.take k)) ∧ Below w.heap.size w wx) (fun _ I _ => (l.length - intOf I).toNat)
    case atStart => exact ⟨0, by omega, rfl, World.ownsRow_nil _ _ _ _, b1⟩
    case round =>
      obtain ⟨k, hk, rfl, ho0, hg0⟩ := hrel
      by_cases hlt : (k : Int) < l.length
      · have hkk : k < l.length := by omega
        obtain ⟨zb, zo, A, V, z1, z2', z3', z4, z5, z6⟩ := st_at h k hkk
        have z2 := below_cell hg0 z2'
        have z3 := below_cell hg0 z3'
        have hAV := hsz (A, V) (by rw [← z4]; exact List.getElem_mem hkk)
        have hns : Hid (vaB (l.take (k + 1)) = vaB (l.take k) ++ LB A ++ [61] ++ LB V ++ [0]) := by
          show _ = _
          rw [List.take_succ_eq_append_getElem hkk, z4, vaB_app, vaB_one]
          simp only [List.append_assoc]
          rfl
        have hRl := (hB9 k).out
        obtain ⟨R, hR⟩ : ∃ R, vaB (l.take k) = R := ⟨_, rfl⟩
        rw [hR] at ho0 hns hRl
        obtain ⟨a1, a2⟩ := hAV
        simp only at a1 a2
        have la : (LB A).length ≤ 12 := by rw [LB_len]; exact a1
        have lv : (LB V).length ≤ 128 := by rw [LB_len]; exact a2
        have bx := box_below wr (.cells #[.string A, .string V] 46)
        have s0 := stands_new wr #[.string A, .string V] 46
        have x0 := s0.cell 0 _ rfl
        have x1 := s0.cell 1 _ rfl
        have ho := own_below ho0 bx
        have hg := below_trans hg0 bx
        clear hR z4
        go_wp2_with (first
          | (at_builtin; refine wpList_append_rd (k := .u8) rfl _ _ 39 rfl w.heap.size 5 i0 1 Tryd.underlying39 hi hz0 hz1 hz2 v4 (R ++ LB A ++ [61] ++ LB V) rfl (own_below o4 (b00 w4)) _ [0] rfl (r00 w4) (by unfold maxLen; simp only [List.length_append, List.length_cons, List.length_nil]; omega) (by simp only [List.length_append, List.length_cons, List.length_nil]; omega) (by rw [size_al]; have := h4.size; omega) ?_; intro v5 w5 o5 g5; have h5 := below_grown (below_trans h4 (b00 w4)) g5 (fun k hk => (o4.lt k hk).1))
          | (at_builtin; refine wpList_append_rds rfl _ _ 39 9 rfl w.heap.size 5 i0 Tryd.underlying39 Tryd.underlying9 hi hz0 hz1 hz2 v3 (R ++ LB A ++ [61]) rfl o3 V rfl (by unfold maxLen; simp only [List.length_append, List.length_cons, List.length_nil]; omega) (by simp only [List.length_append, List.length_cons, List.length_nil]; omega) h3.size ?_; intro v4 w4 o4 g4; have h4 := below_grown h3 g4 (fun k hk => (o3.lt k hk).1))
          | (at_builtin; refine wpList_append_rd (k := .u8) rfl _ _ 39 rfl w.heap.size 5 i0 1 Tryd.underlying39 hi hz0 hz1 hz2 v2 (R ++ LB A) rfl (own_below o2 (b61 w2)) _ [61] rfl (r61 w2) (by unfold maxLen; simp only [List.length_append, List.length_cons, List.length_nil]; omega) (by simp only [List.length_append, List.length_cons, List.length_nil]; omega) (by rw [size_al]; have := h2.size; omega) ?_; intro v3 w3 o3 g3; have h3 := below_grown (below_trans h2 (b61 w2)) g3 (fun k hk => (o2.lt k hk).1); have s3 := (s2.below (b61 w2)).grown g3 (stands_apart (s2.below (b61 w2)) (own_below o2 (b61 w2)) (by decide)); have y3 := s3.cell 1 _ rfl)
          | (at_builtin; refine wpList_append_rds rfl _ _ 39 9 rfl w.heap.size 5 i0 Tryd.underlying39 Tryd.underlying9 hi hz0 hz1 hz2 _ R rfl ho A rfl (by unfold maxLen; omega) (by omega) hg.size ?_; intro v2 w2 o2 g2; have h2 := below_grown hg g2 (fun k hk => (ho.lt k hk).1); have s2 := s0.grown g2 (stands_apart s0 ho (by decide))))
        go_roundw
        case rel => exact ⟨k + 1, by omega, by go_num, by rw [hns.out]; exact o5, h5⟩
        case measure => simp [intOf]; omega
      · have hTk : l.take k = l := List.take_of_length_le (by omega)
        rw [hTk] at ho0
        have ro := (Rd_own ho0).1
        have hlo := rd_len ro uB (P := Tryd.prog)
        clear hTk
        by_cases hbig : (248 : Int) < (vaB l).length
        · have hx : 248 < (vaB l).length := by omega
          go_wp2_with fail
          go_ret2
          exact ⟨_, rfl, Rd_nil, hg0⟩
        · have hx : ¬ 248 < (vaB l).length := by omega
          go_wp2_with fail
          go_ret2
          exact ⟨_, rfl, ro, hg0⟩

theorem vaG_app : ∀ (a b : List Stt) (last : Int), vaG last (a ++ b) = (vaG last a && vaG (vaE last a) b)
  | [], b, last => by simp [vaG, vaE]
  | (n, u) :: a, b, last => by
    have := vaG_app a b (vaF n)
    simp only [List.cons_append, vaG, vaE, this, Bool.and_assoc]
theorem vaX_pre : ∀ (r cur : List Int) (eq : Option Nat) (out l : List Stt), vaX r cur eq out = some l → ∃ m, l = out ++ m
  | [], cur, eq, out, l, h => by
    simp only [vaX] at h
    split at h
    · injection h with h; exact ⟨[], by simp [h]⟩
    · cases h
  | b :: r, cur, eq, out, l, h => by
    simp only [vaX] at h
    split at h
    · cases eq with
      | none => simp at h
      | some e =>
        simp only at h
        obtain ⟨m, hm⟩ := vaX_pre r [] none _ l h
        exact ⟨_, by rw [hm, List.append_assoc]⟩
    · exact vaX_pre r _ _ out l h
theorem vaDe_bad {b r : List Int} {out : List Stt} {A V : ByteArray} (h : vaX b [] none [] = vaX r [] none (out ++ [(A, V)])) (hf : fwF (vaE (-1) out) A V = false) : vaDe b = ([], 15) := by
  cases hx : vaX r [] none (out ++ [(A, V)]) with
  | none => exact vaDe_none (h.trans hx)
  | some l =>
    rw [vaDe_some (h.trans hx)]
    obtain ⟨m, rfl⟩ := vaX_pre _ _ _ _ _ hx
    have : vaG (-1) (out ++ [(A, V)] ++ m) = false := by
      rw [List.append_assoc, vaG_app, List.singleton_append, vaG_cons, hf, Bool.false_and, Bool.and_false]
    rw [this]
    rfl
theorem va_step {out : List Stt} {A V : ByteArray} (hg : vaG (-1) out = true) (hf : fwF (vaE (-1) out) A V = true) : vaG (-1) (out ++ [(A, V)]) = true ∧ vaE (-1) (out ++ [(A, V)]) = vaF A := by
  simp only [fwF, kpF, Bool.and_eq_true, decide_eq_true_eq] at hf
  exact va_snoc out (-1) A V hg hf.1 hf.2.1 hf.2.2
theorem vaE_bd {out : List Stt} (hg : vaG (-1) out = true) : -1 ≤ vaE (-1) out ∧ vaE (-1) out < 9 := by
  have h1 : ∀ (l : List Stt) (last : Int), last < 9 → vaE last l < 9 := by
    intro l
    induction l with
    | nil => intro last h; exact h
    | cons p l ih => intro last h; obtain ⟨n, u⟩ := p; exact ih _ (va_lt n).1
  have h2 : ∀ (l : List Stt) (last : Int), -1 ≤ last → -1 ≤ vaE last l := by
    intro l
    induction l with
    | nil => intro last h; exact h
    | cons p l ih => intro last h; obtain ⟨n, u⟩ := p; exact ih _ (va_lt n).2
  exact ⟨h2 _ _ (by decide), h1 _ _ (by decide)⟩

end Go.Proofs.YtaiimfdcbdfbdaaDoor
