/-
  bytes, Encode of the document's answer for layer 19.
-/
import Derived.Test.YtaiimfdcbdfbdaaDoorRv5
import Derived.Test.YtaiimfdcbdfbdaaDoorRp1
namespace Go.Proofs.YtaiimfdcbdfbdaaDoor
open Go.ChangeShapes Go.WideShapes Go.ChangeAt Go.RowKit
set_option linter.unusedVariables false
set_option linter.unusedSimpArgs false

theorem va_nine : ∀ (l : List Stt) (last : Int), vaG last l = true → last < 9 → (l.length : Int) ≤ 8 - last
  | [], last, _, h => by simp; omega
  | (n, v) :: l, last, h, _ => by
    simp only [vaG, Bool.and_eq_true, decide_eq_true_eq] at h
    have h1 := va_lt n
    have := va_nine l (vaF n) h.2.2.2 h1.1
    simp only [List.length_cons]
    omega
theorem va_blen : ∀ (l : List Stt), (∀ p ∈ l, p.1.size ≤ 12 ∧ p.2.size ≤ 128) → (vaB l).length ≤ 142 * l.length
  | [], _ => by simp [vaB]
  | (n, v) :: l, h => by
    obtain ⟨h1, h2⟩ := h (n, v) (by simp)
    simp only at h1 h2
    have := va_blen l (fun p hp => h p (by simp [hp]))
    rw [show (n, v) :: l = [(n, v)] ++ l from rfl, vaB_app, vaB_one]
    simp only [List.length_append, List.length_cons, List.length_nil, L_len]
    omega
theorem va_bytes (l : List Stt) : bytesL (vaB l) := by
  intro x hx
  unfold vaB at hx
  rw [List.mem_flatMap] at hx
  obtain ⟨p, _, hx⟩ := hx
  rcases List.mem_append.1 hx with hx | hx
  · exact LB_bytes _ x hx
  · rcases List.mem_cons.1 hx with rfl | hx
    · decide
    · rcases List.mem_append.1 hx with hx | hx
      · exact LB_bytes _ x hx
      · rw [List.mem_singleton.1 hx]; decide

set_option maxHeartbeats 2000000 in
set_option maxRecDepth 10000 in
theorem w_rbytes19 (v : Value) (l : List Stt) (w : World) (h : SlR 2 stR w v l) (hr : vaG (-1) l = true) :
    Calls Tryd.prog 38 #[v] w fun e w' => ∃ v', e = .returned v' ∧ Own8 w.heap.size w' v' (vaB l) ∧ Below w.heap.size w w' := by
  have hlen := slr_len h uSt (P := Tryd.prog)
  have h9 := va_nine l (-1) hr (by decide)
  have hsz := va_gs (by decide) hr
  obtain ⟨i0, hi, hz0, hz1, hz2⟩ := info_parts infoU8
  have b61 := fun W : World => box_below W (.cells #[.int .u8 61] 5)
  have b00 := fun W : World => box_below W (.cells #[.int .u8 0] 5)
  have r61 := fun W : World => rd_one (k := .u8) W 61 5
  have r00 := fun W : World => rd_one (k := .u8) W 0 5
  have hB9 : ∀ k, Hid ((vaB (l.take k)).length ≤ 142 * 9) := fun k => by
    show _ ≤ _
    have h1 := va_blen (l.take k) (fun p hp => hsz p (List.mem_of_mem_take hp))
    have h2 := List.length_take_le' k l
    omega
  clear hr
  go_enter Tryd.func38, Tryd.ntmps38
  go_wp2_with fail
  go_loopw [3, 4] (fun O I wx => ∃ k : Nat, k ≤ l.length ∧ I = .int .i64 k ∧ Own8 w.heap.size wx O (vaB (l.take k)) ∧ Below w.heap.size w wx) (fun _ I _ => (l.length - intOf I).toNat)
  case atStart => exact ⟨0, by omega, rfl, World.ownsRow_nil _ _ _ _, Below.refl _ _⟩
  case round =>
    obtain ⟨k, hk, rfl, ho, hg⟩ := hrel
    by_cases hlt : (k : Int) < l.length
    · have hkk : k < l.length := by omega
      obtain ⟨zb, zo, A, V, z1, z2', z3', z4, z5, z6⟩ := st_at h k hkk
      have z2 := below_cell hg z2'
      have z3 := below_cell hg z3'
      have hAV := hsz (A, V) (by rw [← z4]; exact List.getElem_mem hkk)
      have hns : Hid (vaB (l.take (k + 1)) = vaB (l.take k) ++ LB A ++ [61] ++ LB V ++ [0]) := by
        show _ = _
        rw [List.take_succ_eq_append_getElem hkk, z4, vaB_app, vaB_one]
        simp only [List.append_assoc]
        rfl
      have hRl := (hB9 k).out
      obtain ⟨R, hR⟩ : ∃ R, vaB (l.take k) = R := ⟨_, rfl⟩
      rw [hR] at ho hns hRl
      obtain ⟨a1, a2⟩ := hAV
      simp only at a1 a2
      have la : (LB A).length ≤ 12 := by rw [LB_len]; exact a1
      have lv : (LB V).length ≤ 128 := by rw [LB_len]; exact a2
      clear hR z4
      go_wp2_with (first
        | (at_builtin; refine wpList_append_rd (k := .u8) rfl _ _ 39 rfl w.heap.size 5 i0 1 Tryd.underlying39 hi hz0 hz1 hz2 v4 (R ++ LB A ++ [61] ++ LB V) rfl (own_below o4 (b00 w4)) _ [0] rfl (r00 w4) (by unfold maxLen; simp only [List.length_append, List.length_cons, List.length_nil]; omega) (by simp only [List.length_append, List.length_cons, List.length_nil]; omega) (by rw [size_al]; have := h4.size; omega) ?_; intro v5 w5 o5 g5; have h5 := below_grown (below_trans h4 (b00 w4)) g5 (fun k hk => (o4.lt k hk).1))
        | (at_builtin; refine wpList_append_rds rfl _ _ 39 9 rfl w.heap.size 5 i0 Tryd.underlying39 Tryd.underlying9 hi hz0 hz1 hz2 v3 (R ++ LB A ++ [61]) rfl o3 V rfl (by unfold maxLen; simp only [List.length_append, List.length_cons, List.length_nil]; omega) (by simp only [List.length_append, List.length_cons, List.length_nil]; omega) h3.size ?_; intro v4 w4 o4 g4; have h4 := below_grown h3 g4 (fun k hk => (o3.lt k hk).1))
        | (at_builtin; refine wpList_append_rd (k := .u8) rfl _ _ 39 rfl w.heap.size 5 i0 1 Tryd.underlying39 hi hz0 hz1 hz2 v2 (R ++ LB A) rfl (own_below o2 (b61 w2)) _ [61] rfl (r61 w2) (by unfold maxLen; simp only [List.length_append, List.length_cons, List.length_nil]; omega) (by simp only [List.length_append, List.length_cons, List.length_nil]; omega) (by rw [size_al]; have := h2.size; omega) ?_; intro v3 w3 o3 g3; have h3 := below_grown (below_trans h2 (b61 w2)) g3 (fun k hk => (o2.lt k hk).1); have y3 := below_cell h3 z3')
        | (at_builtin; refine wpList_append_rds rfl _ _ 39 9 rfl w.heap.size 5 i0 Tryd.underlying39 Tryd.underlying9 hi hz0 hz1 hz2 _ R rfl ho A rfl (by unfold maxLen; omega) (by omega) hg.size ?_; intro v2 w2 o2 g2; have h2 := below_grown hg g2 (fun k hk => (ho.lt k hk).1)))
      go_roundw
      case rel => exact ⟨k + 1, by omega, by go_num, by rw [hns.out]; exact o5, h5⟩
      case measure => simp [intOf]; omega
    · have hT : l.take k = l := List.take_of_length_le (by omega)
      rw [hT] at ho
      go_wp2_with fail
      go_ret
      exact ⟨_, rfl, ho, hg⟩
end Go.Proofs.YtaiimfdcbdfbdaaDoor
