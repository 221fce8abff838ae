/-
  Numbers and texts decoded, one by one and in rows, as package prop answers them.
-/
import Derived.Test.YtamhcpejebonmabDoorPs1
namespace Go.Proofs.YtamhcpejebonmabDoor
open Go.ChangeShapes Go.WideShapes Go.ChangeAt Go.RowKit
set_option linter.unusedVariables false
set_option linter.unusedSimpArgs false

theorem spl_first (l : List Int) (k : Nat) (h : ∀ x ∈ l.take k, ¬ x = 0) : spl 0 [] l = spl 0 (l.take k) (l.drop k) := by
  conv => lhs; rw [← List.take_append_drop k l]
  rw [spl_skip 0 _ _ h, List.nil_append]
theorem getElem_of_split {l : List Int} {k : Nat} {c : Int} (hk : k < l.length) (h : l = l.take k ++ c :: l.drop (k + 1)) : l[k] = c := by
  have e : l[k]? = some c := by
    conv => lhs; rw [h]
    rw [List.getElem?_append_right (by simp; omega)]
    simp [Nat.min_eq_left (Nat.le_of_lt hk)]
  rw [List.getElem?_eq_getElem hk] at e
  exact Option.some.inj e
theorem deT_at {l : List Int} {i : Int} (h : AtB l 0 i) : (i = -1 ∧ deTF l = ([], [], 2)) ∨ ∃ k : Nat, i = k ∧ k < l.length ∧ deTF l = (l.take k, l.drop (k + 1), 0) := by
  rcases h with ⟨rfl, h⟩ | ⟨k, rfl, hk, he, h⟩
  · refine Or.inl ⟨rfl, deT_miss l ?_⟩
    have := spl_first l l.length (by rw [List.take_length]; exact h)
    rwa [List.take_length, List.drop_length] at this
  · exact Or.inr ⟨k, rfl, hk, deT_hit l k hk (getElem_of_split hk he) (spl_first l k h)⟩

set_option maxHeartbeats 1000000 in
set_option maxRecDepth 100000 in
/-- the same with the place told ahead -/
theorem w_bibE (v : Value) (xs : List Int) (w : World) (h : Rd .u8 w v xs) (hB : bytesL xs) :
    ∃ i, AtB xs 0 i ∧ Calls Tryd.prog 17 #[v, .int .u8 0] w fun e w' => e = .returned (.int .i64 i) ∧ w' = w := by
  obtain ⟨i, hi, hrun⟩ := bib_run v xs 0 w h hB (by decide) (by decide)
  refine ⟨i, hi, ?_⟩
  go_enter Tryd.func17, Tryd.ntmps17
  go_wp2
  rw [run_callFunc_extern Tryd.func23 (by kernel_rfl) (by kernel_rfl) (by kernel_rfl) (e := Extern.BytealgIndexByte.indexByte) (by kernel_rfl), hrun]
  simp only [Result.andThen]
  rw [Oper.upon_value]
  go_wp2
  go_ret
  exact ⟨rfl, rfl⟩

theorem or_join (y b k : Nat) (h : b < 2 ^ k) : (y * 2 ^ k ||| b) = y * 2 ^ k + b := by
  rw [Nat.mul_comm, Nat.two_pow_add_eq_or_of_lt h]
theorem or32 (y b : Int) (k : Nat) (y0 : 0 ≤ y) (b0 : 0 ≤ b) (hb : b < 2 ^ k) (hy : y * 2 ^ k + b < 4294967296) : bits .or .u32 (y * 2 ^ k) b = y * 2 ^ k + b := by
  obtain ⟨n, rfl⟩ := Int.eq_ofNat_of_zero_le y0
  obtain ⟨m, rfl⟩ := Int.eq_ofNat_of_zero_le b0
  have e : (n : Int) * 2 ^ k = ((n * 2 ^ k : Nat) : Int) := by simp
  have hm : m < 2 ^ k := by
    have : (m : Int) < ((2 ^ k : Nat) : Int) := by simpa using hb
    omega
  rw [e] at hy ⊢
  rw [u32_or _ _ (by omega) (by omega) (by omega) (by omega), Int.toNat_natCast, Int.toNat_natCast, or_join n m k hm]
  simp

set_option maxHeartbeats 1000000 in
set_option maxRecDepth 100000 in
theorem w_pfirst (v : Value) (xs : List Int) (w : World) (h : Rd .u8 w v xs) (hB : bytesL xs) (h4 : 4 ≤ xs.length) :
    Calls Tryd.prog 16 #[v] w fun e w' => e = .returned (.int .u32 (beV (xs.take 4))) ∧ Below w.heap.size w w' := by
  obtain ⟨ad0, b0, r0, c0, l0, u0, g0⟩ := mem_at h hB 0 (by omega) (by omega)
  obtain ⟨ad1, b1, r1, c1, l1, u1, g1⟩ := mem_at h hB 1 (by omega) (by omega)
  obtain ⟨ad2, b2, r2, c2, l2, u2, g2⟩ := mem_at h hB 2 (by omega) (by omega)
  obtain ⟨ad3, b3, r3, c3, l3, u3, g3⟩ := mem_at h hB 3 (by omega) (by omega)
  have ev : beV (xs.take 4) = ((b0 * 256 + b1) * 256 + b2) * 256 + b3 := by
    have e4 := take_more xs 0 3 (by omega)
    rw [take_more xs 1 2 (by omega), take_more xs 2 1 (by omega), take_one xs 3 (by omega)] at e4
    simp only [Int.toNat_zero, show (1 : Int).toNat = 1 from rfl, show (2 : Int).toNat = 2 from rfl, show (3 : Int).toNat = 3 from rfl] at g0 g1 g2 g3
    rw [g0, g1, g2, g3] at e4
    rw [show xs.take 4 = (xs.drop 0).take (3 + 1) by simp, e4]
    simp [beV]
  have o1 : bits .or .u32 (b0 * 16777216) (b1 * 65536) = b0 * 16777216 + b1 * 65536 := or32 b0 (b1 * 65536) 24 l0 (by omega) (by omega) (by omega)
  have o2 : bits .or .u32 (b0 * 16777216 + b1 * 65536) (b2 * 256) = b0 * 16777216 + b1 * 65536 + b2 * 256 := by
    have := or32 (b0 * 256 + b1) (b2 * 256) 16 (by omega) (by omega) (by omega) (by omega)
    rw [show (b0 * 256 + b1) * 2 ^ 16 = b0 * 16777216 + b1 * 65536 by omega] at this
    exact this
  have o3 : bits .or .u32 (b0 * 16777216 + b1 * 65536 + b2 * 256) b3 = b0 * 16777216 + b1 * 65536 + b2 * 256 + b3 := by
    have := or32 (b0 * 65536 + b1 * 256 + b2) b3 8 (by omega) (by omega) (by omega) (by omega)
    rw [show (b0 * 65536 + b1 * 256 + b2) * 2 ^ 8 = b0 * 16777216 + b1 * 65536 + b2 * 256 by omega] at this
    exact this
  obtain ⟨R, hR⟩ : ∃ R, beV (xs.take 4) = R := ⟨_, rfl⟩
  have HR := hid (hR.symm.trans ev)
  rw [hR]
  clear ev hR g0 g1 g2 g3 hB
  go_enter Tryd.func16, Tryd.ntmps16
  go_wp2_with fail
  go_quiet (fail)
  go_wp2_with fail
  go_ret
  refine ⟨ret_i ?_, below_drewN (Below.refl _ _) _⟩
  rw [HR.out]
  omega

set_option maxHeartbeats 1000000 in
set_option maxRecDepth 100000 in
theorem w_pints (v : Value) (xs : List Int) (w : World) (h : Rd .u8 w v xs) (hB : bytesL xs) (hz : xs.length ≤ 140737488355328) :
    Calls Tryd.prog 7 #[v] w fun e w' => ∃ v1, e = .returned (.tuple #[v1, .int .i64 (intF xs).2]) ∧ Rd .u32 w' v1 (intF xs).1 ∧ Below w.heap.size w w' := by
  have hlen := rd_len h uB (P := Tryd.prog)
  have htm : ((xs.length : Int)).tmod 4 = (xs.length : Int) % 4 := Int.tmod_eq_emod_of_nonneg (by omega)
  by_cases h4 : (xs.length : Int) % 4 = 0
  · have e : intF xs = (intL xs, 0) := by unfold intF; rw [if_pos (by omega)]
    rw [e]
    obtain ⟨A, hA⟩ : ∃ A, intL xs = A := ⟨_, rfl⟩
    show Calls _ _ _ _ fun e w' => ∃ v1, e = .returned (.tuple #[v1, .int .i64 0]) ∧ Rd .u32 w' v1 (intL xs) ∧ _
    rw [hA]
    have HA := hid hA
    obtain ⟨i0, hi, hz0, hz1, hz2⟩ := info_parts infoU32
    clear e hA
    go_enter Tryd.func7, Tryd.ntmps7
    go_wp2_with fail
    go_loopw [0, 4] (fun B U wx => ∃ (r ys : List Int), Rd .u8 w B r ∧ bytesL r ∧ (r.length : Int) % 4 = 0 ∧ Hid (ys ++ intL r = A) ∧ 4 * (ys.length : Int) + r.length = xs.length ∧ wx.ownsRow w.heap.size 27 1 U ys.length (ys.map (Value.int .u32)) ∧ Below w.heap.size w wx) (fun B _ _ => lenOf B)
    case atStart => exact ⟨xs, [], h, hB, h4, hid (by rw [List.nil_append]; exact HA.out), by simp, World.ownsRow_nil _ _ _ _, Below.refl _ _⟩
    case round =>
      obtain ⟨r, ys, hr, hrb, hr4, hin, hll, ho, hb⟩ := hrel
      have hlr := rd_len hr uB (P := Tryd.prog)
      by_cases hlt : (0 : Int) < r.length
      · have c1 := w_pfirst _ r wr (hr.below hb) hrb (by omega)
        have hn := beV_u32 (r.take 4) (by simp; omega) (bytes_take hrb 4)
        have hin2 : Hid (ys ++ [beV (r.take 4)] ++ intL (r.drop 4) = A) := by
          show _ = _
          rw [← hin.out, int_step r (by omega), List.append_assoc]
          rfl
        have hdl : ((r.drop 4).length : Int) = r.length - 4 := by simp; omega
        have hdb := bytes_drop hrb 4
        obtain ⟨va, ra, _, _, c5⟩ := rd_cutI hr uB zB 4 r.length (by omega) (by omega) (by omega)
        rw [show (4 : Int).toNat = 4 from rfl, List.take_of_length_le (by simp; omega)] at ra
        have c5' := c5 rfl
        obtain ⟨x, hx⟩ : ∃ x, beV (r.take 4) = x := ⟨_, rfl⟩
        obtain ⟨D, hD⟩ : ∃ D, r.drop 4 = D := ⟨_, rfl⟩
        simp only [hx, hD] at c1 hn hin2 hdl hdb
        rw [hD] at ra
        obtain ⟨n0, n1⟩ := hn
        clear hx hD c5
        have hrl := rd_lenOf hr
        go_wp2_with (first
          | (go_at_call 16; refine c1.mono ?_; rintro e w1 ⟨rfl, b1⟩; have ho1 := own_below ho b1; have ho2 := World.ownsRow.alloc ho1 (.cells #[.int .u32 x] 27); have hb1 := below_trans hb b1; have hb2 := hb1.alloc hb1.size (.cells #[.int .u32 x] 27))
          | (at_builtin; refine wpList_append_rd (k := .u32) rfl _ _ 22 rfl w.heap.size 27 i0 4 Tryd.underlying22 hi hz0 hz1 hz2 _ ys rfl ho2 _ [x] rfl (rd_one _ x 27) (by unfold maxLen; simp; omega) (by simp; omega) hb2.size ?_; intro v4 w4 ho4 hg4))
        have hb4 := below_grown hb2 hg4 (fun k hk => (ho2.lt k hk).1)
        have hvl := rd_lenOf ra
        go_roundw
        case rel => exact ⟨D, ys ++ [x], ra, hdb, by omega, hin2, by simp; omega, ho4, hb4⟩
        case measure => rw [hrl, hvl]; omega
      · have e : Hid (A = ys) := by
          show _ = _
          rw [← hin.out, int_none r (by omega), List.append_nil]
        go_wp2_with fail
        go_ret2
        rw [e.out]
        exact ⟨_, rfl, (Rd_own ho).1, hb⟩
  · have e : intF xs = ([], 15) := by unfold intF; rw [if_neg (by omega)]
    rw [e]
    have hne : ((xs.length : Int) % 4 != 0) = true := by simpa using h4
    clear e h4
    go_enter Tryd.func7, Tryd.ntmps7
    go_wp2_with fail
    go_ret2
    exact ⟨_, rfl, Rd_nil, Below.refl _ _⟩

set_option maxHeartbeats 1000000 in
set_option maxRecDepth 100000 in
theorem w_ptexts (v : Value) (xs : List Int) (w : World) (h : Rd .u8 w v xs) (hB : bytesL xs) (hz : (xs.length + 1) * 16 ≤ 140737488355328) :
    Calls Tryd.prog 8 #[v] w fun e w' => ∃ v1, e = .returned (.tuple #[v1, .int .i64 (texsF xs).2]) ∧ SlR 1 strR w' v1 ((texsF xs).1.map strOfNums) ∧ Below w.heap.size w w' := by
  obtain ⟨A, E, hAE⟩ : ∃ A E, texsF xs = (A, E) := ⟨_, _, rfl⟩
  have HAE := hid hAE
  rw [hAE]
  show Calls _ _ _ _ fun e w' => ∃ v1, e = .returned (.tuple #[v1, .int .i64 E]) ∧ SlR 1 strR w' v1 (A.map strOfNums) ∧ _
  clear hAE
  obtain ⟨i0, hi, hz0, hz1, hz2⟩ := info_parts infoStr
  go_enter Tryd.func8, Tryd.ntmps8
  go_wp2_with fail
  go_loopw [0, 4] (fun B U wx => ∃ (r : List Int) (ys : List (List Int)), Rd .u8 w B r ∧ bytesL r ∧ Hid (texL [] xs = (texL [] r).map (ys ++ ·)) ∧ (ys.length : Int) + r.length ≤ xs.length ∧ Hid (∀ y ∈ ys, y.length ≤ xs.length) ∧ wx.ownsRow w.heap.size 9 1 U (ys.map (fun y => Value.string (strOfNums y))).length (ys.map (fun y => Value.string (strOfNums y))) ∧ Below w.heap.size w wx) (fun B _ _ => lenOf B)
  case atStart => exact ⟨xs, [], h, hB, hid (by cases texL [] xs <;> simp), by simp, hid (fun y hy => by simp at hy), World.ownsRow_nil _ _ _ _, Below.refl _ _⟩
  case round =>
    obtain ⟨r, ys, hr, hrb, hin, hll, hyl, ho, hb⟩ := hrel
    have hlr := rd_len hr uB (P := Tryd.prog)
    by_cases hlt : (0 : Int) < r.length
    · obtain ⟨i, hai, cx⟩ := w_bibE _ r wr (hr.below hb) hrb
      have hdt := deT_at hai
      rcases deT_tex r (by intro h; subst h; simp at hlt) with ⟨e1, e2⟩ | ⟨p, D, e1, e2, e3⟩
      · have hi1 : i = -1 := by
          rcases hdt with ⟨h1, _⟩ | ⟨k, _, _, h3⟩
          · exact h1
          · rw [e1] at h3
            have := (Prod.mk.inj (Prod.mk.inj h3).2).2
            exact absurd this (by decide)
        subst hi1
        have e : Hid (texsF xs = ([], 15)) := by
          show _ = _
          unfold texsF
          rw [hin.out, e2]
          rfl
        clear e1 e2 hdt hai
        go_wp2_with (go_at_call 17; refine cx.mono ?_; rintro e w1 ⟨rfl, rfl⟩)
        go_ret2
        obtain ⟨rfl, rfl⟩ := Prod.mk.inj (HAE.out.symm.trans e.out)
        exact ⟨_, rfl, SlR.nil, hb⟩
      · obtain ⟨k, hik, hkl, hp, hD⟩ : ∃ k : Nat, i = k ∧ k < r.length ∧ r.take k = p ∧ r.drop (k + 1) = D := by
          rcases hdt with ⟨_, h2⟩ | ⟨k, h1, h2, h3⟩
          · rw [e1] at h2
            have := (Prod.mk.inj (Prod.mk.inj h2).2).2
            exact absurd this (by decide)
          · rw [e1] at h3
            exact ⟨k, h1, h2, (Prod.mk.inj h3).1.symm, (Prod.mk.inj (Prod.mk.inj h3).2).1.symm⟩
        subst hik
        have hin2 : Hid (texL [] xs = (texL [] D).map ((ys ++ [p]) ++ ·)) := by
          show _ = _
          rw [hin.out, e2]
          cases texL [] D <;> simp
        have hpl : p.length + 1 + D.length = r.length := by rw [e3]; simp; omega
        obtain ⟨va, ra, _, c2, _⟩ := rd_cutI (hr.below hb) uB zB 0 k (by omega) (by omega) (by omega)
        have c2' := c2 rfl
        rw [show ((k : Int) - 0).toNat = k by omega, Int.toNat_zero, List.drop_zero, hp] at ra
        obtain ⟨vb, rb, _, _, c3⟩ := rd_cutI hr uB zB (k + 1) r.length (by omega) (by omega) (by omega)
        have c3' := c3 rfl
        rw [show ((k : Int) + 1).toNat = k + 1 by omega, List.take_of_length_le (by simp; omega), hD] at rb
        rw [e3] at hrb
        obtain ⟨hpb, hdb⟩ := bytes_of_app hrb
        obtain ⟨T, hT⟩ : ∃ T, strOfNums p = T := ⟨_, rfl⟩
        have HT := hid hT
        have cs := rd_strT ra
        rw [hT] at cs
        have hrl := rd_lenOf hr
        have hcl : (ys.map (fun y => Value.string (strOfNums y))).length = ys.length := by simp
        obtain ⟨cs', hcs⟩ : ∃ cs, ys.map (fun y => Value.string (strOfNums y)) = cs := ⟨_, rfl⟩
        have Hcs := hid hcs
        rw [hcs] at ho hcl
        clear e1 e2 e3 hT hcs hrb hp hD hdt hai c2 c3
        have ho2 := World.ownsRow.alloc ho (.cells #[.string T] 9)
        have hb2 := hb.alloc hb.size (.cells #[.string T] 9)
        have k1 : IntKind.i64.wrap ((k : Int) + 1) = (k : Int) + 1 := by rw [IntKind.wrap_i64]; omega
        go_wp2_with (first
          | (go_at_call 17; refine cx.mono ?_; rintro e w1 ⟨rfl, rfl⟩)
          | (at_builtin; refine wpList_append_one rfl _ _ 23 rfl w.heap.size 9 i0 (.string ⟨#[]⟩) 16 Tryd.underlying23 hi hz0 hz1 hz2 rfl _ cs' rfl ho2 _ (.string T) rfl (by rw [World.cell?_alloc_new]; rfl) rfl (by unfold maxLen; omega) (by omega) hb2.size ?_; intro v4 w4 ho4 hg4))
        have hb4 := below_grown hb2 hg4 (fun k hk => (ho2.lt k hk).1)
        have hvl := rd_lenOf rb
        go_roundw
        case rel =>
          refine ⟨D, ys ++ [p], rb, hdb, hin2, by simp; omega, hid (fun y hy => ?_), ?_, hb4⟩
          · rw [List.mem_append] at hy
            rcases hy with hy | hy
            · exact hyl.out y hy
            · simp at hy; subst hy; omega
          · rw [List.map_append, Hcs.out]
            simp only [List.map_cons, List.map_nil, HT.out]
            exact ho4
        case measure => rw [hrl, hvl]; omega
    · have hr0 : r = [] := List.eq_nil_of_length_eq_zero (by omega)
      have e : Hid (texsF xs = (ys, 0)) := by
        show _ = _
        unfold texsF
        rw [hin.out, hr0]
        simp [texL]
      clear hr0
      go_wp2_with fail
      go_ret2
      obtain ⟨rfl, rfl⟩ := Prod.mk.inj (HAE.out.symm.trans e.out)
      refine ⟨_, rfl, slr_own ho (by simp) (fun i hi => ?_), hb⟩
      have hi2 : i < A.length := by simpa using hi
      refine ⟨by simp, ?_⟩
      have := hyl.out A[i] (List.getElem_mem hi2)
      rw [List.getElem_map]
      have hsz : (strOfNums A[i]).size = A[i].length := toB_size A[i]
      rw [hsz]
      unfold maxLen
      omega
end Go.Proofs.YtamhcpejebonmabDoor
