/-
  Texts of one proof, laid one behind the other: Nve Nvf.
-/
import Derived.Test.YtaiimfdcbdfbdabDoorB19
import Derived.Laws.ResultCell
namespace Go.Proofs.YtaiimfdcbdfbdabDoor
open Go.ChangeShapes Go.WideShapes Go.ChangeAt Go.RowKit
set_option linter.unusedVariables false
set_option linter.unusedSimpArgs false

/-
  The landed package nvram: both banks taken out of an NVRAM.
-/
set_option maxRecDepth 100000

theorem infoB1 : (Tryd.prog.info? (Tryd.prog.elem 22)).map (·.size) = some 1 := by kernel_rfl
theorem bk_set (L : List Int) (j : Nat) (v : Int) : (BkA L).setIfInBounds j (.int .u8 v) = BkA (L.set j v) := by
  simp [BkA, List.map_set]
theorem splice_tail (A M R : List Int) (a : Nat) (ha : A.length = a) : (A ++ R).take a ++ M ++ (A ++ R).drop (a + M.length) = A ++ M ++ R.drop M.length := by
  rw [List.take_left' ha, ← List.drop_drop, List.drop_left' ha]
/-- bytes copied into a block of bytes -/
theorem run_copy_bk {w : World} {g off n : Nat} {cur : List Int} {T : TypeId} (hg : Stands w g (BkA cur) T) {vs : Value} {xs : List Int} (hr : Rd .u8 w vs xs) (hn : 0 < n) (hfit : off + n ≤ cur.length) :
    ∃ w', (∀ ty, (Builtin.copy_ #[22, 22] ty #[.slice (some ⟨g, off, none⟩) n n, vs]).run Tryd.prog w = .ok (.int .i64 ((xs.length.min n : Nat) : Int)) w') ∧
      Stands w' g (BkA (cur.take off ++ xs.take n ++ cur.drop (off + (xs.take n).length))) T ∧ (∀ (B : Nat) (w0 : World), Below B w0 w → B ≤ g → Below B w0 w') ∧ w'.heap.size = w.heap.size ∧ ∀ b, ¬ b = g → w'.heap[b]? = w.heap[b]? := by
  obtain ⟨ao, cap, rfl, hc, hnn, hx⟩ := rd_form hr
  rcases Nat.eq_zero_or_pos xs.length with h0 | h0
  · have hx0 : xs = [] := List.eq_nil_of_length_eq_zero h0
    subst hx0
    refine ⟨w, fun ty => ?_, by simpa using hg, fun _ _ h _ => h, rfl, fun _ _ => rfl⟩
    have := run_copy_none (P := Tryd.prog) w 22 22 ty _ (some ⟨g, off, none⟩) ao n n 0 cap uB infoB1 (Nat.zero_min n)
    simpa [goInt] using this
  · obtain ⟨hm, b, o2, rfl, hcell⟩ := hx h0
    unfold Stands at hg
    have hlen : ((xs.take n).map (Value.int .u8)).length = xs.length.min n := by rw [List.length_map, List.length_take]; exact Nat.min_comm _ _
    have hrun := fun ty => run_copy_row (P := Tryd.prog) w 22 22 ty _ g off n n ⟨b, o2, none⟩ xs.length cap (BkA cur) T ((xs.take n).map (Value.int .u8)) uB infoB1 hg hlen ?_ (by rw [bka_size, hlen]; have := Nat.min_le_right xs.length n; show off + min xs.length n ≤ _; omega) ?_
    · rw [hlen] at hrun
      refine ⟨_, hrun, ?_, fun B w0 hb hB => below_setRow hb hB _, by simp [World.setRow], fun k hk => ?_⟩
      · unfold Stands
        rw [setRow_heap w g _ _ T _ hg]
        congr 2
        rw [List.length_take, Nat.min_comm n]
        simp [BkA]
      · simp only [World.setRow]
        rw [Array.getElem?_modify, if_neg (fun h => hk h.symm)]
    · intro j v hj
      rw [List.getElem?_map, List.getElem?_take] at hj
      split at hj
      · rename_i hjn
        cases hq : xs[j]? with
        | none => rw [hq] at hj; cases hj
        | some y =>
          rw [hq] at hj
          simp at hj
          subst hj
          have hj2 : j < xs.length := by
            rcases Nat.lt_or_ge j xs.length with h | h
            · exact h
            · rw [List.getElem?_eq_none h] at hq; cases hq
          have := hcell j hj2
          rw [List.getD_eq_getElem?_getD, hq] at this
          simp at this
          by_cases hz : j = 0
          · subst hz; simpa [Addr.add] using this
          · simpa [Addr.add, hz] using this
      · cases hj
    · intro v hv
      simp only [List.mem_map] at hv
      obtain ⟨y, _, rfl⟩ := hv
      rfl

theorem arrP : Tryd.prog.underlying 68 = some (.array 2 66) := by kernel_rfl
theorem arrP' : Tryd.prog.underlying 68 = some (.array (Tryd.prog.arrayLen 68) (Tryd.prog.elem 68)) := by kernel_rfl
theorem lenP : Tryd.prog.arrayLen 68 = 2 := by kernel_rfl
theorem elP : Tryd.prog.elem 68 = 66 := by kernel_rfl
theorem szP : (Tryd.prog.info? 68).map (·.size) = some 512 := by kernel_rfl
theorem pr_ix (b i : Nat) (k : IntKind) (I : Int) (hi : I = (i : Int)) (h : i < 2) (w : World) : (Instr.indexAt 68 (.pointer (some ⟨b, 0, none⟩)) (.int k I)).run Tryd.prog w = .ok (.pointer (some ⟨b, 256 * i, none⟩)) w := by
  subst hi
  rw [run_indexAt_array (h := arrP'), lenP, if_pos (by omega), elP, Tryd.sizeOf66]
  simp only [Result.andThen, Int.toNat_natCast, Addr.add_lit, Nat.zero_add, Nat.mul_comm]
theorem bk_all (b o : Nat) (w : World) : (Instr.sliceAt 66 (.pointer (some ⟨b, o, none⟩)) none none none).run Tryd.prog w = .ok (.slice (some ⟨b, o, none⟩) 256 256) w := by
  rw [run_sliceAt_array_all w 66 ⟨b, o, none⟩ arrB', elB, Tryd.sizeOf5, lenB]
  simp [Result.andThen, slicedAt, Addr.add]
theorem zeroP : (∀ w, (zeroValue 68).run Tryd.prog w = .ok (.agg (BkA (List.replicate 512 0))) w) ∧ (Tryd.prog.info? 68).map (·.size) = some 512 := zero_of_info (by kernel_rfl)
theorem zeroB : (∀ w, (zeroValue 66).run Tryd.prog w = .ok (.agg (BkA (List.replicate 256 0))) w) ∧ (Tryd.prog.info? 66).map (·.size) = some 256 := zero_of_info (by kernel_rfl)

set_option maxHeartbeats 2000000 in
theorem w_pbanks18 (v : Value) (xs : List Int) (w : World) (h : Rd .u8 w v xs) (hl : xs.length = 512) :
    Calls Tryd.prog 33 #[v] w fun e w' => e = .returned (.agg (BkA xs)) ∧ Below w.heap.size w w' := by
  have z := zeroP.1
  obtain ⟨Z, hZ⟩ : ∃ Z, BkA (List.replicate 512 0) = Z := ⟨_, rfl⟩
  rw [hZ] at z
  have HZ := hid hZ
  clear hZ
  go_enter Tryd.func33, Tryd.ntmps33
  go_upto_region 3 with fail
  have s0 := (stands_new w Z 68).below (box_below _ (.cells Z 68))
  have s1 := stands_new (w.alloc (.cells Z 68)) Z 68
  rw [size_al] at s1
  have b1 := below_trans (box_below w (.cells Z 68)) (box_below _ (.cells Z 68))
  have hb1 := b1.size
  generalize (w.alloc (.cells Z 68)).alloc (.cells Z 68) = W1 at s0 s1 b1 hb1 ⊢
  have hZ : Stands W1 (w.heap.size + 1) (BkA (xs.take (256 * 0) ++ List.replicate (512 - 256 * 0) 0)) 68 := by
    have := HZ.out
    rw [← this] at s1
    exact s1
  clear s1
  go_loopw [5] (fun I wx => ∃ k : Nat, k ≤ 2 ∧ I = .int .i64 k ∧ Stands wx w.heap.size Z 68 ∧ Stands wx (w.heap.size + 1) (BkA (xs.take (256 * k) ++ List.replicate (512 - 256 * k) 0)) 68 ∧ Below w.heap.size w wx) (fun I _ => (2 - intOf I).toNat)
  case atStart => exact ⟨0, by omega, rfl, s0, hZ, b1⟩
  case round =>
    obtain ⟨k, hk, rfl, hs0, hs1, hg⟩ := hrel
    by_cases hlt : (k : Int) < 2
    · have i1 := fun w' => pr_ix (w.heap.size + 1) k .i64 (k : Int) rfl (by omega) w'
      have i2 := fun w' => bk_all (w.heap.size + 1) (256 * k) w'
      have hd := below_drewN hg 1
      obtain ⟨vs, rs, -, -, sl⟩ := rd_cutI (h.below hd) uB zB ((k : Int) * 256) xs.length (by omega) (by omega) (by omega)
      have sl := sl rfl
      have hw : IntKind.i64.wrap ((k : Int) * 256) = (k : Int) * 256 := by rw [IntKind.wrap_i64]; omega
      have t0 : Stands wr.drew w.heap.size Z 68 := hs0
      have t1 : Stands wr.drew (w.heap.size + 1) (BkA (xs.take (256 * k) ++ List.replicate (512 - 256 * k) 0)) 68 := hs1
      obtain ⟨W', hrun, u1, ub, us, uo⟩ := run_copy_bk (off := 256 * k) (n := 256) t1 rs (by omega) (by rw [List.length_append, List.length_take, List.length_replicate]; omega)
      have U0 : Hid (Stands W' w.heap.size Z 68) := by
        show W'.heap[w.heap.size]? = _
        rw [uo _ (by omega)]
        exact t0
      have U1 : Hid (Stands W' (w.heap.size + 1) (BkA (xs.take (256 * (k + 1)) ++ List.replicate (512 - 256 * (k + 1)) 0)) 68) := by
        have e : (xs.take (256 * k) ++ List.replicate (512 - 256 * k) 0).take (256 * k) ++ ((xs.drop ((k : Int) * 256).toNat).take ((xs.length : Int) - (k : Int) * 256).toNat).take 256 ++ (xs.take (256 * k) ++ List.replicate (512 - 256 * k) (0 : Int)).drop (256 * k + (((xs.drop ((k : Int) * 256).toNat).take ((xs.length : Int) - (k : Int) * 256).toNat).take 256).length) = xs.take (256 * (k + 1)) ++ List.replicate (512 - 256 * (k + 1)) 0 := by
          have hk2 : k = 0 ∨ k = 1 := by omega
          have hm : ((xs.drop ((k : Int) * 256).toNat).take ((xs.length : Int) - (k : Int) * 256).toNat).take 256 = (xs.drop (256 * k)).take 256 := by
            rw [List.take_take, show ((k : Int) * 256).toNat = 256 * k by omega, show min 256 ((xs.length : Int) - (k : Int) * 256).toNat = 256 by omega]
          rw [hm]
          have hL : (xs.take (256 * k)).length = 256 * k := by rw [List.length_take]; omega
          have hM : ((xs.drop (256 * k)).take 256).length = 256 := by rw [List.length_take, List.length_drop]; omega
          rw [splice_tail _ _ _ _ hL, hM, List.drop_replicate, show 512 - 256 * k - 256 = 512 - 256 * (k + 1) by omega]
          congr 1
          rw [show 256 * (k + 1) = 256 * k + 256 by omega, List.take_add]
        rw [e] at u1
        exact u1
      have U2 := hid (ub _ _ hd (by omega))
      have HS := hid (And.intro hs0 hs1)
      clear u1 ub us uo t0 t1 rs hs0 hs1
      go_wp2_with fail
      refine wp_region_held_drew (S := fun W => True) (by kernel_rfl) (trivial) (fun hHeld => ?_)
      refine wpAnyH_take (i := 0) (v := ?v1) rfl (by kernel_rfl) (by kernel_rfl) (by kernel_rfl) (fun _ _ _ h => h) (Or.inl ⟨by kernel_rfl, ?h1⟩) hHeld ?r1
      case h1 => intro W hSw; (try dsimp only at hSw); obtain _ := hSw; go_simp; try with_reducible rfl
      simp only [Act.put, List.setIfInBounds_toArray, List.set_cons_zero, List.set_cons_succ]
      refine wpAnyH_take (i := 1) (v := ?v2) rfl (by kernel_rfl) (by kernel_rfl) (by kernel_rfl) (fun _ _ _ h => h) (Or.inl ⟨by kernel_rfl, ?h2⟩) hHeld ?r2
      case h2 => intro W hSw; (try dsimp only at hSw); obtain _ := hSw; go_simp; try with_reducible rfl
      simp only [Act.put, List.setIfInBounds_toArray, List.set_cons_zero, List.set_cons_succ]
      refine wpAnyH_take (i := 2) (v := ?v3) rfl (by kernel_rfl) (by kernel_rfl) (by kernel_rfl) (fun _ _ _ h => h) (Or.inl ⟨by kernel_rfl, ?h3⟩) hHeld ?r3
      case h3 => intro W hSw; (try dsimp only at hSw); obtain _ := hSw; go_simp; try with_reducible rfl
      simp only [Act.put, List.setIfInBounds_toArray, List.set_cons_zero, List.set_cons_succ]
      refine wpAnyH_take (i := 3) (v := ?v4) rfl (by kernel_rfl) (by kernel_rfl) (by kernel_rfl) (fun _ _ _ h => h) (Or.inl ⟨by kernel_rfl, ?h4⟩) hHeld ?r4
      case h4 => intro W hSw; (try dsimp only at hSw); obtain _ := hSw; go_simp; try with_reducible rfl
      simp only [Act.put, List.setIfInBounds_toArray, List.set_cons_zero, List.set_cons_succ]
      refine wpAnyH_take (i := 4) (v := ?v5) rfl (by kernel_rfl) (by kernel_rfl) (by kernel_rfl) (fun _ _ _ h => h) (Or.inl ⟨by kernel_rfl, ?h5⟩) hHeld ?r5
      case h5 => intro W hSw; (try dsimp only at hSw); obtain _ := hSw; go_simp; try with_reducible rfl
      simp only [Act.put, List.setIfInBounds_toArray, List.set_cons_zero, List.set_cons_succ]
      refine wpAnyH_take (i := 5) (v := ?v6) rfl (by kernel_rfl) (by kernel_rfl) (by kernel_rfl) (fun _ _ _ h => h) (Or.inl ⟨by kernel_rfl, ?h6⟩) hHeld ?r6
      case h6 => intro W hSw; (try dsimp only at hSw); obtain _ := hSw; go_simp; try with_reducible rfl
      simp only [Act.put, List.setIfInBounds_toArray, List.set_cons_zero, List.set_cons_succ]
      refine wpAnyH_take (i := 6) (v := ?v7) rfl (by kernel_rfl) (by kernel_rfl) (by kernel_rfl) (fun _ _ _ h => h) (Or.inl ⟨by kernel_rfl, ?h7⟩) hHeld ?r7
      case h7 => intro W hSw; (try dsimp only at hSw); obtain _ := hSw; go_simp; try with_reducible rfl
      simp only [Act.put, List.setIfInBounds_toArray, List.set_cons_zero, List.set_cons_succ]
      refine wpAnyH_ready (rs := [7]) (by kernel_rfl) (by simp) ?_
      refine AllReadyH.cons rfl (fun K hK => ?_) AllReadyH.nil
      go_simp
      refine hK.out _ _ (trivial) (fun hHeld => ?_)
      clear hK K
      (try simp only [Act.put, List.setIfInBounds_toArray, List.set_cons_zero, List.set_cons_succ])
      refine wpAnyH_done (by kernel_rfl) ?_ _
      go_wp2_with fail
      go_roundw
      case rel => exact ⟨k + 1, by omega, by go_num, U0.out, U1.out, U2.out⟩
      case measure => simp [intOf]; omega
    · have e : k = 2 := by omega
      subst e
      have e2 : xs.take (256 * 2) ++ List.replicate (512 - 256 * 2) (0 : Int) = xs := by
        rw [List.take_of_length_le (by omega)]
        simp
      rw [e2] at hs1
      clear s0 hZ b1
      go_upto_region 7 with fail
      refine wp_region_lit ?_
      refine wpList_load_row rfl 68 (.tmp 3) rfl (w.heap.size + 1) rfl 68 _ (0, 0) _ hs1 arrP rfl (by rw [bka_size, hl]; exact szP) ?_
      refine wpList_store_row rfl 68 (.tmp 2) (.tmp 17) rfl w.heap.size (BkA xs) rfl rfl 68 _ hs0 (by rw [bka_size, hl]; exact szP) (by rw [← HZ.out, bka_size, bka_size, hl, List.length_replicate]) (bka_one xs) ?_
      have u0 := setRow_heap wr w.heap.size _ (BkA xs) 68 (0, 0) hs0
      have bb := below_setRow hg (Nat.le_refl _) (BkA xs)
      generalize wr.setRow w.heap.size (BkA xs) = W9 at u0 bb ⊢
      iterate 4 go_step
      (try simp only [Exit.inBlock, Exit.then])
      refine bodyPost_ret (v := .agg (BkA xs)) ?_ rfl ⟨rfl, bb⟩
      exact results_cell_row rfl _ W9 w.heap.size _ (BkA xs) (0, 0) _ rfl u0 arrP rfl (by rw [bka_size, hl]; exact szP)

/-
  The landed package nvram: the bank that counts, and the one that is free.
-/
set_option maxRecDepth 100000

theorem bkF_len {xs : List Int} (hl : xs.length = 512) (k : Nat) (hk : k < 2) : (bkF xs k).length = 256 := by simp only [bkF, List.length_take, List.length_drop]; omega
/-- a pair is read whole -/
theorem wpList_load_pr {ops : Array Oper} {rest : List Oper} {op : Oper} {a : Act} {w : World} {Q : Exit → Act → World → Prop} (hgd : op.guard = none) (x : Operand) (ho : op.op = .load 68 x)
    (b : Nat) (hx : a.eval x = .pointer (some ⟨b, 0, none⟩)) (xs : List Int) (hc : BkAt w b 0 xs) (hl : xs.length = 512)
    (h : wpList Tryd.prog ops Q rest (a.put op.dst (.agg (BkA xs))) w) : wpList Tryd.prog ops Q (op :: rest) a w :=
  wpList_load_mid hgd 68 x ho b 0 hx (xs.map (Value.int .u8)) _ (bkat_range hc) arrP rfl (by rw [szP, List.length_map, hl]) h

set_option maxHeartbeats 4000000 in
theorem w_pcounting18 (xs : List Int) (w : World) (hl : xs.length = 512) (hb : bytesL xs) :
    Calls Tryd.prog 42 #[.agg (BkA xs)] w fun e w' => e = .returned (.int .i64 (cntF xs).1) ∧ Below w.heap.size w w' := by
  have ba := bkat_box w xs 68
  have bx := box_below w (.cells (BkA xs) 68)
  have L0 : (bkF xs 0).length = 256 := bkF_len hl 0 (by omega)
  have L1 : (bkF xs 1).length = 256 := bkF_len hl 1 (by omega)
  have r0 := fun W => w_pright18 (bkF xs 0) W L0 (bk_bytes hb 0)
  have r1 := fun W => w_pright18 (bkF xs 1) W L1 (bk_bytes hb 1)
  have p0 : ∀ W, BkAt W w.heap.size 0 xs → BkAt W w.heap.size 0 (bkF xs 0) := fun W h => bkat_part h hl 0 (by omega)
  have p1 : ∀ W, BkAt W w.heap.size 0 xs → BkAt W w.heap.size 256 (bkF xs 1) := fun W h => bkat_part h hl 1 (by omega)
  have q0 : ∀ W, BkAt W w.heap.size 0 xs → W.cell? ⟨w.heap.size, 1, none⟩ = some (.int .u8 ((bkF xs 0).getD 1 0)) := fun W h => by have := p0 W h 1 (by omega); simpa using this
  have q1 : ∀ W, BkAt W w.heap.size 0 xs → W.cell? ⟨w.heap.size, 257, none⟩ = some (.int .u8 ((bkF xs 1).getD 1 0)) := fun W h => by have := p1 W h 1 (by omega); simpa using this
  have hc : Hid ((cntF xs).1 = if bkR (bkF xs 0) = true ∧ bkR (bkF xs 1) = true ∧ (bkF xs 1).getD 1 0 = ((bkF xs 0).getD 1 0 + 1) % 256 then 1 else if bkR (bkF xs 0) = true then 0 else if bkR (bkF xs 1) = true then 1 else -1) := by
    show _ = _
    unfold cntF
    split
    · rfl
    · split
      · rfl
      · split <;> rfl
  have g0 := getD_byte (bk_bytes hb 0) 1
  have g1 := getD_byte (bk_bytes hb 1) 1
  obtain ⟨B0, hB0⟩ : ∃ B, bkF xs 0 = B := ⟨_, rfl⟩
  obtain ⟨B1, hB1⟩ : ∃ B, bkF xs 1 = B := ⟨_, rfl⟩
  rw [hB0] at L0 r0 p0 q0 hc g0
  rw [hB1] at L1 r1 p1 q1 hc g1
  obtain ⟨X, hX⟩ : ∃ X, bkR B0 = X := ⟨_, rfl⟩
  obtain ⟨Y, hY⟩ : ∃ Y, bkR B1 = Y := ⟨_, rfl⟩
  obtain ⟨a, hA⟩ : ∃ g, B0.getD 1 0 = g := ⟨_, rfl⟩
  obtain ⟨b, hBb⟩ : ∃ g, B1.getD 1 0 = g := ⟨_, rfl⟩
  rw [hX] at r0 hc
  rw [hY] at r1 hc
  rw [hA] at q0 hc g0
  rw [hBb] at q1 hc g1
  obtain ⟨R, hR⟩ : ∃ R, (cntF xs).1 = R := ⟨_, rfl⟩
  rw [hR] at hc ⊢
  have i0 : ∀ w', (Instr.indexAt 68 (.pointer (some ⟨w.heap.size, 0, none⟩)) (.int .i64 0)).run Tryd.prog w' = .ok (.pointer (some ⟨w.heap.size, 0, none⟩)) w' := fun w' => pr_ix w.heap.size 0 .i64 0 rfl (by omega) w'
  have i1 : ∀ w', (Instr.indexAt 68 (.pointer (some ⟨w.heap.size, 0, none⟩)) (.int .i64 1)).run Tryd.prog w' = .ok (.pointer (some ⟨w.heap.size, 256, none⟩)) w' := fun w' => pr_ix w.heap.size 1 .i64 1 rfl (by omega) w'
  have j0 : ∀ w', (Instr.indexAt 66 (.pointer (some ⟨w.heap.size, 0, none⟩)) (.int .i64 1)).run Tryd.prog w' = .ok (.pointer (some ⟨w.heap.size, 1, none⟩)) w' := fun w' => bk_ix w.heap.size 0 1 .i64 1 rfl (by omega) w'
  have j1 : ∀ w', (Instr.indexAt 66 (.pointer (some ⟨w.heap.size, 256, none⟩)) (.int .i64 1)).run Tryd.prog w' = .ok (.pointer (some ⟨w.heap.size, 257, none⟩)) w' := fun w' => bk_ix w.heap.size 256 1 .i64 1 rfl (by omega) w'
  have hw : IntKind.u8.wrap (a + 1) = (a + 1) % 256 := by rw [IntKind.wrap_u8]
  clear hB0 hB1 hX hY hA hBb hR
  go_enter Tryd.func42, Tryd.ntmps42
  go_upto_region 1 with fail
  refine wp_region_held_drew (S := fun W => BkAt W w.heap.size 0 xs ∧ Below w.heap.size w W) (by kernel_rfl) (⟨ba.below (below_drewN (Below.refl _ _) 1), below_drewN bx 1⟩) (fun hHeld => ?_)
  refine wpAnyH_take (i := 0) (v := ?v5) rfl (by kernel_rfl) (by kernel_rfl) (by kernel_rfl) (fun _ _ _ h => h) (Or.inl ⟨by kernel_rfl, ?h5⟩) hHeld ?r5
  case h5 => intro W hSw; (try dsimp only at hSw); obtain ⟨hA, hB⟩ := hSw; go_simp; try with_reducible rfl
  simp only [Act.put, List.setIfInBounds_toArray, List.set_cons_zero, List.set_cons_succ]
  refine wpAnyH_take (i := 1) (v := .agg (BkA B0)) rfl (by kernel_rfl) (by kernel_rfl) (by kernel_rfl) (fun _ _ _ h => h) (yieldsIf_load_mid (by kernel_rfl) 66 (.tmp 5) rfl w.heap.size 0 rfl (B0.map (Value.int .u8)) _ (fun W hW => bkat_range (p0 W hW.1)) arrB rfl (by rw [szB, List.length_map, L0])) hHeld ?_
  simp only [Act.put, List.setIfInBounds_toArray, List.set_cons_zero, List.set_cons_succ]
  refine wpAnyH_take (i := 3) (v := ?v6) rfl (by kernel_rfl) (by kernel_rfl) (by kernel_rfl) (fun _ _ _ h => h) (Or.inl ⟨by kernel_rfl, ?h6⟩) hHeld ?r6
  case h6 => intro W hSw; (try dsimp only at hSw); obtain ⟨hA, hB⟩ := hSw; go_simp; try with_reducible rfl
  simp only [Act.put, List.setIfInBounds_toArray, List.set_cons_zero, List.set_cons_succ]
  refine wpAnyH_take (i := 4) (v := .agg (BkA B1)) rfl (by kernel_rfl) (by kernel_rfl) (by kernel_rfl) (fun _ _ _ h => h) (yieldsIf_load_mid (by kernel_rfl) 66 (.tmp 8) rfl w.heap.size 256 rfl (B1.map (Value.int .u8)) _ (fun W hW => bkat_range (p1 W hW.1)) arrB rfl (by rw [szB, List.length_map, L1])) hHeld ?_
  simp only [Act.put, List.setIfInBounds_toArray, List.set_cons_zero, List.set_cons_succ]
  refine wpAnyH_ready (rs := [2]) (by kernel_rfl) (by simp) ?_
  refine AllReadyH.cons rfl (fun K hK => ?_) AllReadyH.nil
  go_simp
  go_wp2_with (first | (go_at_call 61; refine (r0 _).mono ?_; rintro e w3 ⟨rfl, b3⟩))
  refine hK.out _ _ (⟨hHeld.1.below b3, below_trans hHeld.2 b3⟩) (fun hHeld => ?_)
  clear hK K
  (try simp only [Act.put, List.setIfInBounds_toArray, List.set_cons_zero, List.set_cons_succ])
  refine wpAnyH_ready (rs := [5]) (by kernel_rfl) (by simp) ?_
  refine AllReadyH.cons rfl (fun K hK => ?_) AllReadyH.nil
  go_simp
  go_wp2_with (first | (go_at_call 61; refine (r1 _).mono ?_; rintro e w4 ⟨rfl, b4⟩))
  refine hK.out _ _ (⟨hHeld.1.below b4, below_trans hHeld.2 b4⟩) (fun hHeld => ?_)
  clear hK K
  (try simp only [Act.put, List.setIfInBounds_toArray, List.set_cons_zero, List.set_cons_succ])
  refine wpAnyH_ready (rs := [6]) (by kernel_rfl) (by simp) ?_
  refine AllReadyH.cons rfl (fun K hK => ?_) AllReadyH.nil
  go_simp
  refine hK.out _ _ (hHeld) (fun hHeld => ?_)
  clear hK K
  (try simp only [Act.put, List.setIfInBounds_toArray, List.set_cons_zero, List.set_cons_succ])
  refine wpAnyH_ready (rs := [7]) (by kernel_rfl) (by simp) ?_
  refine AllReadyH.cons rfl (fun K hK => ?_) AllReadyH.nil
  go_simp
  refine hK.out _ _ (hHeld) (fun hHeld => ?_)
  clear hK K
  (try simp only [Act.put, List.setIfInBounds_toArray, List.set_cons_zero, List.set_cons_succ])
  refine wpAnyH_done (by kernel_rfl) ?_ _
  have f0 := q0 _ hHeld.1
  have f1 := q1 _ hHeld.1
  have hB := hHeld.2
  clear hHeld r0 r1 p0 p1 q0 q1 ba
  cases X
  · cases Y
    · simp only [Bool.false_eq_true, false_and, and_false, if_false] at hc
      go_wp2_with fail
      go_ret
      rw [hc.out]
      exact ⟨rfl, hB⟩
    · simp only [Bool.false_eq_true, false_and, and_false, if_false, if_true] at hc
      go_wp2_with fail
      go_ret
      rw [hc.out]
      exact ⟨rfl, hB⟩
  · cases Y
    · simp only [Bool.false_eq_true, false_and, and_false, if_false, if_true] at hc
      go_wp2_with fail
      go_ret
      rw [hc.out]
      exact ⟨rfl, hB⟩
    · by_cases hq : b = (a + 1) % 256
      · rw [if_pos ⟨rfl, rfl, hq⟩] at hc
        have hq2 : (b == (a + 1) % 256) = true := by simpa using hq
        clear hq
        go_wp2_with fail
        go_ret
        rw [hc.out]
        exact ⟨rfl, hB⟩
      · rw [if_neg (fun z => hq z.2.2), if_pos rfl] at hc
        have hq2 : (b == (a + 1) % 256) = false := by simpa using hq
        clear hq
        go_wp2_with fail
        go_ret
        rw [hc.out]
        exact ⟨rfl, hB⟩

set_option maxHeartbeats 4000000 in
theorem w_pfree18 (xs : List Int) (w : World) (hl : xs.length = 512) (hb : bytesL xs) :
    Calls Tryd.prog 34 #[.agg (BkA xs)] w fun e w' => e = .returned (.tuple #[.int .i64 (bsF (cntF xs).1 / 256), .int .u8 (((cntF xs).2 + 1) % 256)]) ∧ Below w.heap.size w w' := by
  have ba := bkat_box w xs 68
  have bx := box_below w (.cells (BkA xs) 68)
  have L0 : (bkF xs 0).length = 256 := bkF_len hl 0 (by omega)
  have L1 : (bkF xs 1).length = 256 := bkF_len hl 1 (by omega)
  have q0 : ∀ W, BkAt W w.heap.size 0 xs → W.cell? ⟨w.heap.size, 1, none⟩ = some (.int .u8 ((bkF xs 0).getD 1 0)) := fun W h => by have := bkat_part h hl 0 (by omega) 1 (by rw [show ((0 : Nat) : Int) = 0 from rfl]; omega); simpa using this
  have q1 : ∀ W, BkAt W w.heap.size 0 xs → W.cell? ⟨w.heap.size, 257, none⟩ = some (.int .u8 ((bkF xs 1).getD 1 0)) := fun W h => by have := bkat_part h hl 1 (by omega) 1 (by rw [show ((1 : Nat) : Int) = 1 from rfl]; omega); simpa using this
  have cc := fun W => w_pcounting18 xs W hl hb
  have hs := cnt_spec xs
  have g0 := getD_byte (bk_bytes hb 0) 1
  have g1 := getD_byte (bk_bytes hb 1) 1
  have i0 : ∀ w', (Instr.indexAt 68 (.pointer (some ⟨w.heap.size, 0, none⟩)) (.int .i64 0)).run Tryd.prog w' = .ok (.pointer (some ⟨w.heap.size, 0, none⟩)) w' := fun w' => pr_ix w.heap.size 0 .i64 0 rfl (by omega) w'
  have i1 : ∀ w', (Instr.indexAt 68 (.pointer (some ⟨w.heap.size, 0, none⟩)) (.int .i64 1)).run Tryd.prog w' = .ok (.pointer (some ⟨w.heap.size, 256, none⟩)) w' := fun w' => pr_ix w.heap.size 1 .i64 1 rfl (by omega) w'
  have j0 : ∀ w', (Instr.indexAt 66 (.pointer (some ⟨w.heap.size, 0, none⟩)) (.int .i64 1)).run Tryd.prog w' = .ok (.pointer (some ⟨w.heap.size, 1, none⟩)) w' := fun w' => bk_ix w.heap.size 0 1 .i64 1 rfl (by omega) w'
  have j1 : ∀ w', (Instr.indexAt 66 (.pointer (some ⟨w.heap.size, 256, none⟩)) (.int .i64 1)).run Tryd.prog w' = .ok (.pointer (some ⟨w.heap.size, 257, none⟩)) w' := fun w' => bk_ix w.heap.size 256 1 .i64 1 rfl (by omega) w'
  obtain ⟨a, hA⟩ : ∃ g, (bkF xs 0).getD 1 0 = g := ⟨_, rfl⟩
  obtain ⟨b, hBb⟩ : ∃ g, (bkF xs 1).getD 1 0 = g := ⟨_, rfl⟩
  simp only [hA] at q0 g0 hs
  simp only [hBb] at q1 g1 hs
  have hwa : IntKind.u8.wrap (a + 1) = (a + 1) % 256 := by rw [IntKind.wrap_u8]
  have hwb : IntKind.u8.wrap (b + 1) = (b + 1) % 256 := by rw [IntKind.wrap_u8]
  clear hA hBb
  rcases hs with ⟨hs, -⟩ | ⟨hs, -⟩ | ⟨hs, -⟩
  · simp only [hs] at cc ⊢
    rw [show bsF 0 / 256 = 1 by decide]
    clear hs
    go_enter Tryd.func34, Tryd.ntmps34
    go_upto_region 1 with fail
    refine wp_region_lit ?_
    refine wpList_load_pr rfl (.tmp 1) rfl w.heap.size rfl xs ba hl ?_
    go_upto_region 4 with (go_at_call 42; refine (cc _).mono ?_; rintro e w1 ⟨rfl, b1⟩)
    have f0 := q0 _ (ba.below b1)
    have b2 := below_trans bx b1
    clear q0 q1 cc ba
    go_quiet (fail)
    go_wp2_with fail
    go_ret2
    exact ⟨rfl, below_drewN b2 _⟩
  · simp only [hs] at cc ⊢
    rw [show bsF 1 / 256 = 0 by decide]
    clear hs
    go_enter Tryd.func34, Tryd.ntmps34
    go_upto_region 1 with fail
    refine wp_region_lit ?_
    refine wpList_load_pr rfl (.tmp 1) rfl w.heap.size rfl xs ba hl ?_
    go_upto_region 4 with (go_at_call 42; refine (cc _).mono ?_; rintro e w1 ⟨rfl, b1⟩)
    have f1 := q1 _ (ba.below b1)
    have b2 := below_trans bx b1
    clear q0 q1 cc ba
    go_quiet (fail)
    go_wp2_with fail
    go_ret2
    exact ⟨rfl, below_drewN b2 _⟩
  · simp only [hs] at cc ⊢
    rw [show bsF (-1) / 256 = 0 by decide, show ((0 : Int) + 1) % 256 = 1 by decide]
    clear hs
    go_enter Tryd.func34, Tryd.ntmps34
    go_upto_region 1 with fail
    refine wp_region_lit ?_
    refine wpList_load_pr rfl (.tmp 1) rfl w.heap.size rfl xs ba hl ?_
    clear q0 q1
    go_wp2_with (go_at_call 42; refine (cc _).mono ?_; rintro e w1 ⟨rfl, b1⟩)
    go_ret2
    exact ⟨rfl, below_trans bx b1⟩

end Go.Proofs.YtaiimfdcbdfbdabDoor
