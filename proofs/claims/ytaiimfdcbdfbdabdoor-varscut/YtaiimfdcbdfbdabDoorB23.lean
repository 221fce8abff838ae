/-
  Texts of one proof, laid one behind the other: Nal Vkp Nlk.
-/
import Derived.Test.YtaiimfdcbdfbdabDoorB22
import Derived.Deep.OwnRows
namespace Go.Proofs.YtaiimfdcbdfbdabDoor
open Go.ChangeShapes Go.WideShapes Go.ChangeAt Go.RowKit
set_option linter.unusedVariables false
set_option linter.unusedSimpArgs false

/-
  The fixed fact of layer 18's statements: alive returns true; an NVRAM of noughts.
-/
set_option maxRecDepth 100000

theorem al_by (l : List Int) (h : l.all (fun x => decide (0 ≤ x ∧ x < 256)) = true) : bytesL l := by
  intro x hx
  have := List.all_eq_true.1 h x hx
  simpa using this
theorem made_size : (madeCells #[.int .u8 0] 512).size = 512 := size_madeCells _ _
theorem made_gen (n : Nat) : (madeCells #[.int .u8 0] n).toList = (List.replicate n (0 : Int)).map (Value.int .u8) := by
  unfold madeCells
  rw [List.map_replicate]
  apply List.ext_getElem
  · simp
  · intro i h1 h2
    simp [Nat.mod_one]
theorem made_list : (madeCells #[.int .u8 0] 512).toList = nv0.map (Value.int .u8) := made_gen 512
theorem own_nv0 (w : World) : Own8 w.heap.size (w.alloc (.cells (madeCells #[.int .u8 0] 512) 5)) (.slice (some ⟨w.heap.size, 0, none⟩) 512 512) nv0 :=
  ⟨by rw [List.length_map, nv0_len], .inr ⟨w.heap.size, 512, _, by rw [nv0_len], Nat.le_refl _, heap_alloc_new w _, by rw [nv0_len]; exact Nat.le_refl _, by decide, by rw [made_size], by
    rw [made_list, nv0_len]
    exact List.take_of_length_le (by rw [List.length_map, nv0_len]; decide)⟩⟩
theorem mk_nv0 (w : World) : (Instr.makeSlice 22 (.int .i64 512) (.int .i64 512)).run Tryd.prog w = .ok (.slice (some ⟨w.heap.size, 0, none⟩) 512 512) (w.alloc (.cells (madeCells #[.int .u8 0] 512) 5)) :=
  run_make_row' 22 5 (.int .u8 0) 1 Tryd.underlying22 infoU8 rfl .i64 .i64 512 (by omega) (by omega) w
theorem al_pln : plnF nv0 [7] = (wrtF 0 1 [7], 0) := by
  unfold plnF
  rw [if_pos nv0_len, nv0_cnt]
  rfl
theorem al_wlen : (wrtF 0 1 [7]).length = 10 := by rw [wrt_len]; rfl
theorem al_apl : aplF nv0 (wrtF 0 1 [7]) 10 = nv1 [7] := by rw [apl_pre _ _ _ (by rw [al_wlen]; decide)]; rfl
theorem nv1_rcv {d : List Int} (hd : d.length ≤ 248) : rcvF (nv1 d) = (d, 0, true) := by
  have h := nv1_other hd
  obtain ⟨a1, a2, a3⟩ := nv1_told hd
  rw [rcv_0 (nv1_len d) (bk_right a1 a2 hd a3) (fun z => by rw [h] at z; cases z.1), (bk_told a1 hd a3).2.2.1]

/-
  The fixed fact of WholeVars and WholeBanks: keeps returns true.
-/
set_option maxRecDepth 100000

def kpL : List Stt := [(vaBl, ⟨#[55]⟩)]
theorem kp_set : vaS [] vaBl ⟨#[55]⟩ = (kpL, 0) := by kernel_rfl
theorem kp_sv : (vaSv nv0 kpL).2 = 0 := by kernel_rfl

set_option maxHeartbeats 1000000 in
theorem w_keeps19 (w : World) (hT : Tab w) : Calls Tryd.prog 15 #[] w fun e w' => e = .returned (.bool true) ∧ Below w.heap.size w w' := by
  have cS := fun w hT h => w_pset19 (.slice none 0 0) [] vaBl ⟨#[55]⟩ w hT h (by decide)
  rw [kp_set] at cS
  have hnil := fun w : World => (owt_nil w.heap.size w).read (fun p hp => by cases hp)
  have cV := fun v vl w hT h hl => w_psave19 v vl nv0 kpL w hT h nv0_bytes hl (by rw [nv0_len]; decide)
  obtain ⟨R, hR, ⟨hl1, hRl, _⟩, hA, hN, hO⟩ := sv_cut nv0_bytes kp_sv
  rw [hR] at cV
  have cA := fun v vl w h hl => w_papply18 v vl nv0 R R.length w h hl (by rw [nv0_len]; decide) (by omega) (by omega)
  obtain ⟨aL, aB⟩ := hA R.length
  have cL := fun v w hT h => w_pload19 v (aplF nv0 R R.length) w hT h aB (by rw [aL]; decide)
  rw [hN _ (Int.le_refl _)] at cL
  simp only at cS cV
  have hmk : ∀ w, (Instr.makeSlice 22 (.int .i64 512) (.int .i64 512)).run Tryd.prog w = .ok (.slice (some ⟨w.heap.size, 0, none⟩) 512 512) (w.alloc (.cells (madeCells #[.int .u8 0] 512) 5)) := fun w => mk_nv0 w
  have ho := fun w : World => (Rd_own (own_nv0 w)).1
  have hbx := fun w : World => box_below w (.cells (madeCells #[.int .u8 0] 512) 5)
  obtain ⟨M, hM⟩ : ∃ M, madeCells #[.int .u8 0] 512 = M := ⟨_, rfl⟩
  simp only [hM] at hmk ho hbx
  obtain ⟨Z, hZ⟩ : ∃ Z, nv0 = Z := ⟨_, rfl⟩
  simp only [hZ] at cV cA cL ho
  obtain ⟨X, hX⟩ : ∃ X, aplF Z R R.length = X := ⟨_, rfl⟩
  simp only [hX] at cA cL
  clear hM hZ hX hN hO hA aL aB hR
  unfold vaBl at cS
  obtain ⟨K, hK⟩ : ∃ K, kpL = K := ⟨_, rfl⟩
  have hKl : K.length = 1 := by rw [← hK]; rfl
  have hK0 : ∀ h : 0 < K.length, K[0].2 = ⟨#[55]⟩ := by subst hK; intro h; rfl
  simp only [hK] at cS cV cL
  clear hK hl1
  go_enter Tryd.func15, Tryd.ntmps15
  go_upto_region 2 with (go_at_call 16; refine (cS _ hT (hnil _)).mono ?_; rintro e w1 ⟨v1, rfl, r1, b1⟩)
  have o1 := ho w1
  have x1 := hbx w1
  have s1 := r1.below x1 stR_below
  go_upto_region 3 with (go_at_call 8; refine (cV _ _ _ (hT.below (below_trans b1 x1)) o1 s1).mono ?_; rintro e w2 ⟨v2, rfl, r2, b2⟩)
  have o2 := ho w2
  have x2 := hbx w2
  have hl2 := slr_len r2 uPb (P := Tryd.prog)
  have s2 := r2.below x2 pbR_below
  have b12 := below_trans b1 (below_trans x1 (below_trans b2 x2))
  clear ho hbx
  go_upto_region 4 with (first
    | (go_at_call 14; refine (cA _ _ _ o2 s2).mono ?_; rintro e w3 ⟨v3, rfl, o3, b3⟩)
    | (go_at_call 11; refine (cL _ _ (hT.below (below_trans b12 b3)) (Rd_own o3).1).mono ?_; rintro e w4 ⟨v4, rfl, r4, b4⟩))
  have hl4 := slr_len r4 uSt (P := Tryd.prog)
  rw [hKl] at hl4
  obtain ⟨zb, zo, A, V, z1, z2, z3, z4, _⟩ := st_at r4 0 (by omega)
  have hV := hK0 (by omega)
  rw [z4] at hV
  simp only at hV
  subst hV
  have z1' : ∀ w', (Instr.indexAt 23 v4 (.int .i64 0)).run Tryd.prog w' = .ok (.pointer (some ⟨zb, zo, none⟩)) w' := z1
  clear z1 z4 hK0 hKl
  go_wp2_with fail
  go_ret
  exact ⟨rfl, below_trans b12 (below_trans b3 b4)⟩

/-
  Lists of data, rows of cuts: what NvramCuts reads of them.
-/
set_option maxRecDepth 100000

theorem uI : Tryd.prog.underlying 35 = some (.slice (Tryd.prog.elem 35)) := by kernel_rfl
theorem eI : Tryd.prog.elem 35 = 3 := by kernel_rfl
theorem zI (w : World) : (sizeOf (Tryd.prog.elem 35)).run Tryd.prog w = .ok 1 w := by rw [eI]; exact Tryd.sizeOf3 w

end Go.Proofs.YtaiimfdcbdfbdabDoor
