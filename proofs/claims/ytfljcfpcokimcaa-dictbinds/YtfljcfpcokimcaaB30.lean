/-
  Texts of one proof, laid one behind the other: Dp7.
-/
import Derived.Test.YtfljcfpcokimcaaB29
import Derived.Deep.Cut
import Derived.Deep.CutRange
namespace Go.Proofs.Ytfljcfpcokimcaa
open Go.ChangeShapes Go.WideShapes Go.ChangeAt Go.RowKit
set_option linter.unusedVariables false
set_option linter.unusedSimpArgs false

/-
  Package dict's Copy.
-/
theorem idx_wrd (g n cap i : Nat) (hi : i < n) : ∀ w', (Instr.indexAt 26 (.slice (some ⟨g, 0, none⟩) n cap) (.int .i64 (i : Int))).run Try.prog w' = .ok (.pointer (some ⟨g, i * 5, none⟩)) w' := by
  intro w'
  rw [run_indexAt_slice (h := uW), if_pos ⟨by omega, by omega⟩, zW]
  simp only [Result.andThen, Int.toNat_natCast]
  congr 3
  unfold Addr.add
  split
  · rename_i hz; rw [hz]
  · simp
theorem idx_ins (g n cap i : Nat) (hi : i < n) : ∀ w', (Instr.indexAt 30 (.slice (some ⟨g, 0, none⟩) n cap) (.int .i64 (i : Int))).run Try.prog w' = .ok (.pointer (some ⟨g, i * 4, none⟩)) w' := by
  intro w'
  rw [run_indexAt_slice (h := uI), if_pos ⟨by omega, by omega⟩, zI]
  simp only [Result.andThen, Int.toNat_natCast]
  congr 3
  unfold Addr.add
  split
  · rename_i hz; rw [hz]
  · simp

set_option maxHeartbeats 8000000 in
set_option maxRecDepth 100000 in
theorem w_p9copyO (m : Mc) (v : Mv) (o : ByteArray) (w : World) (h : RdM w v m o) (z : gM m) :
    Calls Try.prog 20 #[.agg (v.cs m o)] w fun e w' => ∃ v1, e = .returned (.agg (v1.cs m o)) ∧ OwM w.heap.size w' v1 m o ∧ Below w.heap.size w w' := by
  obtain ⟨vs, vm, vw, vc, vt, vi⟩ := v
  obtain ⟨hs, hm, hw, hc, ht, hi, ho⟩ := h
  simp only at hs hm hw hc ht hi
  obtain ⟨sa, sq, rfl⟩ := rd_slice hs
  obtain ⟨ma, mq, rfl⟩ := rd_slice hm
  obtain ⟨wa, wq, rfl⟩ := slr_slice hw
  obtain ⟨ca, cq, rfl⟩ := rd_slice hc
  obtain ⟨ta, tq, rfl⟩ := slr_slice ht
  obtain ⟨ia, iq, rfl⟩ := slr_slice hi
  have c32 := fun W (b : Below w.heap.size w W) => w_pclone32 _ _ W (hs.below b) (by have := z.stackZ; omega)
  have c8 := fun W (b : Below w.heap.size w W) => w_pclone8 _ _ W (hm.below b) (by have := z.memZ; omega)
  have cJ := fun W (b : Below w.heap.size w W) => w_pcloneJ _ _ W (hc.below b) (by have := z.codesZ; omega)
  have cT := fun W (b : Below w.heap.size w W) => w_p8copyS _ _ W (RdT.below ht b) (by have := z.treeZ; omega) (fun x hx => (z.tree x hx).2.2.1)
  have mw := z.wordsZ
  have mi := z.instsZ
  have gzw := fun x hx => (z.words x hx).siz
  have gzi := fun x hx => (z.insts x hx).siz
  obtain ⟨rows, hr1, hr2, hr3⟩ := hw
  obtain ⟨irows, hi1, hi2, hi3⟩ := hi
  obtain ⟨hrl, hro⟩ := wrd_rows hr2 hr3
  obtain ⟨hil', hio⟩ := ins_rows hi2 hi3
  have cW := fun W (b : Below w.heap.size w W) => w_pcloneW _ rows W (hr1.below b) hro (by omega)
  have cI := fun W (b : Below w.heap.size w W) => w_pcloneI _ irows W (hi1.below b) hio (by omega)
  simp only [hr2] at cW
  simp only [hi2] at cI
  have c32i := fun (i : Nat) (hil : i < m.insts.length) (vx : Value) (hx : Rd .u32 w vx m.insts[i].2.2.2) W (b : Below w.heap.size w W) => w_pclone32 vx _ W (hx.below b) (by have := gzi _ (List.getElem_mem hil); omega)
  have cO := fun (i : Nat) (hil : i < m.words.length) (vx : Value) (hx : RdO w vx m.words[i].2.2.2.2) W (b : Below w.heap.size w W) => w_pcloneOps vx _ W (RdO.below hx b) (by have := gzw _ (List.getElem_mem hil); omega)
  have C32i := hid c32i
  have CO := hid cO
  have CW := hid cW
  have CI := hid cI
  have CJ := hid cJ
  have CT := hid cT
  have C8 := hid c8
  have HR3 := hid hr3
  have HI3 := hid hi3
  have HR2 := hid hr2
  have HI2 := hid hi2
  have HRL := hid hrl
  have HIL := hid hil'
  have HO := hid ho
  have s0 := (stands_new w #[.slice sa m.stack.length sq, .slice ma m.mem.length mq, .slice wa m.words.length wq, .slice ca m.codes.length cq, .int .u32 m.base, .slice ta m.tree.length tq, .int .i64 m.node, .slice ia m.insts.length iq, .int .i64 m.self, .string o] 32).below (box_below (w.alloc (.cells #[.slice sa m.stack.length sq, .slice ma m.mem.length mq, .slice wa m.words.length wq, .slice ca m.codes.length cq, .int .u32 m.base, .slice ta m.tree.length tq, .int .i64 m.node, .slice ia m.insts.length iq, .int .i64 m.self, .string o] 32)) (.cells #[.slice none 0 0, .slice none 0 0, .slice none 0 0, .slice none 0 0, .int .u32 0, .slice none 0 0, .int .i64 0, .slice none 0 0, .int .i64 0, .string ⟨#[]⟩] 32))
  have s1 := stands_new (w.alloc (.cells #[.slice sa m.stack.length sq, .slice ma m.mem.length mq, .slice wa m.words.length wq, .slice ca m.codes.length cq, .int .u32 m.base, .slice ta m.tree.length tq, .int .i64 m.node, .slice ia m.insts.length iq, .int .i64 m.self, .string o] 32)) #[.slice none 0 0, .slice none 0 0, .slice none 0 0, .slice none 0 0, .int .u32 0, .slice none 0 0, .int .i64 0, .slice none 0 0, .int .i64 0, .string ⟨#[]⟩] 32
  have bw := below_trans (box_below w (.cells #[.slice sa m.stack.length sq, .slice ma m.mem.length mq, .slice wa m.words.length wq, .slice ca m.codes.length cq, .int .u32 m.base, .slice ta m.tree.length tq, .int .i64 m.node, .slice ia m.insts.length iq, .int .i64 m.self, .string o] 32)) (box_below (w.alloc (.cells #[.slice sa m.stack.length sq, .slice ma m.mem.length mq, .slice wa m.words.length wq, .slice ca m.codes.length cq, .int .u32 m.base, .slice ta m.tree.length tq, .int .i64 m.node, .slice ia m.insts.length iq, .int .i64 m.self, .string o] 32)) (.cells #[.slice none 0 0, .slice none 0 0, .slice none 0 0, .slice none 0 0, .int .u32 0, .slice none 0 0, .int .i64 0, .slice none 0 0, .int .i64 0, .string ⟨#[]⟩] 32))
  rw [size_al] at s1
  simp only [Mv.cs]
  clear hs hm hc ht hr1 hi1 hro hio z c32i cO cW cI cJ cT c8 hr3 hi3 hr2 hi2 hrl hil' gzw gzi ho
  go_enter Try.func20, Try.ntmps20
  go_upto_region 1 with fail
  generalize (w.alloc (.cells #[.slice sa m.stack.length sq, .slice ma m.mem.length mq, .slice wa m.words.length wq, .slice ca m.codes.length cq, .int .u32 m.base, .slice ta m.tree.length tq, .int .i64 m.node, .slice ia m.insts.length iq, .int .i64 m.self, .string o] 32)).alloc (.cells #[.slice none 0 0, .slice none 0 0, .slice none 0 0, .slice none 0 0, .int .u32 0, .slice none 0 0, .int .i64 0, .slice none 0 0, .int .i64 0, .string ⟨#[]⟩] 32) = W0 at s0 s1 bw ⊢
  have hW0 : w.heap.size + 1 < W0.heap.size := (Array.getElem?_eq_some_iff.1 s1).1
  have f0 := s0.cell 0 _ rfl
  go_upto_region 2 with (go_at_call 51; refine (c32 _ bw).mono ?_; rintro e qA ⟨vX, rfl, oX, dA⟩; obtain ⟨sa1, sq1, rfl⟩ := own_form oX; have y1 := (s0.below dA).cell 0 _ rfl; have y2 := (s0.below dA).free 0)
  have kA := set_kept (s0.below dA) 0 (.slice sa1 m.stack.length sq1)
  have s0A : Stands _ w.heap.size #[.slice sa1 m.stack.length sq1, .slice ma m.mem.length mq, .slice wa m.words.length wq, .slice ca m.codes.length cq, .int .u32 m.base, .slice ta m.tree.length tq, .int .i64 m.node, .slice ia m.insts.length iq, .int .i64 m.self, .string o] 32 := (s0.below dA).set 0 (.slice sa1 m.stack.length sq1)
  have s1A := (s1.below dA).other (b' := w.heap.size) 0 (.slice sa1 m.stack.length sq1) (by omega)
  have bA := below_set (below_trans bw dA) w.heap.size 0 (.slice sa1 m.stack.length sq1) (Nat.le_refl _)
  have oS := own_le bw.size (own_kept kA (by decide) oX)
  generalize qA.setCell ⟨w.heap.size, 0, none⟩ (.slice sa1 m.stack.length sq1) = QA at s0A s1A bA oS kA ⊢
  clear y1 y2 oX dA kA f0 s0 s1 c32
  have f1 := s0A.cell 1 _ rfl
  go_upto_region 3 with (go_at_call 52; refine (C8.out _ bA).mono ?_; rintro e qB ⟨vX, rfl, oX, dB⟩; obtain ⟨ma1, mq1, rfl⟩ := own_form oX; have y1 := (s0A.below dB).cell 1 _ rfl; have y2 := (s0A.below dB).free 1)
  have kB := set_kept (s0A.below dB) 1 (.slice ma1 m.mem.length mq1)
  have s0B : Stands _ w.heap.size #[.slice sa1 m.stack.length sq1, .slice ma1 m.mem.length mq1, .slice wa m.words.length wq, .slice ca m.codes.length cq, .int .u32 m.base, .slice ta m.tree.length tq, .int .i64 m.node, .slice ia m.insts.length iq, .int .i64 m.self, .string o] 32 := (s0A.below dB).set 1 (.slice ma1 m.mem.length mq1)
  have s1B := (s1A.below dB).other (b' := w.heap.size) 1 (.slice ma1 m.mem.length mq1) (by omega)
  have bB := below_set (below_trans bA dB) w.heap.size 1 (.slice ma1 m.mem.length mq1) (Nat.le_refl _)
  have oM := own_le bA.size (own_kept kB (by decide) oX)
  have oSB := own_kept kB (by decide) (own_belowN oS dB)
  generalize qB.setCell ⟨w.heap.size, 1, none⟩ (.slice ma1 m.mem.length mq1) = QB at s0B s1B bB oM oSB kB ⊢
  clear y1 y2 oX dB kB f1 s0A s1A bA oS C8
  have f2 := s0B.cell 2 _ rfl
  go_upto_region 4 with (go_at_call 53; refine (CW.out _ bB).mono ?_; rintro e qC ⟨vX, rfl, oX, dC⟩; obtain ⟨wa1, wq1, rfl⟩ := own_form oX; have y1 := (s0B.below dC).cell 2 _ rfl; have y2 := (s0B.below dC).free 2)
  have kC := set_kept (s0B.below dC) 2 (.slice wa1 m.words.length wq1)
  have s0C : Stands _ w.heap.size #[.slice sa1 m.stack.length sq1, .slice ma1 m.mem.length mq1, .slice wa1 m.words.length wq1, .slice ca m.codes.length cq, .int .u32 m.base, .slice ta m.tree.length tq, .int .i64 m.node, .slice ia m.insts.length iq, .int .i64 m.self, .string o] 32 := (s0B.below dC).set 2 (.slice wa1 m.words.length wq1)
  have s1C := (s1B.below dC).other (b' := w.heap.size) 2 (.slice wa1 m.words.length wq1) (by omega)
  have bC := below_set (below_trans bB dC) w.heap.size 2 (.slice wa1 m.words.length wq1) (Nat.le_refl _)
  have oW := own_le bB.size (own_kept kC (by decide) oX)
  have oSC := own_kept kC (by decide) (own_belowN oSB dC)
  have oMC := own_kept kC (by decide) (own_belowN oM dC)
  generalize qC.setCell ⟨w.heap.size, 2, none⟩ (.slice wa1 m.words.length wq1) = QC at s0C s1C bC oW oMC oSC kC ⊢
  clear y1 y2 oX dC kC f2 s0B s1B bB oM oSB CW
  have f2 := s0C.cell 2 _ rfl
  go_wp2_with fail
  go_loopw [20] (fun I wx => ∃ (i : Nat), (i : Int) ≤ m.words.length ∧ I = .int .i64 i ∧ Stands wx w.heap.size #[.slice sa1 m.stack.length sq1, .slice ma1 m.mem.length mq1, .slice wa1 m.words.length wq1, .slice ca m.codes.length cq, .int .u32 m.base, .slice ta m.tree.length tq, .int .i64 m.node, .slice ia m.insts.length iq, .int .i64 m.self, .string o] 32 ∧ Stands wx (w.heap.size + 1) #[.slice none 0 0, .slice none 0 0, .slice none 0 0, .slice none 0 0, .int .u32 0, .slice none 0 0, .int .i64 0, .slice none 0 0, .int .i64 0, .string ⟨#[]⟩] 32 ∧ wx.ownsRow w.heap.size 28 1 (.slice sa1 m.stack.length sq1) m.stack.length (m.stack.map (Value.int .u32)) ∧ wx.ownsRow w.heap.size 5 1 (.slice ma1 m.mem.length mq1) m.mem.length (m.mem.map (Value.int .u8)) ∧ RwI 51 5 (wrdO w.heap.size) w.heap.size (.slice wa1 m.words.length wq1) m.words rows i wx ∧ Below w.heap.size w wx) (fun I _ => (m.words.length - intOf I).toNat)
  case atStart => exact ⟨0, by omega, rfl, s0C, s1C, oSC, oMC, RwI.start HR2.out HRL.out oW, bC⟩
  case round =>
    clear s0C s1C oSC oMC oW bC f2
    obtain ⟨i, hi, rfl, st, sz, oS, oM, hI, hb⟩ := hrel
    by_cases hlt : (i : Int) < m.words.length
    · have hil : i < m.words.length := by omega
      obtain ⟨csW, oWr⟩ := hI.row
      obtain ⟨g, cap, hg⟩ := own_some oWr (by omega)
      simp only [Value.slice.injEq] at hg
      obtain ⟨rfl, -, rfl⟩ := hg
      have hgb := (oWr.lt g rfl).1
      have hgB : g ≠ w.heap.size := by
        intro e
        have a1 := stands_apart st oWr (by decide)
        simp [Value.ownBlock] at a1
        exact a1 e.symm
      obtain ⟨vcI, hrow, rc⟩ := HR3.out i hil
      have cd := fun W (b : Below w.heap.size w W) => CO.out i hil vcI rc W b
      obtain ⟨xa, xq, rfl⟩ := slr_slice rc
      have c4 := hI.cell hil 4 (by decide) _ (by rw [hrow]; rfl)
      have c2 := st.cell 2 _ rfl
      have hix := idx_wrd g m.words.length wq1 i hil
      obtain ⟨N5, hN5⟩ : ∃ N, m.words[i].2.2.2.2.length = N := ⟨_, rfl⟩
      rw [hN5] at c4 hrow
      have HS : Hid (∀ W, Below wr.heap.size wr W → W.cell? ⟨w.heap.size, 2, none⟩ = some (.slice (some ⟨g, 0, none⟩) m.words.length wq1)) := fun W q => below_cell q c2
      have hrd : Hid (Below wr.heap.size wr wr.drew) := below_drewN (Below.refl _ _) 1
      have hbd : Hid (Below w.heap.size w wr.drew) := below_drewN hb 1
      simp only [hN5] at cd
      have CD := hid cd
      have T2 : Hid (∀ qD, Below wr.heap.size wr qD → qD.cell? ⟨g, i * 5 + 4, none⟩ = some (.slice xa N5 xq)) := fun qD q => below_cell q c4
      have T3 : Hid (∀ qD, Below wr.heap.size wr qD → qD.frozen? ⟨g, i * 5 + 4, none⟩ = false) := fun qD q => (hI.below q (wrdO_below q)).free (i * 5 + 4)
      have HI := hid hI
      have HROW := hid hrow
      have HN5 := hid hN5
      have ST := hid st
      have SZ := hid sz
      have OS := hid oS
      have OM := hid oM
      clear cd hI oWr hN5 hrow rc st sz oS oM
      go_wp2_with fail
      go_region_with (go_at_call 54; refine (CD.out _ (by with_reducible exact hbd.out)).mono ?_; rintro e qD ⟨vD, rfl, oD, bD'⟩; obtain ⟨csD, rD⟩ := oD.row; obtain ⟨dd, dcap, rfl⟩ := own_form rD; have RD : Hid (Below wr.heap.size wr qD) := below_trans hrd.out bD'; have y0 := HS.out qD RD.out; have y1 := T2.out qD RD.out; have y2 := T3.out qD RD.out; have OD := hid oD; clear oD bD' rD)
      all_goals (
        go_wp2_with fail
        have bD := RD.out
        have hx : wrdO w.heap.size qD ((rows.getD i []).set 4 (.slice dd m.words[i].2.2.2.2.length dcap)) (m.words[i]'hil) := by rw [HROW.out]; exact ⟨_, rfl, OwO.le (Nat.le_trans hb.size hrd.out.size) OD.out⟩
        obtain ⟨hI9, k9⟩ := RwI.step (HI.out.below bD (wrdO_below bD)) hil 4 (by decide) (.slice dd m.words[i].2.2.2.2.length dcap) (wrdO_apt (by decide)) hx
        have B9 := below_set (below_trans hb bD) g (i * 5 + 4) (.slice dd m.words[i].2.2.2.2.length dcap) hgb
        have st9 := stands_kept k9 (by decide) (ST.out.below bD)
        have sz9 := stands_kept k9 (by decide) (SZ.out.below bD)
        have oS9 := own_kept k9 (by decide) (own_belowN OS.out bD)
        have oM9 := own_kept k9 (by decide) (own_belowN OM.out bD)
        go_roundw
        case rel => exact ⟨i + 1, by omega, by go_num, st9, sz9, oS9, oM9, hI9, B9⟩
        case measure => simp [intOf]; omega)
    · have hin : i = m.words.length := by omega
      have oW := hI.done (by omega)
      obtain ⟨W1, hW1⟩ : ∃ W1, W1 = wr := ⟨_, rfl⟩
      subst hW1
      clear hI hin
      have f3 := st.cell 3 _ rfl
      go_upto_region 10 with (go_at_call 55; refine (CJ.out _ hb).mono ?_; rintro e qD ⟨vX, rfl, oX, dD⟩; obtain ⟨ca1, cq1, rfl⟩ := own_form oX; have y1 := (st.below dD).cell 3 _ rfl; have y2 := (st.below dD).free 3)
      have kD := set_kept (st.below dD) 3 (.slice ca1 m.codes.length cq1)
      have s0D : Stands _ w.heap.size #[.slice sa1 m.stack.length sq1, .slice ma1 m.mem.length mq1, .slice wa1 m.words.length wq1, .slice ca1 m.codes.length cq1, .int .u32 m.base, .slice ta m.tree.length tq, .int .i64 m.node, .slice ia m.insts.length iq, .int .i64 m.self, .string o] 32 := (st.below dD).set 3 (.slice ca1 m.codes.length cq1)
      have s1D := (sz.below dD).other (b' := w.heap.size) 3 (.slice ca1 m.codes.length cq1) (by omega)
      have bD := below_set (below_trans hb dD) w.heap.size 3 (.slice ca1 m.codes.length cq1) (Nat.le_refl _)
      have oC := own_le hb.size (own_kept kD (by decide) oX)
      have oSD := own_kept kD (by decide) (own_belowN oS dD)
      have oMD := own_kept kD (by decide) (own_belowN oM dD)
      have oWD := OwnR.kept (OwnR.below oW dD (wrdO_below dD)) kD (by decide) (wrdO_apt (by decide))
      generalize qD.setCell ⟨w.heap.size, 3, none⟩ (.slice ca1 m.codes.length cq1) = QD at s0D s1D bD oC oSD oMD oWD kD ⊢
      clear y1 y2 oX dD kD f3 st sz oS oM oW CJ
      have f5 := s0D.cell 5 _ rfl
      go_upto_region 11 with (go_at_call 56; refine (CT.out _ bD).mono ?_; rintro e qE ⟨vX, rfl, oX, dE⟩; obtain ⟨csX, rX⟩ := oX.own.row; obtain ⟨ta1, tq1, rfl⟩ := own_form rX; have y1 := (s0D.below dE).cell 5 _ rfl; have y2 := (s0D.below dE).free 5)
      have kE := set_kept (s0D.below dE) 5 (.slice ta1 m.tree.length tq1)
      have s0E : Stands _ w.heap.size #[.slice sa1 m.stack.length sq1, .slice ma1 m.mem.length mq1, .slice wa1 m.words.length wq1, .slice ca1 m.codes.length cq1, .int .u32 m.base, .slice ta1 m.tree.length tq1, .int .i64 m.node, .slice ia m.insts.length iq, .int .i64 m.self, .string o] 32 := (s0D.below dE).set 5 (.slice ta1 m.tree.length tq1)
      have s1E := (s1D.below dE).other (b' := w.heap.size) 5 (.slice ta1 m.tree.length tq1) (by omega)
      have bE := below_set (below_trans bD dE) w.heap.size 5 (.slice ta1 m.tree.length tq1) (Nat.le_refl _)
      have oT := OwnR.kept (OwnT8.le bD.size oX.own) kE (by decide) (nodO_apt (by decide) (by decide) (by decide))
      have PE : Cpy w.heap.size _ (.slice sa1 m.stack.length sq1) (.slice ma1 m.mem.length mq1) (.slice wa1 m.words.length wq1) (.slice ca1 m.codes.length cq1) (.slice ta1 m.tree.length tq1) m := ⟨own_kept kE (by decide) (own_belowN oSD dE), own_kept kE (by decide) (own_belowN oMD dE), OwnR.kept (OwnR.below oWD dE (wrdO_below dE)) kE (by decide) (wrdO_apt (by decide)), own_kept kE (by decide) (own_belowN oC dE), oT⟩
      generalize qE.setCell ⟨w.heap.size, 5, none⟩ (.slice ta1 m.tree.length tq1) = QE at s0E s1E bE oT PE kE ⊢
      clear y1 y2 oX rX dE kE f5 s0D s1D oC oSD oMD oWD CT bD oT
      have f7 := s0E.cell 7 _ rfl
      go_upto_region 12 with (go_at_call 57; refine (CI.out _ bE).mono ?_; rintro e qF ⟨vX, rfl, oX, dF⟩; obtain ⟨ia1, iq1, rfl⟩ := own_form oX; have y1 := (s0E.below dF).cell 7 _ rfl; have y2 := (s0E.below dF).free 7)
      have kF := set_kept (s0E.below dF) 7 (.slice ia1 m.insts.length iq1)
      have s0F : Stands _ w.heap.size #[.slice sa1 m.stack.length sq1, .slice ma1 m.mem.length mq1, .slice wa1 m.words.length wq1, .slice ca1 m.codes.length cq1, .int .u32 m.base, .slice ta1 m.tree.length tq1, .int .i64 m.node, .slice ia1 m.insts.length iq1, .int .i64 m.self, .string o] 32 := (s0E.below dF).set 7 (.slice ia1 m.insts.length iq1)
      have s1F := (s1E.below dF).other (b' := w.heap.size) 7 (.slice ia1 m.insts.length iq1) (by omega)
      have bF := below_set (below_trans bE dF) w.heap.size 7 (.slice ia1 m.insts.length iq1) (Nat.le_refl _)
      have oI := own_le bE.size (own_kept kF (by decide) oX)
      have PF := (PE.below dF).kept kF (by decide) (by decide) (by decide) (by decide) (by decide) (by decide) (by decide)
      generalize qF.setCell ⟨w.heap.size, 7, none⟩ (.slice ia1 m.insts.length iq1) = QF at s0F s1F bF oI PF kF ⊢
      clear y1 y2 oX dF kF f7 s0E s1E PE bE CI
      have f7 := s0F.cell 7 _ rfl
      go_wp2_with fail
      go_loopw [51] (fun I wx => ∃ (i : Nat), (i : Int) ≤ m.insts.length ∧ I = .int .i64 i ∧ Stands wx w.heap.size #[.slice sa1 m.stack.length sq1, .slice ma1 m.mem.length mq1, .slice wa1 m.words.length wq1, .slice ca1 m.codes.length cq1, .int .u32 m.base, .slice ta1 m.tree.length tq1, .int .i64 m.node, .slice ia1 m.insts.length iq1, .int .i64 m.self, .string o] 32 ∧ Stands wx (w.heap.size + 1) #[.slice none 0 0, .slice none 0 0, .slice none 0 0, .slice none 0 0, .int .u32 0, .slice none 0 0, .int .i64 0, .slice none 0 0, .int .i64 0, .string ⟨#[]⟩] 32 ∧ Cpy w.heap.size wx (.slice sa1 m.stack.length sq1) (.slice ma1 m.mem.length mq1) (.slice wa1 m.words.length wq1) (.slice ca1 m.codes.length cq1) (.slice ta1 m.tree.length tq1) m ∧ RwI 83 4 (insO w.heap.size) w.heap.size (.slice ia1 m.insts.length iq1) m.insts irows i wx ∧ Below w.heap.size w wx) (fun I _ => (m.insts.length - intOf I).toNat)
      case atStart => exact ⟨0, by omega, rfl, s0F, s1F, PF, RwI.start HI2.out HIL.out oI, bF⟩
      case round =>
        clear s0F s1F PF oI bF f7 hb hi
        obtain ⟨i, hi, rfl, st, sz, P, hI, hb⟩ := hrel
        by_cases hlt : (i : Int) < m.insts.length
        · have hil : i < m.insts.length := by omega
          obtain ⟨csW, oWr⟩ := hI.row
          obtain ⟨g, cap, hg⟩ := own_some oWr (by omega)
          simp only [Value.slice.injEq] at hg
          obtain ⟨rfl, -, rfl⟩ := hg
          have hgb := (oWr.lt g rfl).1
          obtain ⟨vcI, hrow, rc⟩ := HI3.out i hil
          have cd := fun W (b : Below w.heap.size w W) => C32i.out i hil vcI rc W b
          obtain ⟨xa, xq, rfl⟩ := rd_slice rc
          have c4 := hI.cell hil 3 (by decide) _ (by rw [hrow]; rfl)
          have c2 := st.cell 7 _ rfl
          have hix := idx_ins g m.insts.length iq1 i hil
          obtain ⟨N5, hN5⟩ : ∃ N, m.insts[i].2.2.2.length = N := ⟨_, rfl⟩
          rw [hN5] at c4 hrow
          have HS : Hid (∀ W, Below wr.heap.size wr W → W.cell? ⟨w.heap.size, 7, none⟩ = some (.slice (some ⟨g, 0, none⟩) m.insts.length iq1)) := fun W q => below_cell q c2
          have hrd : Hid (Below wr.heap.size wr wr.drew) := below_drewN (Below.refl _ _) 1
          have hbd : Hid (Below w.heap.size w wr.drew) := below_drewN hb 1
          have CD := hid cd
          have T2 : Hid (∀ qD, Below wr.heap.size wr qD → qD.cell? ⟨g, i * 4 + 3, none⟩ = some (.slice xa N5 xq)) := fun qD q => below_cell q c4
          have T3 : Hid (∀ qD, Below wr.heap.size wr qD → qD.frozen? ⟨g, i * 4 + 3, none⟩ = false) := fun qD q => (hI.below q (insO_below q)).free (i * 4 + 3)
          have HI := hid hI
          have HROW := hid hrow
          have ST := hid st
          have SZ := hid sz
          have PP := hid P
          rw [hN5] at CD
          have HN5 := hid hN5
          clear cd hI oWr hN5 hrow rc st sz P
          go_wp2_with fail
          go_region_with (go_at_call 51; refine (CD.out _ (by with_reducible exact hbd.out)).mono ?_; rintro e qD ⟨vD, rfl, oD, bD'⟩; obtain ⟨dd, dcap, rfl⟩ := own_form oD; have RD : Hid (Below wr.heap.size wr qD) := below_trans hrd.out bD'; have y0 := HS.out qD RD.out; have y1 := T2.out qD RD.out; have y2 := T3.out qD RD.out; have OD := hid oD; clear oD bD')
          all_goals (
            go_wp2_with fail
            have bD := RD.out
            have hx : insO w.heap.size qD ((irows.getD i []).set 3 (.slice dd N5 dcap)) (m.insts[i]'hil) := by rw [HROW.out]; exact ⟨_, rfl, by rw [HN5.out]; exact own_le (Nat.le_trans hb.size hrd.out.size) OD.out⟩
            obtain ⟨hI9, k9⟩ := RwI.step (HI.out.below bD (insO_below bD)) hil 3 (by decide) (.slice dd N5 dcap) (insO_apt (by decide)) hx
            have B9 := below_set (below_trans hb bD) g (i * 4 + 3) (.slice dd N5 dcap) hgb
            have st9 := stands_kept k9 (by decide) (ST.out.below bD)
            have sz9 := stands_kept k9 (by decide) (SZ.out.below bD)
            have P9 := (PP.out.below bD).kept k9 (by decide) (by decide) (by decide) (by decide) (by decide) (by decide) (by decide)
            go_roundw
            case rel => exact ⟨i + 1, by omega, by go_num, st9, sz9, P9, hI9, B9⟩
            case measure => simp [intOf]; omega)
        · have oI := hI.done (by omega)
          have u0 := st.cell 0 _ rfl
          have u1 := st.cell 1 _ rfl
          have u2 := st.cell 2 _ rfl
          have u3 := st.cell 3 _ rfl
          have u4 := st.cell 4 _ rfl
          have u5 := st.cell 5 _ rfl
          have u6 := st.cell 6 _ rfl
          have u7 := st.cell 7 _ rfl
          have u8 := st.cell 8 _ rfl
          have u9 := st.cell 9 _ rfl
          have y0 := sz.cell 0 _ rfl
          have y1 := sz.cell 1 _ rfl
          have y2 := sz.cell 2 _ rfl
          have y3 := sz.cell 3 _ rfl
          have y4 := sz.cell 4 _ rfl
          have y5 := sz.cell 5 _ rfl
          have y6 := sz.cell 6 _ rfl
          have y7 := sz.cell 7 _ rfl
          have y8 := sz.cell 8 _ rfl
          have y9 := sz.cell 9 _ rfl
          have yf := sz.free
          obtain ⟨k1, k2⟩ := set10 sz (.slice sa1 m.stack.length sq1) (.slice ma1 m.mem.length mq1) (.slice wa1 m.words.length wq1) (.slice ca1 m.codes.length cq1) (.int .u32 m.base) (.slice ta1 m.tree.length tq1) (.int .i64 m.node) (.slice ia1 m.insts.length iq1) (.int .i64 m.self) (.string o)
          have oMM : OwM w.heap.size wr ⟨.slice sa1 m.stack.length sq1, .slice ma1 m.mem.length mq1, .slice wa1 m.words.length wq1, .slice ca1 m.codes.length cq1, .slice ta1 m.tree.length tq1, .slice ia1 m.insts.length iq1⟩ m o := ⟨P.stack, P.mem, P.words, P.codes, P.tree, oI, HO.out⟩
          have K1 := hid k1
          have GM := hid (k2 (fun u => OwM w.heap.size u ⟨.slice sa1 m.stack.length sq1, .slice ma1 m.mem.length mq1, .slice wa1 m.words.length wq1, .slice ca1 m.codes.length cq1, .slice ta1 m.tree.length tq1, .slice ia1 m.insts.length iq1⟩ m o) (fun u u' kk q => q.kept kk (by decide) (by decide) (by decide) (by decide) (by decide) (by decide) (by decide) (by decide)) oMM)
          have J7 : Hid (Below w.heap.size w _) := below_set (below_set (below_set (below_set (below_set (below_set (below_set (below_set (below_set (below_set (hb) (w.heap.size + 1) 0 (.slice sa1 m.stack.length sq1) (by omega)) (w.heap.size + 1) 1 (.slice ma1 m.mem.length mq1) (by omega)) (w.heap.size + 1) 2 (.slice wa1 m.words.length wq1) (by omega)) (w.heap.size + 1) 3 (.slice ca1 m.codes.length cq1) (by omega)) (w.heap.size + 1) 4 (.int .u32 m.base) (by omega)) (w.heap.size + 1) 5 (.slice ta1 m.tree.length tq1) (by omega)) (w.heap.size + 1) 6 (.int .i64 m.node) (by omega)) (w.heap.size + 1) 7 (.slice ia1 m.insts.length iq1) (by omega)) (w.heap.size + 1) 8 (.int .i64 m.self) (by omega)) (w.heap.size + 1) 9 (.string o) (by omega)
          clear k1 k2 oMM oI P hI hb st sz C32i CO HR3 HI3
          go_wp2_with fail
          (try simp only [Exit.inBlock, Exit.then])
          refine bodyPost_ret (results_cell_row rfl _ _ (w.heap.size + 1) 32 _ (0, 0) _ rfl K1.out Try.underlying32 rfl (show _ = some 10 by kernel_rfl)) rfl ?_
          exact ⟨⟨.slice sa1 m.stack.length sq1, .slice ma1 m.mem.length mq1, .slice wa1 m.words.length wq1, .slice ca1 m.codes.length cq1, .slice ta1 m.tree.length tq1, .slice ia1 m.insts.length iq1⟩, rfl, GM.out, J7.out⟩

end Go.Proofs.Ytfljcfpcokimcaa
