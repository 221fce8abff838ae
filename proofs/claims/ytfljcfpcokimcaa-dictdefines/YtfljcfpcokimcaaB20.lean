/-
  Texts of one proof, laid one behind the other: Dp8 Tf1.
-/
import Derived.Test.YtfljcfpcokimcaaB19
namespace Go.Proofs.Ytfljcfpcokimcaa
open Go.ChangeShapes Go.WideShapes Go.ChangeAt Go.RowKit
set_option linter.unusedVariables false
set_option linter.unusedSimpArgs false

/-
  Package dict's New.
-/
set_option maxHeartbeats 1000000 in
theorem w_p8newO (w : World) : Calls Try.prog 34 #[] w fun e w' => ∃ v, e = .returned v ∧ OwnT8 w.heap.size w' v [([], [], -1, [], [])] ∧ Below w.heap.size w w' := by
  go_enter Try.func34, Try.ntmps34
  go_wp2_with fail
  go_ret
  refine ⟨_, rfl, ?_, box_below _ _⟩
  refine ⟨[[.string ⟨#[]⟩, .slice none 0 0, .int .i64 (-1), .slice none 0 0, .slice none 0 0]], rfl, by simp, ⟨rfl, Or.inr ⟨w.heap.size, 1, #[.string ⟨#[]⟩, .slice none 0 0, .int .i64 (-1), .slice none 0 0, .slice none 0 0], rfl, Nat.le_refl _, heap_alloc_new w _, Nat.le_refl _, by decide, rfl, rfl⟩⟩, fun i hi => ?_⟩
  have : i = 0 := by simp at hi; omega
  subst this
  exact ⟨_, _, _, rfl, World.ownsRow_nil _ _ _ _, OwnR.nil _ _ _ _ _, World.ownsRow_nil _ _ _ _⟩

set_option maxHeartbeats 4000000 in
set_option maxRecDepth 100000 in
theorem w_p9newO (w : World) : Calls Try.prog 11 #[] w fun e w' => ∃ v, e = .returned (.agg (Mv.cs v newM ⟨#[]⟩)) ∧ OwM w.heap.size w' v newM ⟨#[]⟩ ∧ Below w.heap.size w w' := by
  obtain ⟨i9, hi9, hz9, hz8, hz7⟩ := info_parts infoWd9
  have bz := box_below w (.cells #[.slice none 0 0, .slice none 0 0, .slice none 0 0, .slice none 0 0, .int .u32 0, .slice none 0 0, .int .i64 0, .slice none 0 0, .int .i64 0, .string ⟨#[]⟩] 32)
  have sz0 := stands_new w #[.slice none 0 0, .slice none 0 0, .slice none 0 0, .slice none 0 0, .int .u32 0, .slice none 0 0, .int .i64 0, .slice none 0 0, .int .i64 0, .string ⟨#[]⟩] 32
  have cn := fun W => w_p8newO W
  have cp := fun W => w_p9primsO W
  go_enter Try.func11, Try.ntmps11
  go_upto_region 1 with fail
  generalize w.alloc (.cells #[.slice none 0 0, .slice none 0 0, .slice none 0 0, .slice none 0 0, .int .u32 0, .slice none 0 0, .int .i64 0, .slice none 0 0, .int .i64 0, .string ⟨#[]⟩] 32) = W0 at bz sz0 ⊢
  go_upto_region 2 with (go_at_call 34; refine (cn _).mono ?_; rintro e w1 ⟨vT, rfl, oT, b1⟩; obtain ⟨csT, oTr⟩ := oT.row; obtain ⟨ta, tc, rfl⟩ := own_form oTr)
  have sm := stands_new w1 #[.slice none 0 0, .slice none 0 0, .slice none 0 0, .slice none 0 0, .int .u32 16, .slice ta 1 tc, .int .i64 (-1), .slice none 0 0, .int .i64 (-1), .string ⟨#[]⟩] 32
  have bm := box_below w1 (.cells #[.slice none 0 0, .slice none 0 0, .slice none 0 0, .slice none 0 0, .int .u32 16, .slice ta 1 tc, .int .i64 (-1), .slice none 0 0, .int .i64 (-1), .string ⟨#[]⟩] 32)
  have b01 := below_trans b1 bm
  have szm := sz0.below b01
  have oT2 := OwnT8.below oT bm
  obtain ⟨B, hB⟩ : ∃ B, w1.heap.size = B := ⟨_, rfl⟩
  have hBW : W0.heap.size ≤ B := by rw [← hB]; exact b1.size
  have hw0 : w.heap.size < W0.heap.size := (Array.getElem?_eq_some_iff.1 sz0).1
  rw [hB] at sm
  simp only [List.length_singleton] at sm bm szm b01 oT2 ⊢
  simp only [hB]
  generalize w1.alloc (.cells #[.slice none 0 0, .slice none 0 0, .slice none 0 0, .slice none 0 0, .int .u32 16, .slice ta 1 tc, .int .i64 (-1), .slice none 0 0, .int .i64 (-1), .string ⟨#[]⟩] 32) = w2 at sm bm szm b01 oT2 ⊢
  go_wp2_with (go_at_call 13; refine (cp _).mono ?_; rintro e w3 ⟨vl, rfl, oL, b3⟩; have hll := slr_len (oL.read (R := prmR) (by decide) (fun _ _ q => q)) uM (P := Try.prog); rw [prm_len] at hll)
  have W2L := b01.size
  go_loopw [8] (fun I wx => ∃ (i : Nat) (vw : Value), (i : Int) ≤ 111 ∧ I = .int .i64 i ∧ Stands wx B #[.slice none 0 0, .slice none 0 0, vw, .slice none 0 0, .int .u32 16, .slice ta 1 tc, .int .i64 (-1), .slice none 0 0, .int .i64 (-1), .string ⟨#[]⟩] 32 ∧ Stands wx w.heap.size #[.slice none 0 0, .slice none 0 0, .slice none 0 0, .slice none 0 0, .int .u32 0, .slice none 0 0, .int .i64 0, .slice none 0 0, .int .i64 0, .string ⟨#[]⟩] 32 ∧ OwW w2.heap.size wx vw ((prmL.take i).map prmW) ∧ OwnR 37 2 prmR w2.heap.size wx vl prmL ∧ OwnT8 W0.heap.size wx (.slice ta 1 tc) [([], [], -1, [], [])] ∧ w2.heap.size ≤ wx.heap.size ∧ Below W0.heap.size W0 wx) (fun I _ => (111 - intOf I).toNat)
  case atStart => exact ⟨0, .slice none 0 0, by omega, rfl, sm.below b3, szm.below b3, OwnR.nil _ _ _ _ _, oL, oT2.below b3, b3.size, below_trans b01 b3⟩
  case round =>
    clear cn cp oL b3 oT2 szm sm oT oTr
    obtain ⟨i, vw, hi, rfl, st, sz, oW, oL, oT, hwL, hb⟩ := hrel
    have hb0 := below_trans bz hb
    by_cases hlt : (i : Int) < 111
    · have hil : i < prmL.length := by rw [prm_len]; omega
      obtain ⟨bp, op, nm, rp, p0, p1, en⟩ := prm_cell (oL.read (R := prmR) (by decide) (fun _ _ q => q)) i hil
      have hcd := List.all_eq_true.1 prm_codes _ (List.getElem_mem hil)
      rw [decide_eq_true_eq] at hcd
      obtain ⟨c, hc⟩ : ∃ c, prmL[i].2 = c := ⟨_, rfl⟩
      rw [hc] at p1 hcd
      have hwr := wrap_u32 c hcd.1 hcd.2
      have hrow : prmW prmL[i] = (prmL[i].1, -1, 1, c, []) := by unfold prmW; rw [hc]
      have htk : (prmL.take (i + 1)).map prmW = (prmL.take i).map prmW ++ [prmW prmL[i]] := by rw [List.take_succ_eq_append_getElem hil, List.map_append]; rfl
      have hlw : ((prmL.take i).map prmW).length = i := by rw [List.length_map, List.length_take]; omega
      obtain ⟨csW, oWr⟩ := oW.row
      obtain ⟨wa, wc, rfl⟩ := own_form oWr
      rw [hlw] at st oW oWr
      have bP := box_below wr (.cells #[.string nm, .int .i64 c] 37)
      have sp := stands_new wr #[.string nm, .int .i64 c] 37
      have stP := st.below bP
      have szP := sz.below bP
      have oWP := OwnR.below oW bP (wrdO_below bP)
      have oLP := OwnR.below oL bP (fun _ _ q => q)
      have oTP := OwnT8.below oT bP
      have hbP := below_trans hb bP
      have hwP := Nat.le_trans hwL bP.size
      clear oWr htk hb0
      have EN := hid en
      have HROW := hid hrow
      clear en hrow
      go_upto_region 5 with fail
      generalize wr.alloc (.cells #[.string nm, .int .i64 c] 37) = wp at sp stP szP oWP oLP oTP hbP hwP ⊢
      have g0 := sp.cell 0 _ rfl
      have g1 := sp.cell 1 _ rfl
      have g2 := stP.cell 2 _ rfl
      have bX := box_below wp (.cells #[.string nm, .int .i64 (-1), .int .i64 1, .int .u32 c, .slice none 0 0] 51)
      obtain ⟨wrows, h1, h2, h3, h4⟩ := OwnR.below oWP bX (wrdO_below bX)
      rw [hlw] at h3
      have hx : wrdO w2.heap.size (wp.alloc (.cells #[.string nm, .int .i64 (-1), .int .i64 1, .int .u32 c, .slice none 0 0] 51)) [Value.string nm, .int .i64 (-1), .int .i64 1, .int .u32 c, .slice none 0 0] (prmW prmL[i]) := by rw [HROW.out]; exact ⟨_, by rw [EN.out], OwnR.nil _ _ _ _ _⟩
      have H1 := hid h1
      have H2 := hid h2
      have H4 := hid h4
      have HX := hid hx
      clear h1 h2 h4 hx p0 p1 rp
      have one : ∀ r ∈ [[Value.string nm, .int .i64 (-1), .int .i64 1, .int .u32 c, .slice none 0 0]], ∀ u ∈ r, u.oneCell' = true := fun r hr u hu => by rw [List.mem_singleton] at hr; subst hr; simp at hu; rcases hu with rfl | rfl | rfl | rfl | rfl <;> rfl
      go_upto_region 6 with (at_builtin; refine wpList_append_rows rfl _ _ 26 rfl w2.heap.size 51 i9 _ 5 64 Try.underlying26 hi9 hz9 hz8 hz7 rfl (by decide) _ i _ rfl h3 _ [[Value.string nm, .int .i64 (-1), .int .i64 1, .int .u32 c, .slice none 0 0]] rfl (slc_one wp [Value.string nm, .int .i64 (-1), .int .i64 1, .int .u32 c, .slice none 0 0] 51 5 rfl) one (by unfold maxLen; simp only [List.length_singleton]; omega) (by simp only [List.length_singleton]; omega) (Nat.le_trans hwP bX.size) ?_; intro v9 w9 ho9 hg9; obtain ⟨a9, c9, rfl⟩ := own_form ho9; have st9 := Stands.grown (stP.below bX) hg9 (stands_apart (stP.below bX) h3 (by decide)); have y2 := st9.cell 2 _ rfl; have yg := st9.free 2)
      have k9 := Kept.own h3 hg9
      have oW9 := OwnR.snoc (e := 51) (wrdO_apt (by decide)) H1.out H2.out (by rw [hlw]; exact h3) H4.out rfl HX.out (by rw [hlw]; simpa using ho9) hg9
      have htk : (prmL.take (i + 1)).map prmW = (prmL.take i).map prmW ++ [prmW prmL[i]] := by rw [List.take_succ_eq_append_getElem hil, List.map_append]; rfl
      rw [← htk] at oW9
      have oL9 := OwnR.kept (OwnR.below oLP bX (fun _ _ q => q)) k9 (by decide) (fun _ _ _ _ _ q => q)
      have oT9 := OwnR.kept (OwnT8.below oTP bX) k9 (by decide) (nodO_apt (by decide) (by decide) (by decide))
      have sz9 : Stands w9 w.heap.size #[.slice none 0 0, .slice none 0 0, .slice none 0 0, .slice none 0 0, .int .u32 0, .slice none 0 0, .int .i64 0, .slice none 0 0, .int .i64 0, .string ⟨#[]⟩] 32 := Stands.grown (szP.below bX) hg9 (stands_apart (szP.below bX) h3 (by decide))
      have hb9 := below_grown (below_trans hbP bX) hg9 (fun k hk => Nat.le_trans W2L (h3.lt k hk).1)
      have kM := set_kept st9 2 (.slice a9 (i + [[Value.string nm, .int .i64 (-1), .int .i64 1, .int .u32 c, .slice none 0 0]].length) c9)
      have stF : Stands _ B #[.slice none 0 0, .slice none 0 0, .slice a9 (i + [[Value.string nm, .int .i64 (-1), .int .i64 1, .int .u32 c, .slice none 0 0]].length) c9, .slice none 0 0, .int .u32 16, .slice ta 1 tc, .int .i64 (-1), .slice none 0 0, .int .i64 (-1), .string ⟨#[]⟩] 32 := st9.set 2 (.slice a9 (i + [[Value.string nm, .int .i64 (-1), .int .i64 1, .int .u32 c, .slice none 0 0]].length) c9)
      have szF := sz9.other (b' := B) 2 (.slice a9 (i + [[Value.string nm, .int .i64 (-1), .int .i64 1, .int .u32 c, .slice none 0 0]].length) c9) (by omega)
      have oWF := OwnR.kept oW9 kM (by decide) (wrdO_apt (by decide))
      have oLF := OwnR.kept oL9 kM (by decide) (fun _ _ _ _ _ q => q)
      have oTF := OwnR.kept oT9 kM (by decide) (nodO_apt (by decide) (by decide) (by decide))
      have bF := below_set hb9 B 2 (.slice a9 (i + [[Value.string nm, .int .i64 (-1), .int .i64 1, .int .u32 c, .slice none 0 0]].length) c9) hBW
      have hwF : w2.heap.size ≤ (w9.setCell ⟨B, 2, none⟩ (.slice a9 (i + [[Value.string nm, .int .i64 (-1), .int .i64 1, .int .u32 c, .slice none 0 0]].length) c9)).heap.size := by
        have e1 := hg9.size
        have e2 := bX.size
        simp only [World.setCell, Array.size_modify]
        omega
      generalize w9.setCell ⟨B, 2, none⟩ (.slice a9 (i + [[Value.string nm, .int .i64 (-1), .int .i64 1, .int .u32 c, .slice none 0 0]].length) c9) = w10 at kM stF szF oWF oLF oTF bF hwF ⊢
      clear k9 h3 ho9 hg9 oW9 oL9 oT9 st9 sz9 hb9 kM y2 yg g0 g1 g2 sp stP szP oWP oLP oTP hbP bX one
      go_wp2_with fail
      go_roundw
      case rel => exact ⟨i + 1, _, by omega, by go_num, stF, szF, oWF, oLF, oTF, hwF, bF⟩
      case measure => simp [intOf]; omega
    · have hi1 : i = 111 := by omega
      subst hi1
      have hfull : (prmL.take 111).map prmW = newM.words := by rw [List.take_of_length_le (by rw [prm_len]; exact Nat.le_refl _)]; rfl
      rw [hfull] at oW
      obtain ⟨csW, oWr⟩ := oW.row
      have hnl : newM.words.length = 111 := by show (prmL.map prmW).length = 111; rw [List.length_map, prm_len]
      obtain ⟨wa, wc, rfl⟩ := own_form oWr
      rw [hnl] at st oW oWr
      have u0 := st.cell 0 _ rfl
      have u1 := st.cell 1 _ rfl
      have u2 := st.cell 2 _ rfl
      have u3 := st.cell 3 _ rfl
      have u4 := st.cell 4 _ rfl
      have u5 := st.cell 5 _ rfl
      have u6 := st.cell 6 _ rfl
      have u7 := st.cell 7 _ rfl
      have u8 := st.cell 8 _ rfl
      have u9 := st.cell 9 _ rfl
      have y0 := sz.cell 0 _ rfl
      have y1 := sz.cell 1 _ rfl
      have y2 := sz.cell 2 _ rfl
      have y3 := sz.cell 3 _ rfl
      have y4 := sz.cell 4 _ rfl
      have y5 := sz.cell 5 _ rfl
      have y6 := sz.cell 6 _ rfl
      have y7 := sz.cell 7 _ rfl
      have y8 := sz.cell 8 _ rfl
      have y9 := sz.cell 9 _ rfl
      have yf := sz.free
      obtain ⟨k1, k2⟩ := set10 sz (.slice none 0 0) (.slice none 0 0) (.slice wa 111 wc) (.slice none 0 0) (.int .u32 16) (.slice ta 1 tc) (.int .i64 (-1)) (.slice none 0 0) (.int .i64 (-1)) (.string ⟨#[]⟩)
      have K1 := hid k1
      have J3 := hid (k2 (fun u => OwW w2.heap.size u (.slice wa 111 wc) newM.words) (fun u u' kk x => OwnR.kept x kk (by decide) (wrdO_apt (by decide))) oW)
      have J5 := hid (k2 (fun u => OwnT8 W0.heap.size u (.slice ta 1 tc) [([], [], -1, [], [])]) (fun u u' kk x => OwnT8.kept x kk (by decide) (by decide) (by decide) (by decide)) oT)
      have J7 : Hid (Below w.heap.size w _) := below_set (below_set (below_set (below_set (below_set (below_set (below_set (below_set (below_set (below_set (hb0) w.heap.size 0 (.slice none 0 0) (Nat.le_refl _)) w.heap.size 1 (.slice none 0 0) (Nat.le_refl _)) w.heap.size 2 (.slice wa 111 wc) (Nat.le_refl _)) w.heap.size 3 (.slice none 0 0) (Nat.le_refl _)) w.heap.size 4 (.int .u32 16) (Nat.le_refl _)) w.heap.size 5 (.slice ta 1 tc) (Nat.le_refl _)) w.heap.size 6 (.int .i64 (-1)) (Nat.le_refl _)) w.heap.size 7 (.slice none 0 0) (Nat.le_refl _)) w.heap.size 8 (.int .i64 (-1)) (Nat.le_refl _)) w.heap.size 9 (.string ⟨#[]⟩) (Nat.le_refl _)
      have HZ := hid bz.size
      have HZ2 : Hid (w.heap.size ≤ w2.heap.size) := hid (Nat.le_trans bz.size W2L)
      clear k1 k2 oW oT oWr hb hb0 st sz
      go_wp2_with fail
      (try simp only [Exit.inBlock, Exit.then])
      refine bodyPost_ret (results_cell_row rfl _ _ w.heap.size 32 _ (0, 0) _ rfl K1.out Try.underlying32 rfl (show _ = some 10 by kernel_rfl)) rfl ?_
      exact ⟨⟨.slice none 0 0, .slice none 0 0, .slice wa 111 wc, .slice none 0 0, .slice ta 1 tc, .slice none 0 0⟩, rfl, ⟨World.ownsRow_nil _ _ _ _, World.ownsRow_nil _ _ _ _, OwnR.le HZ2.out J3.out (wrdO_le HZ2.out), World.ownsRow_nil _ _ _ _, OwnT8.le HZ.out J5.out, OwnR.nil _ _ _ _ _, by decide +kernel⟩, J7.out⟩

/-
  What package tree asks by closures: IndexFunc at devices and at properties, the closures that it is handed, child, called, meant, place.
-/
/-- a function value that answers a question about each of these devices, in every later world -/
def AskN (w : World) (g : Nat) (lb : Array Value) (p : Nd → Bool) (t : List Nd) : Prop :=
  ∀ (W : World) (nm : ByteArray) (vu vp vc : Value) (x : Nd), Below w.heap.size w W → x ∈ t → strOfNums x.1 = nm → Rd .u32 W vu x.2.1 → SlR 2 propR W vp x.2.2.2.1 → Rd .u32 W vc x.2.2.2.2 →
    Calls Try.prog g (#[.agg #[.string nm, vu, .int .i64 x.2.2.1, vp, vc]] ++ lb) W fun e w' => e = .returned (.bool (p x)) ∧ Below W.heap.size W w'
theorem AskN.later {w w' : World} {g : Nat} {lb : Array Value} {p : Nd → Bool} {t : List Nd} (h : AskN w g lb p t) (b : Below w.heap.size w w') : AskN w' g lb p t :=
  fun W nm vu vp vc x hb => h W nm vu vp vc x (below_trans b hb)
theorem AskN.part {w : World} {g : Nat} {lb : Array Value} {p : Nd → Bool} {t t' : List Nd} (h : AskN w g lb p t) (hs : ∀ x ∈ t', x ∈ t) : AskN w g lb p t' :=
  fun W nm vu vp vc x hb hx => h W nm vu vp vc x hb (hs x hx)
theorem idx_hit {α : Type} {t : List α} {p : α → Bool} {k : Nat} (hk : k < t.length) (h : p t[k] = true) (hn : ∀ j (hj : j < k), p (t[j]'(by omega)) = false) : t.findIdx? p = some k := by
  rw [List.findIdx?_eq_some_iff_getElem]
  exact ⟨hk, h, fun j hj => by simp [hn j hj]⟩
theorem idx_miss {α : Type} {t : List α} {p : α → Bool} (hn : ∀ j (hj : j < t.length), p t[j] = false) : t.findIdx? p = none := by
  rw [List.findIdx?_eq_none_iff]
  intro x hx
  obtain ⟨j, hj, rfl⟩ := List.getElem_of_mem hx
  exact hn j hj

set_option maxHeartbeats 1000000 in
set_option maxRecDepth 100000 in
theorem w_pindexN (v : Value) (t : List Nd) (g : Nat) (lb : Array Value) (p : Nd → Bool) (w : World) (eg : ∀ args w, (callFunc g args).run Try.prog w = .ok (.enter g args) w) (h : RdT w v t) (hp : AskN w g lb p t) :
    Calls Try.prog 93 #[v, .func (.func g) #[] lb] w fun e w' => e = .returned (.int .i64 (fdI (t.findIdx? p))) ∧ Below w.heap.size w w' := by
  have hl := slr_len h uN (P := Try.prog)
  have hm := slr_max h
  unfold maxLen at hm
  obtain ⟨R, hR⟩ : ∃ R, fdI (t.findIdx? p) = R := ⟨_, rfl⟩
  rw [hR]
  have HR := hid hR
  clear hR
  go_enter Try.func93, Try.ntmps93
  go_wp2_with fail
  go_loopw [8] (fun I wx => ∃ k : Nat, (k : Int) ≤ t.length ∧ I = .int .i64 k ∧ Hid (∀ j (hj : j < k) (hl : j < t.length), p t[j] = false) ∧ Below w.heap.size w wx) (fun I _ => (t.length - intOf I).toNat)
  case atStart => exact ⟨0, by omega, rfl, hid (fun j hj => by omega), Below.refl _ _⟩
  case round =>
    obtain ⟨k, hk, rfl, hq, hg⟩ := hrel
    by_cases hlt : (k : Int) < t.length
    · have hkl : k < t.length := by omega
      obtain ⟨b1, o1, N1, u1, p1, c1, r1, f0, f1, f2, f3, f4, e1, hu1, hp1, hc1⟩ := nod_at (h.below hg) k hkl
      have hc := hp wr N1 u1 p1 c1 t[k] hg (List.getElem_mem hkl) e1 hu1 hp1 hc1
      obtain ⟨X, hX⟩ : ∃ X, t[k].2.2.1 = X := ⟨_, rfl⟩
      rw [hX] at f2 hc
      obtain ⟨ua, uq, rfl⟩ := rd_slice hu1
      obtain ⟨pa, pq, rfl⟩ := slr_slice hp1
      obtain ⟨ca, cq, rfl⟩ := rd_slice hc1
      cases hpk : p t[k]
      · rw [hpk] at hc
        have hq2 : Hid (∀ j (hj : j < k + 1) (hl : j < t.length), p t[j] = false) := by
          show ∀ j _ _, _
          intro j hj hl
          by_cases hjk : j < k
          · exact hq.out j hjk hl
          · have : j = k := by omega
            subst this
            exact hpk
        clear hpk e1 hX hp
        go_wp2_with (go_at_fn g; refine hc.mono ?_; rintro e w1 ⟨rfl, b1⟩)
        go_roundw
        case rel => exact ⟨k + 1, by omega, by go_num, hq2, below_trans hg b1⟩
        case measure => simp [intOf]; omega
      · rw [hpk] at hc
        have hf : Hid (R = k) := by
          show _ = _
          rw [← HR.out, idx_hit hkl hpk (fun j hj => hq.out j hj (by omega))]
          rfl
        clear hpk e1 hX hp
        go_wp2_with (go_at_fn g; refine hc.mono ?_; rintro e w1 ⟨rfl, b1⟩)
        go_ret
        rw [hf.out]
        exact ⟨rfl, below_trans hg b1⟩
    · have hf : Hid (R = -1) := by
        show _ = _
        rw [← HR.out, idx_miss (fun j hj => hq.out j (by omega) hj)]
        rfl
      go_wp2_with fail
      go_ret
      rw [hf.out]
      exact ⟨rfl, hg⟩

set_option maxHeartbeats 1000000 in
set_option maxRecDepth 100000 in
theorem w_pplace1 (nm s : ByteArray) (vd : Value) (x : Pp) (B : Nat) (W : World) (e0 : strOfNums x.1 = nm) (hb : bytesL x.1) (hd : Rd .u8 W vd x.2) (hs : W.cell? ⟨B, 0, none⟩ = some (.string s)) :
    Calls Try.prog 99 #[.agg #[.string nm, vd], .pointer (some ⟨B, 0, none⟩)] W fun e w' => e = .returned (.bool (decide (x.1 = L s))) ∧ Below W.heap.size W w' := by
  have hq := str_eq8 nm s _ (L s) hb (LB_bytes s) e0 (nums_LB s)
  obtain ⟨da, dq, rfl⟩ := rd_slice hd
  have bx := box_below W (.cells #[.string nm, .slice da x.2.length dq] 101)
  have hs2 := below_cell bx hs
  have z0 := (stands_new W #[.string nm, .slice da x.2.length dq] 101).cell 0 _ rfl
  go_enter Try.func99, Try.ntmps99
  go_wp2_with fail
  go_ret
  exact ⟨rfl, bx⟩

set_option maxHeartbeats 1000000 in
set_option maxRecDepth 100000 in
theorem w_pindexP (v : Value) (l : List Pp) (s : ByteArray) (B : Nat) (w : World) (h : SlR 2 propR w v l) (bl : ∀ x ∈ l, bytesL x.1) (hs : w.cell? ⟨B, 0, none⟩ = some (.string s)) :
    Calls Try.prog 98 #[v, .func (.func 99) #[] #[.pointer (some ⟨B, 0, none⟩)]] w fun e w' => e = .returned (.int .i64 (fdI (pfF l (L s)))) ∧ Below w.heap.size w w' := by
  have eg : ∀ args w, (callFunc 99 args).run Try.prog w = .ok (.enter 99 args) w := enters_of Try.func99 (by kernel_rfl) rfl
  have hl := slr_len h uR (P := Try.prog)
  have hm := slr_max h
  unfold maxLen at hm
  obtain ⟨R, hR⟩ : ∃ R, fdI (pfF l (L s)) = R := ⟨_, rfl⟩
  rw [hR]
  have HR := hid hR
  clear hR
  go_enter Try.func98, Try.ntmps98
  go_wp2_with fail
  go_loopw [8] (fun I wx => ∃ k : Nat, (k : Int) ≤ l.length ∧ I = .int .i64 k ∧ Hid (∀ j (hj : j < k) (g : j < l.length), ¬ l[j].1 = L s) ∧ Below w.heap.size w wx) (fun I _ => (l.length - intOf I).toNat)
  case atStart => exact ⟨0, by omega, rfl, hid (fun j hj => by omega), Below.refl _ _⟩
  case round =>
    obtain ⟨k, hk, rfl, hp, hg⟩ := hrel
    by_cases hlt : (k : Int) < l.length
    · have hkl : k < l.length := by omega
      obtain ⟨b, o, nm, vd, r, f0, f1, e0, hd0⟩ := prp_at8 (h.below hg (propR_below hg)) k hkl
      have hc := w_pplace1 nm s vd l[k] B wr e0 (bl _ (List.getElem_mem hkl)) hd0 (below_cell hg hs)
      obtain ⟨da, dq, rfl⟩ := rd_slice hd0
      by_cases hx : l[k].1 = L s
      · have hf : Hid (R = k) := by
          show _ = _
          rw [← HR.out, pf_hit hkl hx (fun j hj => hp.out j hj (by omega))]
          rfl
        rw [decide_eq_true hx] at hc
        clear hx e0
        go_wp2_with (go_at_fn 99; refine hc.mono ?_; rintro e w1 ⟨rfl, b1⟩)
        go_ret
        rw [hf.out]
        exact ⟨rfl, below_trans hg b1⟩
      · rw [decide_eq_false hx] at hc
        have hp2 : Hid (∀ j (hj : j < k + 1) (g : j < l.length), ¬ l[j].1 = L s) := by
          show ∀ j _ _, _
          intro j hj g
          by_cases hjk : j < k
          · exact hp.out j hjk g
          · have : j = k := by omega
            subst this
            exact hx
        clear hx e0
        go_wp2_with (go_at_fn 99; refine hc.mono ?_; rintro e w1 ⟨rfl, b1⟩)
        go_roundw
        case rel => exact ⟨k + 1, by omega, by go_num, hp2, below_trans hg b1⟩
        case measure => simp [intOf]; omega
    · have hf : Hid (R = -1) := by
        show _ = _
        have : pfF l (L s) = none := by
          rw [pf_none]
          intro x hx
          obtain ⟨j, hj, rfl⟩ := List.getElem_of_mem hx
          exact hp.out j (by omega) hj
        rw [← HR.out, this]
        rfl
      go_wp2_with fail
      go_ret
      rw [hf.out]
      exact ⟨rfl, hg⟩

set_option maxHeartbeats 1000000 in
theorem w_pplace (v : Value) (l : List Pp) (s : ByteArray) (w : World) (h : SlR 2 propR w v l) (bl : ∀ x ∈ l, bytesL x.1) :
    Calls Try.prog 90 #[v, .string s] w fun e w' => e = .returned (.int .i64 (fdI (pfF l (L s)))) ∧ Below w.heap.size w w' := by
  have hmf : ∀ (fn : Fn) (first cap : Array Value) (w : World), (Instr.makeFunc fn first cap).run Try.prog w = .ok (.func fn first cap) w := fun _ _ _ _ => rfl
  have bx := box_below w (.cells #[.string s] 9)
  have z0 := (stands_new w #[.string s] 9).cell 0 _ rfl
  have hc := w_pindexP v l s w.heap.size _ (h.below bx (propR_below bx)) bl z0
  go_enter Try.func90, Try.ntmps90
  go_wp2_with (go_at_call 98; refine hc.mono ?_; rintro e w1 ⟨rfl, b1⟩)
  go_ret
  exact ⟨rfl, below_trans bx b1⟩

set_option maxHeartbeats 1000000 in
set_option maxRecDepth 100000 in
theorem w_pcalled1 (nm s : ByteArray) (vu vp vc vw : Value) (x : Nd) (un : List Int) (B B2 : Nat) (W : World) (e0 : strOfNums x.1 = nm) (hb : bytesL x.1) (hu : Rd .u32 W vu x.2.1) (hp : SlR 2 propR W vp x.2.2.2.1) (hc : Rd .u32 W vc x.2.2.2.2) (hs : W.cell? ⟨B, 0, none⟩ = some (.string s)) (hs2 : W.cell? ⟨B2, 0, none⟩ = some vw) (hw : Rd .u32 W vw un) :
    Calls Try.prog 95 #[.agg #[.string nm, vu, .int .i64 x.2.2.1, vp, vc], .pointer (some ⟨B, 0, none⟩), .pointer (some ⟨B2, 0, none⟩)] W fun e w' => e = .returned (.bool (decide (x.1 = L s) && decide (x.2.1 = un))) ∧ Below W.heap.size W w' := by
  have hq := str_eq8 nm s _ (L s) hb (LB_bytes s) e0 (nums_LB s)
  obtain ⟨ua, uq, rfl⟩ := rd_slice hu
  obtain ⟨pa, pq, rfl⟩ := slr_slice hp
  obtain ⟨ca, cq, rfl⟩ := rd_slice hc
  obtain ⟨wa, wq, rfl⟩ := rd_slice hw
  obtain ⟨X, hX⟩ : ∃ X, x.2.2.1 = X := ⟨_, rfl⟩
  rw [hX]
  have st := stands_new W #[.string nm, .slice ua x.2.1.length uq, .int .i64 X, .slice pa x.2.2.2.1.length pq, .slice ca x.2.2.2.2.length cq] 91
  have bx := box_below W (.cells #[.string nm, .slice ua x.2.1.length uq, .int .i64 X, .slice pa x.2.2.2.1.length pq, .slice ca x.2.2.2.2.length cq] 91)
  have z0 := st.cell 0 _ rfl
  have z1 := st.cell 1 _ rfl
  have l0 := below_cell bx hs
  have l1 := below_cell bx hs2
  by_cases h1 : x.1 = L s
  · rw [decide_eq_true h1] at hq ⊢
    have ce := w_pequal _ _ _ _ _ (hu.below bx) (hw.below bx)
    rw [Bool.true_and]
    obtain ⟨b, hb⟩ : ∃ b, decide (x.2.1 = un) = b := ⟨_, rfl⟩
    rw [hb] at ce ⊢
    clear h1 hb e0 hX
    go_enter Try.func95, Try.ntmps95
    go_wp2_with (go_at_call 96; refine ce.mono ?_; rintro e w1 ⟨rfl, d1⟩)
    go_ret
    exact ⟨rfl, below_trans bx (dr_below d1)⟩
  · rw [decide_eq_false h1] at hq ⊢
    clear h1 e0 hX
    go_enter Try.func95, Try.ntmps95
    go_wp2_with fail
    go_ret
    exact ⟨rfl, bx⟩

set_option maxHeartbeats 1000000 in
set_option maxRecDepth 100000 in
theorem w_pcalled (s : ByteArray) (vw : Value) (un : List Int) (t : List Nd) (w : World) (hw : Rd .u32 w vw un) (bt : ∀ x ∈ t, bytN x) :
    Calls Try.prog 88 #[.string s, vw] w fun e w' => ∃ lb, e = .returned (.func (.func 95) #[] lb) ∧ AskN w' 95 lb (fun x => decide (x.1 = L s) && decide (x.2.1 = un)) t ∧ Below w.heap.size w w' := by
  have hmf : ∀ (fn : Fn) (first cap : Array Value) (w : World), (Instr.makeFunc fn first cap).run Try.prog w = .ok (.func fn first cap) w := fun _ _ _ _ => rfl
  obtain ⟨wa, wq, rfl⟩ := rd_slice hw
  have b1 := box_below w (.cells #[.string s] 9)
  have b2 := box_below (w.alloc (.cells #[.string s] 9)) (.cells #[.slice wa un.length wq] 24)
  have z1 := ((stands_new w #[.string s] 9).below b2).cell 0 _ rfl
  have z2 := (stands_new (w.alloc (.cells #[.string s] 9)) #[.slice wa un.length wq] 24).cell 0 _ rfl
  rw [size_al] at z2
  have b3 := below_trans b1 b2
  have ha : AskN ((w.alloc (.cells #[.string s] 9)).alloc (.cells #[.slice wa un.length wq] 24)) 95 #[.pointer (some ⟨w.heap.size, 0, none⟩), .pointer (some ⟨w.heap.size + 1, 0, none⟩)] (fun x => decide (x.1 = L s) && decide (x.2.1 = un)) t := by
    intro W nm vu vp vc x hb hx e0 hu hp hc
    exact w_pcalled1 nm s vu vp vc _ x un _ _ W e0 (bt x hx).1 hu hp hc (below_cell hb z1) (below_cell hb z2) ((hw.below b3).below hb)
  clear z1 z2
  go_enter Try.func88, Try.ntmps88
  go_wp2_with fail
  go_ret
  exact ⟨_, rfl, ha, b3⟩

set_option maxHeartbeats 1000000 in
set_option maxRecDepth 100000 in
theorem w_pchild1 (nm : ByteArray) (vu vp vc : Value) (x : Nd) (P : Int) (g : Nat) (lb : Array Value) (q : Bool) (B B2 : Nat) (W : World) (eg : ∀ args w, (callFunc g args).run Try.prog w = .ok (.enter g args) w) (hu : Rd .u32 W vu x.2.1) (hp : SlR 2 propR W vp x.2.2.2.1) (hc : Rd .u32 W vc x.2.2.2.2) (hs : W.cell? ⟨B, 0, none⟩ = some (.int .i64 P)) (hs2 : W.cell? ⟨B2, 0, none⟩ = some (.func (.func g) #[] lb))
    (ha : ∀ W2, Below W.heap.size W W2 → Calls Try.prog g (#[.agg #[.string nm, vu, .int .i64 x.2.2.1, vp, vc]] ++ lb) W2 fun e w' => e = .returned (.bool q) ∧ Below W2.heap.size W2 w') :
    Calls Try.prog 94 #[.agg #[.string nm, vu, .int .i64 x.2.2.1, vp, vc], .pointer (some ⟨B, 0, none⟩), .pointer (some ⟨B2, 0, none⟩)] W fun e w' => e = .returned (.bool (decide (x.2.2.1 = P) && q)) ∧ Below W.heap.size W w' := by
  obtain ⟨ua, uq, rfl⟩ := rd_slice hu
  obtain ⟨pa, pq, rfl⟩ := slr_slice hp
  obtain ⟨ca, cq, rfl⟩ := rd_slice hc
  obtain ⟨X, hX⟩ : ∃ X, x.2.2.1 = X := ⟨_, rfl⟩
  rw [hX] at ha ⊢
  have st := stands_new W #[.string nm, .slice ua x.2.1.length uq, .int .i64 X, .slice pa x.2.2.2.1.length pq, .slice ca x.2.2.2.2.length cq] 91
  have bx := box_below W (.cells #[.string nm, .slice ua x.2.1.length uq, .int .i64 X, .slice pa x.2.2.2.1.length pq, .slice ca x.2.2.2.2.length cq] 91)
  have z0 := st.cell 0 _ rfl
  have z1 := st.cell 1 _ rfl
  have z2 := st.cell 2 _ rfl
  have z3 := st.cell 3 _ rfl
  have z4 := st.cell 4 _ rfl
  have l0 := below_cell bx hs
  have l1 := below_cell bx hs2
  have hca := ha _ bx
  by_cases h1 : X = P
  · have hq : (X == P) = true := by simpa using h1
    rw [decide_eq_true h1, Bool.true_and]
    clear h1 hX ha
    go_enter Try.func94, Try.ntmps94
    go_wp2_with (go_at_fn g; refine hca.mono ?_; rintro e w1 ⟨rfl, d1⟩)
    go_ret
    exact ⟨rfl, below_trans bx d1⟩
  · have hq : (X == P) = false := by simpa using h1
    rw [decide_eq_false h1, Bool.false_and]
    clear h1 hX ha hca
    go_enter Try.func94, Try.ntmps94
    go_wp2_with fail
    go_ret
    exact ⟨rfl, bx⟩

set_option maxHeartbeats 1000000 in
set_option maxRecDepth 100000 in
theorem w_pchild (v : Value) (t : List Nd) (P : Int) (g : Nat) (lb : Array Value) (p : Nd → Bool) (w : World) (eg : ∀ args w, (callFunc g args).run Try.prog w = .ok (.enter g args) w) (h : RdT w v t) (hp : AskN w g lb p t) :
    Calls Try.prog 87 #[v, .int .i64 P, .func (.func g) #[] lb] w fun e w' => e = .returned (.int .i64 (fdI (t.findIdx? (fun x => decide (x.2.2.1 = P) && p x)))) ∧ Below w.heap.size w w' := by
  have hmf : ∀ (fn : Fn) (first cap : Array Value) (w : World), (Instr.makeFunc fn first cap).run Try.prog w = .ok (.func fn first cap) w := fun _ _ _ _ => rfl
  have ec : ∀ args w, (callFunc 94 args).run Try.prog w = .ok (.enter 94 args) w := enters_of Try.func94 (by kernel_rfl) rfl
  obtain ⟨F, hF⟩ : ∃ F, 92 = F := ⟨_, rfl⟩
  have b1 := box_below w (.cells #[.int .i64 P] 3)
  have b2 := box_below (w.alloc (.cells #[.int .i64 P] 3)) (.cells #[.func (.func g) #[] lb] F)
  have z1 := ((stands_new w #[.int .i64 P] 3).below b2).cell 0 _ rfl
  have z2 := (stands_new (w.alloc (.cells #[.int .i64 P] 3)) #[.func (.func g) #[] lb] F).cell 0 _ rfl
  rw [size_al] at z2
  have b3 := below_trans b1 b2
  have ha : AskN ((w.alloc (.cells #[.int .i64 P] 3)).alloc (.cells #[.func (.func g) #[] lb] F)) 94 #[.pointer (some ⟨w.heap.size, 0, none⟩), .pointer (some ⟨w.heap.size + 1, 0, none⟩)] (fun x => decide (x.2.2.1 = P) && p x) t := by
    intro W nm vu vp vc x hb hx e0 hu hq hc
    exact w_pchild1 nm vu vp vc x P g lb (p x) _ _ W eg hu hq hc (below_cell hb z1) (below_cell hb z2) (fun W2 g2 => hp W2 nm vu vp vc x (below_trans (below_trans b3 hb) g2) hx e0 (hu.below g2) (hq.below g2 (propR_below g2)) (hc.below g2))
  have hc := w_pindexN v t _ _ _ _ ec (h.below b3) ha
  clear z1 z2 ha hp
  subst hF
  go_enter Try.func87, Try.ntmps87
  go_wp2_with (go_at_call 93; refine hc.mono ?_; rintro e w1 ⟨rfl, d1⟩)
  go_ret
  exact ⟨rfl, below_trans b3 d1⟩

end Go.Proofs.Ytfljcfpcokimcaa
