/-
  Texts of one proof, laid one behind the other: Tf7 Tf8 Rtd Rte Tf9 Rtf Ow3.
-/
import Derived.Test.YtkdaimagdmbnfaaDoorB4
import Derived.Deep.RegionHeld
import Derived.Deep.Cut
import Derived.Deep.CutRange
import Derived.Deep.DeepCutAuto
import Derived.Laws.IdiomCopy
namespace Go.Proofs.YtkdaimagdmbnfaaDoor
open Go.ChangeShapes Go.WideShapes Go.ChangeAt Go.RowKit
set_option linter.unusedVariables false
set_option linter.unusedSimpArgs false

/-
  Package tree's Copy.
-/
theorem gb_refl (w : World) (r : Option Nat) : w.grownBy w r := ⟨rfl, rfl, rfl, Nat.le_refl _, fun _ _ _ => rfl⟩
theorem gb_below {a b c : World} {r : Option Nat} (h : a.grownBy b r) (g : Below b.heap.size b c) : a.grownBy c r :=
  ⟨g.os.trans h.os, g.tape.trans h.tape, g.output.trans h.output, Nat.le_trans h.size g.size, fun k hk hne => (g.block k (Nat.lt_of_lt_of_le hk h.size)).trans (h.block k hk hne)⟩
theorem gb_set {a b : World} {g : Nat} (h : a.grownBy b (some g)) (j : Nat) (u : Value) : a.grownBy (b.setCell ⟨g, j, none⟩ u) (some g) :=
  ⟨h.os, h.tape, h.output, by simpa [World.setCell] using h.size, fun k hk hne => (Below.heap_setCell _ _ _ k (fun e => hne (by rw [e]))).trans (h.block k hk hne)⟩
theorem gb_new {a b : World} {r : Option Nat} {g : Nat} (h : a.grownBy b r) (hg : a.heap.size ≤ g) (j : Nat) (u : Value) : a.grownBy (b.setCell ⟨g, j, none⟩ u) r :=
  ⟨h.os, h.tape, h.output, by simpa [World.setCell] using h.size, fun k hk hne => (Below.heap_setCell _ _ _ k (fun e => by have e2 : k = g := e; omega)).trans (h.block k hk hne)⟩
/-- the row of devices that a copy works on -/
def OwA (base g n cap : Nat) (w : World) (rs : List (List Value)) : Prop := (∀ r ∈ rs, r.length = 5) ∧ rs.length = n ∧ w.ownsRow base 56 5 (.slice (some ⟨g, 0, none⟩) n cap) n rs.flatten
theorem OwA.cell {base g n cap : Nat} {w : World} {rs : List (List Value)} (h : OwA base g n cap w rs) (i j : Nat) (hi : i < n) (hj : j < 5) (u : Value) (hu : (rs.getD i [])[j]? = some u) : w.cell? ⟨g, i * 5 + j, none⟩ = some u :=
  own_cell h.2.2 (i * 5 + j) u (by rw [flat_get rs 5 i j h.1 (by rw [h.2.1]; exact hi) hj]; exact hu)
theorem OwA.free {base g n cap : Nat} {w : World} {rs : List (List Value)} (h : OwA base g n cap w rs) (j : Nat) : w.frozen? ⟨g, j, none⟩ = false := h.2.2.frozenAt j
theorem OwA.kept {base g n cap : Nat} {T : TypeId} {w w' : World} {rs : List (List Value)} (h : OwA base g n cap w rs) (k : Kept T w w') (hne : ¬ 56 = T) : OwA base g n cap w' rs := ⟨h.1, h.2.1, own_kept k hne h.2.2⟩
theorem OwA.below {base g n cap : Nat} {w w' : World} {rs : List (List Value)} (h : OwA base g n cap w rs) (k : Below w.heap.size w w') : OwA base g n cap w' rs := h.kept (T := 5) (Kept.below k) (by decide)
theorem set_getD {α : Type} (rs : List (List α)) (i : Nat) (r : List α) (h : i < rs.length) : (rs.set i r).getD i [] = r := by
  rw [List.getD_eq_getElem?_getD, List.getElem?_set_self h]
  rfl
theorem OwA.set {base g n cap : Nat} {w : World} {rs : List (List Value)} {i : Nat} {r : List Value} (h : OwA base g n cap w (rs.set i r)) (hi : i < n) (j : Nat) (hj : j < 5) (u : Value) : OwA base g n cap (w.setCell ⟨g, i * 5 + j, none⟩ u) (rs.set i (r.set j u)) ∧ Kept 56 w (w.setCell ⟨g, i * 5 + j, none⟩ u) := by
  obtain ⟨h1, h2, h3⟩ := h
  have hl : i < (rs.set i r).length := by rw [h2]; exact hi
  have hl2 : i < rs.length := by simpa using hl
  obtain ⟨s1, s2⟩ := h3.stored (i * 5 + j) u
  rw [flat_set (rs.set i r) 5 i j u h1 hl hj, set_getD rs i r hl2, List.set_set] at s1
  refine ⟨⟨fun q hq => ?_, by simpa using h2, s1⟩, Kept.own (v := .slice (some ⟨g, 0, none⟩) n cap) h3 s2⟩
  obtain ⟨m, hm, rfl⟩ := List.getElem_of_mem hq
  rw [List.getElem_set]
  split
  · rw [List.length_set]
    exact h1 r (List.mem_iff_getElem.2 ⟨i, hl, by simp⟩)
  · rename_i e
    have e2 : (rs.set i r)[m]'(by simpa using hm) = rs[m]'(by simpa using hm) := by rw [List.getElem_set, if_neg e]
    rw [← e2]
    exact h1 _ (List.getElem_mem _)
/-- the row of properties that a copy works on: those ahead of k are the call's own, the others as they were -/
def PrI (base gb : Nat) (wo : World) (vP : Value) (Ps : List Pp) (prow : List (List Value)) (k : Nat) (w : World) : Prop :=
  ∃ prs : List (List Value), prs.length = Ps.length ∧ (∀ r ∈ prs, r.length = 2) ∧ w.ownsRow gb 65 2 vP Ps.length prs.flatten ∧ (∀ j (h : j < Ps.length), j < k → propO gb w (prs.getD j []) Ps[j]) ∧ (∀ j, k ≤ j → prs.getD j [] = prow.getD j [])
/-- the devices that a copy works on: those ahead of i are the call's own, the others as they were -/
def NdI (base g cap : Nat) (t : List Nd) (rows : List (List Value)) (i : Nat) (w : World) : Prop :=
  ∃ rs : List (List Value), OwA base g t.length cap w rs ∧ (∀ j (h : j < t.length), j < i → nodO base w (rs.getD j []) t[j]) ∧ SepR (rs.take i) ∧ (∀ j, i ≤ j → rs.getD j [] = rows.getD j [])

set_option maxHeartbeats 4000000 in
set_option maxRecDepth 100000 in
theorem w_p8copyS (v : Value) (t : List Nd) (w : World) (h : RdT w v t) (hz : t.length * 96 ≤ 140737488355328) (hs : ∀ x ∈ t, sizN x) :
    Calls Tryd.prog 13 #[v] w fun e w' => ∃ v1, e = .returned v1 ∧ OwnTS w.heap.size w' v1 t ∧ Below w.heap.size w w' := by
  obtain ⟨rows, hr1, hr2, hr3⟩ := h
  have hone : ∀ r ∈ rows, ∀ u ∈ r, u.oneCell' = true := by
    intro r hr u hu
    obtain ⟨i, hi, rfl⟩ := List.getElem_of_mem hr
    obtain ⟨vu, vp, vc, e, g1, g2, g3⟩ := hr3 i (by omega)
    rw [List.getD_eq_getElem?_getD, List.getElem?_eq_getElem hi] at e
    simp only [Option.getD_some] at e
    rw [e] at hu
    obtain ⟨a1, c1, rfl⟩ := rd_slice g1
    obtain ⟨a2, c2, rfl⟩ := slr_slice g2
    obtain ⟨a3, c3, rfl⟩ := rd_slice g3
    simp at hu
    rcases hu with rfl | rfl | rfl | rfl | rfl <;> rfl
  have cN := w_pcloneN v rows w hr1 hone (by rw [hr2]; exact hz)
  rw [hr2] at cN
  by_cases h0 : t.length = 0
  · have ht : t = [] := List.eq_nil_of_length_eq_zero h0
    subst ht
    have hn : rows = [] := List.eq_nil_of_length_eq_zero (by simpa using hr2)
    subst hn
    go_enter Tryd.func13, Tryd.ntmps13
    go_wp2_with (go_at_call 42; refine cN.mono ?_; rintro e w1 ⟨v1, rfl, o1, b1⟩; obtain ⟨ao, ac, rfl⟩ := own_form o1)
    go_rounds 1
    go_ret
    exact ⟨_, rfl, ⟨[], rfl, by simp, o1, fun i hi => by simp at hi, fun i j g h1 h2 => by simp at h2⟩, b1⟩
  · have hrl : ∀ r ∈ rows, r.length = 5 := by
      intro r hr
      obtain ⟨i, hi, rfl⟩ := List.getElem_of_mem hr
      obtain ⟨vu, vp, vc, e, g1, g2, g3⟩ := hr3 i (by omega)
      rw [List.getD_eq_getElem?_getD, List.getElem?_eq_getElem hi] at e
      simp only [Option.getD_some] at e
      rw [e]
      rfl
    have ht0 : 0 < t.length := by omega
    have hzI : (t.length : Int) * 96 ≤ 140737488355328 := by omega
    clear h0 hr1 hone
    go_enter Tryd.func13, Tryd.ntmps13
    go_wp2_with (go_at_call 42; refine cN.mono ?_; rintro e w1 ⟨v1, rfl, o1, b1⟩; obtain ⟨g, cap, rfl⟩ := own_some o1 ht0)
    have hgb := (o1.lt g rfl).1
    have N0 : NdI w.heap.size g cap t rows 0 w1 := ⟨rows, ⟨hrl, hr2, o1⟩, fun j h hj => by omega, fun i j g h1 h2 => by simp at h2, fun j hj => rfl⟩
    clear cN o1 hrl hr2
    go_loopw [11] (fun I wx => ∃ (i : Nat), (i : Int) ≤ t.length ∧ I = .int .i64 i ∧ NdI w.heap.size g cap t rows i wx ∧ Below w.heap.size w wx) (fun I _ => (t.length - intOf I).toNat)
    case atStart => exact ⟨0, by omega, rfl, N0, b1⟩
    case round =>
      clear N0 b1
      obtain ⟨i, hi, rfl, hN, hb⟩ := hrel
      by_cases hlt : (i : Int) < t.length
      · have hil : i < t.length := by omega
        obtain ⟨rs, hA, hno, hsep, hrest⟩ := hN
        obtain ⟨W0, rfl⟩ : ∃ W0, W0 = wr := ⟨_, rfl⟩
        obtain ⟨vu, vp, vc, hrow, ru, rp, rc⟩ := hr3 i hil
        have hri := hrest i (Nat.le_refl _)
        rw [hrow] at hri
        obtain ⟨s1, s2, s3, s4⟩ := hs _ (List.getElem_mem hil)
        have rpR := rp
        obtain ⟨prow, hp1, hp2, hp3⟩ := rp
        have hpo : ∀ r ∈ prow, ∀ u ∈ r, u.oneCell' = true := by
          intro r hr u hu
          obtain ⟨m, hm, rfl⟩ := List.getElem_of_mem hr
          obtain ⟨vd, e, g1⟩ := hp3 m (by omega)
          rw [List.getD_eq_getElem?_getD, List.getElem?_eq_getElem hm] at e
          simp only [Option.getD_some] at e
          rw [e] at hu
          obtain ⟨a1, c1, rfl⟩ := rd_slice g1
          simp at hu
          rcases hu with rfl | rfl <;> rfl
        have hpl : ∀ r ∈ prow, r.length = 2 := by
          intro r hr
          obtain ⟨m, hm, rfl⟩ := List.getElem_of_mem hr
          obtain ⟨vd, e, g1⟩ := hp3 m (by omega)
          rw [List.getD_eq_getElem?_getD, List.getElem?_eq_getElem hm] at e
          simp only [Option.getD_some] at e
          rw [e]
          rfl
        obtain ⟨ua, uq, rfl⟩ := rd_slice ru
        obtain ⟨pa, pq, rfl⟩ := slr_slice rpR
        obtain ⟨ca, cq, rfl⟩ := rd_slice rc
        obtain ⟨P, hP⟩ : ∃ P, t[i].2.2.1 = P := ⟨_, rfl⟩
        obtain ⟨nm, hnm⟩ : ∃ nm, strOfNums t[i].1 = nm := ⟨_, rfl⟩
        obtain ⟨Ps, hPs⟩ : ∃ Ps, t[i].2.2.2.1 = Ps := ⟨_, rfl⟩
        rw [hP, hnm] at hri
        rw [hPs] at hri hp2 s3 s4 hp1
        simp only [hPs] at hp3
        have hrsl : i < rs.length := by rw [hA.2.1]; exact hil
        have hset : rs.set i [.string nm, .slice ua t[i].2.1.length uq, .int .i64 P, .slice pa Ps.length pq, .slice ca t[i].2.2.2.2.length cq] = rs := by
          rw [← hri, List.getD_eq_getElem?_getD, List.getElem?_eq_getElem hrsl]
          simp
        have hA0 : OwA w.heap.size g t.length cap W0 (rs.set i [.string nm, .slice ua t[i].2.1.length uq, .int .i64 P, .slice pa Ps.length pq, .slice ca t[i].2.2.2.2.length cq]) := by rw [hset]; exact hA
        have HA := hid hA
        have cu := fun W (g : Below w.heap.size w W) => w_pclone32 _ _ W (ru.below g) s1
        have cc := fun W (g : Below w.heap.size w W) => w_pclone32 _ _ W (rc.below g) s2
        have cp := fun W (g : Below w.heap.size w W) => w_pcloneP _ prow W (hp1.below g) hpo (by rw [hp2]; exact s3)
        simp only [hp2] at cp
        have hix := idx_node g t.length cap i hil
        have c1 := hA0.cell i 1 hil (by decide) _ (by rw [set_getD rs i _ hrsl]; rfl)
        have hPm : (Ps.length : Int) * 40 ≤ 140737488355328 := by omega
        clear hset hri hA hrow s1 s2 s3
        go_upto_region 7 with (go_at_call 43; refine (cu _ hb).mono ?_; rintro e w2 ⟨vU, rfl, oU, bU⟩; obtain ⟨uo, uc, rfl⟩ := own_form oU; have y1 := below_cell bU c1; have y2 := (hA0.below bU).free (i * 5 + 1))
        obtain ⟨hA3, k3⟩ := (hA0.below bU).set hil 1 (by decide) (.slice uo t[i].2.1.length uc)
        have hA3 : OwA w.heap.size g t.length cap _ (rs.set i [.string nm, .slice uo t[i].2.1.length uc, .int .i64 P, .slice pa Ps.length pq, .slice ca t[i].2.2.2.2.length cq]) := hA3
        have oU3 := own_kept k3 (by decide) oU
        have B3 := below_set (below_trans hb bU) g (i * 5 + 1) (.slice uo t[i].2.1.length uc) hgb
        have G3 := gb_set (gb_below (gb_refl W0 (some g)) bU) (i * 5 + 1) (.slice uo t[i].2.1.length uc)
        generalize w2.setCell ⟨g, i * 5 + 1, none⟩ (.slice uo t[i].2.1.length uc) = w3 at hA3 oU3 B3 G3 k3 ⊢
        have c4 := hA3.cell i 4 hil (by decide) _ (by rw [set_getD rs i _ hrsl]; rfl)
        clear y1 y2 c1 hA0 oU bU k3 cu
        go_upto_region 8 with (go_at_call 43; refine (cc _ B3).mono ?_; rintro e w4 ⟨vC, rfl, oC, bC⟩; obtain ⟨co, ccap, rfl⟩ := own_form oC; have y1 := below_cell bC c4; have y2 := (hA3.below bC).free (i * 5 + 4))
        obtain ⟨hA5, k5⟩ := (hA3.below bC).set hil 4 (by decide) (.slice co t[i].2.2.2.2.length ccap)
        have hA5 : OwA w.heap.size g t.length cap _ (rs.set i [.string nm, .slice uo t[i].2.1.length uc, .int .i64 P, .slice pa Ps.length pq, .slice co t[i].2.2.2.2.length ccap]) := hA5
        have oC5 := own_le G3.size (own_kept k5 (by decide) oC)
        have oU5 := own_kept k5 (by decide) (own_below oU3 bC)
        have B5 := below_set (below_trans B3 bC) g (i * 5 + 4) (.slice co t[i].2.2.2.2.length ccap) hgb
        have G5 := gb_set (gb_below G3 bC) (i * 5 + 4) (.slice co t[i].2.2.2.2.length ccap)
        generalize w4.setCell ⟨g, i * 5 + 4, none⟩ (.slice co t[i].2.2.2.2.length ccap) = w5 at hA5 oC5 oU5 B5 G5 k5 ⊢
        have c3 := hA5.cell i 3 hil (by decide) _ (by rw [set_getD rs i _ hrsl]; rfl)
        clear y1 y2 c4 hA3 oC oU3 bC k5 cc B3 G3
        go_upto_region 9 with (go_at_call 44; refine (cp _ B5).mono ?_; rintro e w6 ⟨vP, rfl, oP, bP⟩; obtain ⟨po, pcap, rfl⟩ := own_form oP; have y1 := below_cell bP c3; have y2 := (hA5.below bP).free (i * 5 + 3))
        obtain ⟨hA7, k7⟩ := (hA5.below bP).set hil 3 (by decide) (.slice po Ps.length pcap)
        have hA7 : OwA w.heap.size g t.length cap _ (rs.set i [.string nm, .slice uo t[i].2.1.length uc, .int .i64 P, .slice po Ps.length pcap, .slice co t[i].2.2.2.2.length ccap]) := hA7
        have oP7 := own_le G5.size (own_kept k7 (by decide) oP)
        have oC7 := own_kept k7 (by decide) (own_below oC5 bP)
        have oU7 := own_kept k7 (by decide) (own_below oU5 bP)
        have B7 := below_set (below_trans B5 bP) g (i * 5 + 3) (.slice po Ps.length pcap) hgb
        have G7 := gb_set (gb_below G5 bP) (i * 5 + 3) (.slice po Ps.length pcap)
        generalize w6.setCell ⟨g, i * 5 + 3, none⟩ (.slice po Ps.length pcap) = w7 at hA7 oP7 oC7 oU7 B7 G7 k7 ⊢
        have c3 := hA7.cell i 3 hil (by decide) _ (by rw [set_getD rs i _ hrsl]; rfl)
        have PI0 : PrI w.heap.size W0.heap.size w (.slice po Ps.length pcap) Ps prow 0 w7 := ⟨prow, hp2, hpl, oP7, fun j h hj => by omega, fun j hj => rfl⟩
        clear y1 y2 hA5 oP oC5 oU5 bP k7 cp B5 G5 oP7
        have hsR := hid hsep
        have hnoR := hid hno
        have hrestR := hid hrest
        have hgW : w.heap.size ≤ W0.heap.size := hb.size
        clear hsep hno hrest
        go_wp2_with fail
        go_loopw [46] (fun K wx => ∃ (k : Nat), (k : Int) ≤ Ps.length ∧ K = .int .i64 k ∧ PrI w.heap.size W0.heap.size w (.slice po Ps.length pcap) Ps prow k wx ∧ OwA w.heap.size g t.length cap wx (rs.set i [.string nm, .slice uo t[i].2.1.length uc, .int .i64 P, .slice po Ps.length pcap, .slice co t[i].2.2.2.2.length ccap]) ∧ wx.ownsRow W0.heap.size 58 1 (.slice uo t[i].2.1.length uc) t[i].2.1.length (t[i].2.1.map (Value.int .u32)) ∧ wx.ownsRow W0.heap.size 58 1 (.slice co t[i].2.2.2.2.length ccap) t[i].2.2.2.2.length (t[i].2.2.2.2.map (Value.int .u32)) ∧ W0.grownBy wx (some g) ∧ Below w.heap.size w wx) (fun K _ => (Ps.length - intOf K).toNat)
        case atStart => exact ⟨0, by omega, rfl, PI0, hA7, oU7, oC7, G7, B7⟩
        case round =>
          clear PI0 hA7 oU7 oC7 G7 B7 c3
          obtain ⟨k, hk, rfl, hPI, hA8, oU8, oC8, G8, B8⟩ := hrel
          by_cases hlk : (k : Int) < Ps.length
          · have hkl : k < Ps.length := by omega
            obtain ⟨prs, z1, z2, z3, z4, z5⟩ := hPI
            obtain ⟨gP, cP, hgP⟩ := own_some z3 (by omega)
            simp only [Value.slice.injEq] at hgP
            obtain ⟨rfl, -, rfl⟩ := hgP
            obtain ⟨vd, hpr, rd⟩ := hp3 k hkl
            have hpk := z5 k (Nat.le_refl _)
            rw [hpr] at hpk
            obtain ⟨da, dq, rfl⟩ := rd_slice rd
            have cd := fun W (g : Below w.heap.size w W) => w_pclone8 _ _ W (rd.below g) (s4 _ (List.getElem_mem hkl))
            have c3 := hA8.cell i 3 hil (by decide) _ (by rw [set_getD rs i _ hrsl]; rfl)
            have hip := idx_prop gP Ps.length pcap k hkl
            have hold : prs.flatten[k * 2 + 1]? = some (.slice da Ps[k].2.length dq) := by rw [flat_get prs 2 k 1 z2 (by omega) (by decide), hpk]; rfl
            have cD := own_cell z3 (k * 2 + 1) _ hold
            have hne : gP ≠ g := by
              intro e
              subst e
              rcases hA8.2.2.2 with ⟨hh, _⟩ | ⟨g', c', cur, hh, _, x1, _⟩
              · simp at hh
              · rcases z3.2 with ⟨hh2, _⟩ | ⟨g2', c2', cur2, hh2, _, x2, _⟩
                · simp at hh2
                · simp at hh hh2
                  obtain ⟨rfl, -⟩ := hh
                  obtain ⟨rfl, -⟩ := hh2
                  rw [x1] at x2
                  simp at x2
            have HS : Hid (∀ W, Below wr.heap.size wr W → W.cell? ⟨g, i * 5 + 3, none⟩ = some (.slice (some ⟨gP, 0, none⟩) Ps.length pcap)) := fun W q => below_cell q c3
            have hrd : Hid (Below wr.heap.size wr wr.drew) := below_drewN (Below.refl _ _) 1
            have hbd : Hid (Below w.heap.size w wr.drew) := below_drewN B8 1
            have CD := hid cd
            have T1 : Hid (∀ qD, Below wr.heap.size wr qD → qD.ownsRow W0.heap.size 65 2 (.slice (some ⟨gP, 0, none⟩) Ps.length pcap) Ps.length prs.flatten) := fun qD q => own_kept (T := 5) (Kept.below q) (by decide) z3
            have T2 : Hid (∀ qD, Below wr.heap.size wr qD → qD.cell? ⟨gP, k * 2 + 1, none⟩ = some (.slice da Ps[k].2.length dq)) := fun qD q => below_cell q cD
            have T3 : Hid (∀ qD, Below wr.heap.size wr qD → qD.frozen? ⟨gP, k * 2 + 1, none⟩ = false) := fun qD q => (T1.out qD q).frozenAt (k * 2 + 1)
            have T4 : Hid (∀ qD, Below wr.heap.size wr qD → ∀ u, (qD.setCell ⟨gP, k * 2 + 1, none⟩ u).cell? ⟨g, i * 5 + 3, none⟩ = some (.slice (some ⟨gP, 0, none⟩) Ps.length pcap)) := fun qD q u => by
              rw [World.cell?_setCell_far _ _ _ _ (by exact hne)]
              exact HS.out _ q
            have Z3 := hid z3
            clear cd z3 hold
            go_wp2_with fail
            go_region_with (go_at_call 45; refine (CD.out _ (by with_reducible exact hbd.out)).mono ?_; rintro e qD ⟨vD, rfl, oD, bD'⟩; obtain ⟨dd, dcap, rfl⟩ := own_form oD; have RD : Hid (Below wr.heap.size wr qD) := below_trans hrd.out bD'; have y0 := HS.out qD RD.out; have y1 := T2.out qD RD.out; have y2 := T3.out qD RD.out; have OD := hid oD; clear oD bD')
            all_goals (
              go_wp2_with fail
              have bD := RD.out
              have z3' := T1.out qD bD
              obtain ⟨w8, hw8⟩ : ∃ w8, qD.setCell ⟨gP, k * 2 + 1, none⟩ (.slice dd Ps[k].2.length dcap) = w8 := ⟨_, rfl⟩
              have gr : qD.grownBy w8 (some gP) := by rw [← hw8]; exact (z3'.stored (k * 2 + 1) _).2
              have kp : Kept 65 qD w8 := Kept.own z3' gr
              have hgP8 : W0.heap.size ≤ gP := (z3'.lt gP rfl).1
              have hset := z3'.stored (k * 2 + 1) (.slice dd Ps[k].2.length dcap)
              rw [flat_set prs 2 k 1 _ z2 (by omega) (by decide), hpk, hw8] at hset
              have PI9 : PrI w.heap.size W0.heap.size w (.slice (some ⟨gP, 0, none⟩) Ps.length pcap) Ps prow (k + 1) w8 := by
                refine ⟨prs.set k [.string (strOfNums Ps[k].1), .slice dd Ps[k].2.length dcap], by simpa using z1, fun r hr => ?_, hset.1, fun j hj hjk => ?_, fun j hj => ?_⟩
                · rcases List.mem_or_eq_of_mem_set hr with hr | rfl
                  · exact z2 r hr
                  · rfl
                · by_cases e : j = k
                  · subst e
                    rw [set_getD prs j _ (by omega)]
                    exact ⟨_, rfl, own_kept kp (by decide) (own_le (Nat.le_trans G8.size hrd.out.size) OD.out)⟩
                  · rw [List.getD_eq_getElem?_getD, List.getElem?_set_ne (fun e2 => e e2.symm), ← List.getD_eq_getElem?_getD]
                    exact propO_apt (by decide) _ _ _ _ kp (propO_below bD _ _ (z4 j hj (by omega)))
                · rw [List.getD_eq_getElem?_getD, List.getElem?_set_ne (by omega), ← List.getD_eq_getElem?_getD]
                  exact z5 j (by omega)
              have hA9 := (hA8.below bD).kept kp (by decide)
              have oU9 := own_kept kp (by decide) (own_below oU8 bD)
              have oC9 := own_kept kp (by decide) (own_below oC8 bD)
              have G9 : W0.grownBy w8 (some g) := by rw [← hw8]; exact gb_new (gb_below G8 bD) hgP8 _ _
              have B9 : Below w.heap.size w w8 := by rw [← hw8]; exact below_set (below_trans B8 bD) gP _ _ (by omega)
              rw [hw8]
              go_roundw
              case rel => exact ⟨k + 1, by omega, by go_num, PI9, hA9, oU9, oC9, G9, B9⟩
              case measure => simp [intOf]; omega)
          · have hkp : k = Ps.length := by omega
            subst hkp
            obtain ⟨prs, z1, z2, z3, z4, z5⟩ := hPI
            have kN : Kept 56 W0 wr := ⟨some g, G8, fun q hq => by
              cases hq
              obtain ⟨_, _, o⟩ := HA.out
              rcases o.2 with ⟨hh, _⟩ | ⟨g', c', cur, hh, _, x1, _⟩
              · simp at hh
              · simp at hh
                obtain ⟨rfl, -⟩ := hh
                exact ⟨cur, _, x1⟩⟩
            have hN9 : NdI w.heap.size g cap t rows (i + 1) wr := by
              refine ⟨_, hA8, fun j hj hji => ?_, ?_, fun j hj => ?_⟩
              · by_cases e : j = i
                · subst e
                  rw [set_getD rs j _ hrsl]
                  exact ⟨_, _, _, by rw [hnm, hP], own_le hgW oU8, by rw [hPs]; exact ⟨prs, z1, z2, own_le hgW z3, fun m hm => propO_le hgW _ _ (z4 m hm hm)⟩, own_le hgW oC8⟩
                · rw [List.getD_eq_getElem?_getD, List.getElem?_set_ne (fun e2 => e e2.symm), ← List.getD_eq_getElem?_getD]
                  exact nodO_apt (by decide) (by decide) (by decide) _ _ _ _ kN (hnoR.out j hj (by omega))
              · have hl1 : ∀ q, q < rs.length → ((rs.set i [Value.string nm, .slice uo t[i].2.1.length uc, .int .i64 P, .slice po Ps.length pcap, .slice co t[i].2.2.2.2.length ccap]).take (i + 1)) = rs.take i ++ [[Value.string nm, .slice uo t[i].2.1.length uc, .int .i64 P, .slice po Ps.length pcap, .slice co t[i].2.2.2.2.length ccap]] := by
                  intro q hq
                  rw [List.take_succ_eq_append_getElem (by simpa using hrsl), List.take_set_of_le (Nat.le_refl _)]
                  simp
                rw [hl1 i hrsl]
                refine sep_snoc hsR.out fun j q hj hq hq2 => ?_
                have hji : j < i := by simp at hj; omega
                have e1 : (rs.take i).getD j [] = rs.getD j [] := by rw [List.getD_eq_getElem?_getD, List.getElem?_take, if_pos hji, ← List.getD_eq_getElem?_getD]
                rw [e1] at hq
                obtain ⟨vu9, vp9, vc9, hv9, -, op9, -⟩ := hnoR.out j (by omega) hji
                obtain ⟨cs9, o9⟩ := op9.row
                rw [hv9] at hq
                have a1 := (o9.lt q (by simpa using hq)).2
                have a2 := (z3.lt q (by simpa using hq2)).1
                omega
              · rw [List.getD_eq_getElem?_getD, List.getElem?_set_ne (by omega), ← List.getD_eq_getElem?_getD]
                exact hrestR.out j (by omega)
            go_wp2_with fail
            go_roundw
            case rel => exact ⟨i + 1, by omega, by go_num, hN9, B8⟩
            case measure => simp [intOf]; omega
      · go_wp2_with fail
        go_ret
        have hit : i = t.length := by omega
        subst hit
        obtain ⟨rs, ⟨a1, a2, a3⟩, hno, hsep, hrest⟩ := hN
        rw [List.take_of_length_le (by omega)] at hsep
        exact ⟨_, rfl, ⟨rs, a2, a1, a3, fun j hj => hno j hj hj, hsep⟩, hb⟩

/-
  Package tree's Add.
-/
set_option maxHeartbeats 4000000 in
set_option maxRecDepth 100000 in
theorem w_p8add' (v : Value) (t : List Nd) (p : Int) (s : ByteArray) (vu : Value) (un : List Int) (w : World) (h : RdT w v t) (hu : Rd .u32 w vu un) (bt : ∀ x ∈ t, bytN x) (ls : ∀ x ∈ t, lenN x) (hs : s.size ≤ maxLen) :
    Calls Tryd.prog 17 #[v, .int .i64 p, .string s, vu] w fun e w' => ∃ v1, e = .returned (.tuple #[v1, .int .i64 (addF t p (L s) un).2.1, .int .i64 (addF t p (L s) un).2.2]) ∧ RdT w' v1 (addF t p (L s) un).1 ∧ Below w.heap.size w w' := by
  have hla := slr_len h uN (P := Tryd.prog)
  have hm := slr_max h
  unfold maxLen at hm
  obtain ⟨i0, hi0, hz0, hz1, hz2⟩ := info_parts infoNode
  obtain ⟨A, M, E, hA⟩ : ∃ A M E, addF t p (L s) un = (A, M, E) := ⟨_, _, _, rfl⟩
  rw [hA]
  show Calls _ _ _ _ fun e w' => ∃ v1, e = .returned (.tuple #[v1, .int .i64 M, .int .i64 E]) ∧ RdT w' v1 A ∧ _
  have HA := hid hA
  clear hA
  have cw := w_pdevice v t p w h bt ls
  by_cases hw : wrgF t p = 0
  · rw [hw] at cw
    obtain ⟨hf, hp0, hp1⟩ := wrg_ok hw
    obtain ⟨hl32, hsz⟩ := frm_siz hf
    have hadd : addF t p (L s) un = if nmF (L s) = false ∨ 4 < un.length then (([] : List Nd), (0 : Int), (1 : Int)) else if twF t p (L s) un = true then ([], 0, 20) else if 32 ≤ t.length then ([], 0, 22) else (t ++ [(L s, un, p, [], [])], t.length, 0) := by
      unfold addF
      rw [if_neg (by simp [hf]), if_neg (by omega)]
    have HD := hid hadd
    have ca := fun W (g : Below w.heap.size w W) => w_paddressed s vu un W hs (hu.below g)
    have cl := fun W (g : Below w.heap.size w W) => w_pcalled s vu un t W (hu.below g) bt
    have ck := fun W lb (g : Below w.heap.size w W) ha => w_pchild v t p _ lb (fun y : Nd => decide (y.1 = L s) && decide (y.2.1 = un)) W eg_called (h.below g) ha
    obtain ⟨F, hF⟩ : ∃ F, fdI (t.findIdx? (fun x => decide (x.2.2.1 = p) && (fun y : Nd => decide (y.1 = L s) && decide (y.2.1 = un)) x)) = F := ⟨_, rfl⟩
    have hF2 : (F != -1) = twF t p (L s) un := by rw [← hF, tw_idx]; exact fdI_some _
    simp only [hF] at ck
    clear hadd hw hF
    cases hnm : (nmF (L s) && decide (un.length ≤ 4))
    · simp only [hnm] at ca
      have e : Hid (addF t p (L s) un = ([], 0, 1)) := by
        show _ = _
        rw [HD.out, if_pos]
        rw [Bool.and_eq_false_iff, decide_eq_false_iff_not] at hnm
        rcases hnm with g | g
        · exact Or.inl g
        · exact Or.inr (by omega)
      clear HD hnm cl ck hF2
      go_enter Tryd.func17, Tryd.ntmps17
      go_wp2_with (first
        | (go_at_call 48; refine cw.mono ?_; rintro e w1 ⟨rfl, b1⟩)
        | (go_at_call 49; refine (ca _ b1).mono ?_; rintro e w2 ⟨rfl, b2⟩; have g2 := below_trans b1 b2))
      go_ret3
      obtain ⟨rfl, h2⟩ := Prod.mk.inj (HA.out.symm.trans e.out)
      obtain ⟨rfl, rfl⟩ := Prod.mk.inj h2
      exact ⟨_, rfl, SlR.nil, below_trans b1 b2⟩
    · simp only [hnm] at ca
      have HD2 : Hid (addF t p (L s) un = if twF t p (L s) un = true then (([] : List Nd), (0 : Int), (20 : Int)) else if 32 ≤ t.length then ([], 0, 22) else (t ++ [(L s, un, p, [], [])], t.length, 0)) := by
        show _ = _
        have hq := Bool.and_eq_true_iff.1 hnm
        have hq2 := of_decide_eq_true hq.2
        rw [HD.out, if_neg (by rw [hq.1]; simp; omega)]
      have HU4 : Hid (un.length ≤ 4) := hid (of_decide_eq_true ((Bool.and_eq_true_iff.1 hnm).2))
      clear HD hnm
      cases htw : twF t p (L s) un
      · rw [htw] at hF2
        by_cases h32 : t.length = 32
        · have hb32 : ((t.length : Int) == 32) = true := by rw [h32]; rfl
          have e : Hid (addF t p (L s) un = ([], 0, 22)) := by show _ = _; rw [HD2.out, htw, if_neg (by simp), if_pos (by omega)]
          clear HD2 htw h32
          go_enter Tryd.func17, Tryd.ntmps17
          go_wp2_with (first
            | (go_at_call 48; refine cw.mono ?_; rintro e w1 ⟨rfl, b1⟩)
            | (go_at_call 49; refine (ca _ b1).mono ?_; rintro e w2 ⟨rfl, b2⟩; have g2 := below_trans b1 b2)
            | (go_at_call 51; refine (cl _ g2).mono ?_; rintro e w3 ⟨lb, rfl, ha3, b3⟩; have g3 := below_trans g2 b3)
            | (go_at_call 50; refine (ck _ lb g3 ha3).mono ?_; rintro e w4 ⟨rfl, b4⟩; have g4 := below_trans g3 b4))
          go_ret3
          obtain ⟨rfl, h2⟩ := Prod.mk.inj (HA.out.symm.trans e.out)
          obtain ⟨rfl, rfl⟩ := Prod.mk.inj h2
          exact ⟨_, rfl, SlR.nil, g4⟩
        · have hb32 : ((t.length : Int) == 32) = false := by rw [beq_eq_false_iff_ne]; omega
          have e : Hid (addF t p (L s) un = (t ++ [(L s, un, p, [], [])], (t.length : Int), (0 : Int))) := by show _ = _; rw [HD2.out, htw, if_neg (by simp), if_neg (by omega)]
          have cc := fun w' (g : Below w.heap.size w w') => w_p8copyS v t w' (h.below g) (by omega) hsz
          have hu4 : un.length * 4 ≤ 140737488355328 := by
            have h1 := HU4.out
            omega
          have cu := fun w' (g : Below w.heap.size w w') => w_pclone32 vu un w' (hu.below g) hu4
          clear HD2 htw h32
          go_enter Tryd.func17, Tryd.ntmps17
          go_wp2_with (first
            | (go_at_call 48; refine cw.mono ?_; rintro e w1 ⟨rfl, b1⟩)
            | (go_at_call 49; refine (ca _ b1).mono ?_; rintro e w2 ⟨rfl, b2⟩; have g2 := below_trans b1 b2)
            | (go_at_call 51; refine (cl _ g2).mono ?_; rintro e w3 ⟨lb, rfl, ha3, b3⟩; have g3 := below_trans g2 b3)
            | (go_at_call 50; refine (ck _ lb g3 ha3).mono ?_; rintro e w4 ⟨rfl, b4⟩; have g4 := below_trans g3 b4)
            | (go_at_call 43; refine (cu _ g4).mono ?_; rintro e w5 ⟨vU, rfl, oU, b5⟩; obtain ⟨ua, uc, rfl⟩ := own_form oU))
          have g5 := below_trans g4 b5
          have st := stands_new w5 #[.string s, .slice ua un.length uc, .int .i64 p, .slice none 0 0, .slice none 0 0] 56
          have bX := box_below w5 (.cells #[.string s, .slice ua un.length uc, .int .i64 p, .slice none 0 0, .slice none 0 0] 56)
          have oU6 := World.ownsRow.alloc (own_le g4.size oU) (.cells #[.string s, .slice ua un.length uc, .int .i64 p, .slice none 0 0, .slice none 0 0] 56)
          obtain ⟨B, hB⟩ : ∃ B, w5.heap.size = B := ⟨_, rfl⟩
          rw [hB] at st
          have g6 := below_trans g5 bX
          simp only [hB]
          generalize w5.alloc (.cells #[.string s, .slice ua un.length uc, .int .i64 p, .slice none 0 0, .slice none 0 0] 56) = wb at st bX oU6 g6 ⊢
          have Z : Hid (∀ W, Below wb.heap.size wb W → W.cell? ⟨B, 0, none⟩ = some (.string s) ∧ W.cell? ⟨B, 1, none⟩ = some (.slice ua un.length uc) ∧ W.cell? ⟨B, 2, none⟩ = some (.int .i64 p) ∧ W.cell? ⟨B, 3, none⟩ = some (.slice none 0 0) ∧ W.cell? ⟨B, 4, none⟩ = some (.slice none 0 0)) := fun W q => ⟨(st.below q).cell 0 _ rfl, (st.below q).cell 1 _ rfl, (st.below q).cell 2 _ rfl, (st.below q).cell 3 _ rfl, (st.below q).cell 4 _ rfl⟩
          have hrd : Hid (Below wb.heap.size wb wb.drew) := below_drewN (Below.refl _ _) 1
          have hbd : Hid (Below w.heap.size w wb.drew) := below_drewN g6 1
          have CC := hid cc
          have OU := hid oU6
          clear cc cw ca cl ck cu oU6 st bX oU
          refine wp_region_held_drew (S := fun W => W.cell? ⟨B, 0, none⟩ = some (.string s) ∧ W.cell? ⟨B, 1, none⟩ = some (.slice ua un.length uc) ∧ W.cell? ⟨B, 2, none⟩ = some (.int .i64 p) ∧ W.cell? ⟨B, 3, none⟩ = some (.slice none 0 0) ∧ W.cell? ⟨B, 4, none⟩ = some (.slice none 0 0)) (by kernel_rfl) (Z.out _ hrd.out) (fun hHeld => ?_)
          refine wpAnyH_take (i := 0) (v := ?v1) rfl (by kernel_rfl) (by kernel_rfl) (by kernel_rfl) (fun _ _ _ h => h) (Or.inl ⟨by rfl, ?h1⟩) (by assumption) ?r1
          case h1 => intro W hSw; (try dsimp only at hSw); obtain ⟨s0, s1, s2, s3, s4⟩ := hSw; go_simp; try with_reducible rfl
          simp only [Act.put, List.setIfInBounds_toArray, List.set_cons_zero, List.set_cons_succ]
          refine wpAnyH_take (i := 2) (v := ?v2) rfl (by kernel_rfl) (by kernel_rfl) (by kernel_rfl) (fun _ _ _ h => h) (Or.inl ⟨by rfl, ?h2⟩) (by assumption) ?r2
          case h2 => intro W hSw; (try dsimp only at hSw); obtain ⟨s0, s1, s2, s3, s4⟩ := hSw; go_simp; try with_reducible rfl
          simp only [Act.put, List.setIfInBounds_toArray, List.set_cons_zero, List.set_cons_succ]
          refine wpAnyH_take (i := 5) (v := ?v3) rfl (by kernel_rfl) (by kernel_rfl) (by kernel_rfl) (fun _ _ _ h => h) (Or.inl ⟨by rfl, ?h3⟩) (by assumption) ?r3
          case h3 => intro W hSw; (try dsimp only at hSw); obtain ⟨s0, s1, s2, s3, s4⟩ := hSw; go_simp; try with_reducible rfl
          simp only [Act.put, List.setIfInBounds_toArray, List.set_cons_zero, List.set_cons_succ]
          refine wpAnyH_take (i := 6) (v := ?v4) rfl (by kernel_rfl) (by kernel_rfl) (by kernel_rfl) (fun _ _ _ h => h) (Or.inl ⟨by rfl, ?h4⟩) (by assumption) ?r4
          case h4 => intro W hSw; (try dsimp only at hSw); obtain ⟨s0, s1, s2, s3, s4⟩ := hSw; go_simp; try with_reducible rfl
          simp only [Act.put, List.setIfInBounds_toArray, List.set_cons_zero, List.set_cons_succ]
          refine wpAnyH_ready (rs := [1, 3]) (by kernel_rfl) (by simp) ?_
          refine AllReadyH.cons rfl (fun K hK => ?_) ?_
          · skip
            go_simp
            go_wp2_with (first | (go_at_call 13; refine (CC.out _ hbd.out).mono ?_; rintro e qC ⟨vT, rfl, oT, bC'⟩; have RC : Hid (Below wb.heap.size wb qC) := below_trans hrd.out bC'; have OT := hid oT; have BC := hid bC'; clear oT bC'))
            refine hK.out _ _ (Z.out _ RC.out) (fun hHeld => ?_)
            clear hK K
            refine wpAnyH_ready (rs := [3]) (by kernel_rfl) (by simp) ?_
            refine AllReadyH.cons rfl (fun K hK => ?_) AllReadyH.nil
            go_simp
            refine hK.out _ _ (Z.out _ (RC.out.alloc RC.out.size _)) (fun hHeld => ?_)
            clear hK K
            have BX : Below w.heap.size w (qC.alloc (.cells #[.string s, .slice ua un.length uc, .int .i64 p, .slice none 0 0, .slice none 0 0] 56)) := below_trans g6 (RC.out.alloc RC.out.size (.cells #[.string s, .slice ua un.length uc, .int .i64 p, .slice none 0 0, .slice none 0 0] 56))
            have hx : nodO w.heap.size (qC.alloc (.cells #[.string s, .slice ua un.length uc, .int .i64 p, .slice none 0 0, .slice none 0 0] 56)) [Value.string s, .slice ua un.length uc, .int .i64 p, .slice none 0 0, .slice none 0 0] (L s, un, p, [], []) := ⟨_, _, _, by rw [show strOfNums (L s) = s from nums_LB s], own_below OU.out (RC.out.alloc RC.out.size (.cells #[.string s, .slice ua un.length uc, .int .i64 p, .slice none 0 0, .slice none 0 0] 56)), OwnR.nil _ _ _ _ _, World.ownsRow_nil _ _ _ _⟩
            obtain ⟨rows, q1, q2, q3, q4⟩ := OwnT8.below (OwnT8.le hbd.out.size OT.out.own) (box_below qC (.cells #[.string s, .slice ua un.length uc, .int .i64 p, .slice none 0 0, .slice none 0 0] 56))
            refine wpAnyH_ready (rs := [4]) (by kernel_rfl) (by simp) ?_
            refine AllReadyH.cons rfl (fun K hK => ?_) AllReadyH.nil
            refine step_append_rows rfl _ _ 22 rfl w.heap.size 56 i0 _ 5 96 Tryd.underlying22 hi0 hz0 hz1 hz2 rfl (by decide) vT t.length _ rfl q3 _ [[Value.string s, .slice ua un.length uc, .int .i64 p, .slice none 0 0, .slice none 0 0]] rfl (slc_one qC [Value.string s, .slice ua un.length uc, .int .i64 p, .slice none 0 0, .slice none 0 0] 56 5 rfl) (one5 _ _ _ _ _ _ _ _ _ _ _) (by unfold maxLen; simp only [List.length_singleton]; omega) (by simp only [List.length_singleton]; omega) BX.size ?_
            intro v9 w9 ho9 hg9
            have oT9 := hid (OwnR.snoc (nodO_apt (by decide) (by decide) (by decide)) q1 q2 q3 q4 rfl hx (by simpa using ho9) hg9)
            have b9 : Hid (Below w.heap.size w w9) := below_grown BX hg9 (fun k hk => (q3.lt k hk).1)
            have z9 : Hid (Below wb.heap.size wb w9) := below_grown (RC.out.alloc RC.out.size (.cells #[.string s, .slice ua un.length uc, .int .i64 p, .slice none 0 0, .slice none 0 0] 56)) hg9 (fun k hk => OT.out.own.row.elim (fun cs o => Nat.le_trans hrd.out.size (o.lt k hk).1))
            refine hK.out _ _ (Z.out _ z9.out) (fun hHeld => ?_)
            clear hK K
            clear hx q1 q2 q3 q4 ho9 hg9
            refine wpAnyH_ready (rs := [7]) (by kernel_rfl) (by simp) ?_
            refine AllReadyH.cons rfl (fun K hK => ?_) AllReadyH.nil
            go_simp
            refine hK.out _ _ (Z.out _ z9.out) (fun hHeld => ?_)
            clear hK K
            refine wpAnyH_ready (rs := [8]) (by kernel_rfl) (by simp) ?_
            refine AllReadyH.cons rfl (fun K hK => ?_) AllReadyH.nil
            go_simp
            refine hK.out _ _ (Z.out _ z9.out) (fun hHeld => ?_)
            clear hK K
            refine wpAnyH_ready (rs := [9]) (by kernel_rfl) (by simp) ?_
            refine AllReadyH.cons rfl (fun K hK => ?_) AllReadyH.nil
            go_simp
            refine hK.out _ _ (Z.out _ z9.out) (fun hHeld => ?_)
            clear hK K
            refine wpAnyH_done (by kernel_rfl) ?_ _
            go_wp2_with fail
            go_ret3
            obtain ⟨rfl, h2⟩ := Prod.mk.inj (HA.out.symm.trans e.out)
            obtain ⟨rfl, rfl⟩ := Prod.mk.inj h2
            exact ⟨_, rfl, ownT8_read oT9.out, b9.out⟩
          · refine AllReadyH.cons rfl (fun K hK => ?_) AllReadyH.nil
            go_simp
            refine hK.out _ _ (Z.out _ (hrd.out.alloc hrd.out.size _)) (fun hHeld => ?_)
            clear hK K
            refine wpAnyH_ready (rs := [1]) (by kernel_rfl) (by simp) ?_
            refine AllReadyH.cons rfl (fun K hK => ?_) AllReadyH.nil
            go_simp
            go_wp2_with (first | (go_at_call 13; refine (CC.out _ (hbd.out.alloc hbd.out.size _)).mono ?_; rintro e qC ⟨vT, rfl, oT, bC'⟩; have RC : Hid (Below wb.heap.size wb qC) := below_trans (hrd.out.alloc hrd.out.size (.cells #[.string s, .slice ua un.length uc, .int .i64 p, .slice none 0 0, .slice none 0 0] 56)) bC'; have OT := hid oT; have BC := hid bC'; clear oT bC'))
            refine hK.out _ _ (Z.out _ RC.out) (fun hHeld => ?_)
            clear hK K
            have BX : Below w.heap.size w qC := below_trans g6 RC.out
            have hx : nodO w.heap.size qC [Value.string s, .slice ua un.length uc, .int .i64 p, .slice none 0 0, .slice none 0 0] (L s, un, p, [], []) := ⟨_, _, _, by rw [show strOfNums (L s) = s from nums_LB s], own_below OU.out RC.out, OwnR.nil _ _ _ _ _, World.ownsRow_nil _ _ _ _⟩
            obtain ⟨rows, q1, q2, q3, q4⟩ := (OwnT8.le (hbd.out.alloc hbd.out.size (.cells #[.string s, .slice ua un.length uc, .int .i64 p, .slice none 0 0, .slice none 0 0] 56)).size OT.out.own)
            refine wpAnyH_ready (rs := [4]) (by kernel_rfl) (by simp) ?_
            refine AllReadyH.cons rfl (fun K hK => ?_) AllReadyH.nil
            refine step_append_rows rfl _ _ 22 rfl w.heap.size 56 i0 _ 5 96 Tryd.underlying22 hi0 hz0 hz1 hz2 rfl (by decide) vT t.length _ rfl q3 _ [[Value.string s, .slice ua un.length uc, .int .i64 p, .slice none 0 0, .slice none 0 0]] rfl ((slc_one wb.drew [Value.string s, .slice ua un.length uc, .int .i64 p, .slice none 0 0, .slice none 0 0] 56 5 rfl).below BC.out) (one5 _ _ _ _ _ _ _ _ _ _ _) (by unfold maxLen; simp only [List.length_singleton]; omega) (by simp only [List.length_singleton]; omega) BX.size ?_
            intro v9 w9 ho9 hg9
            have oT9 := hid (OwnR.snoc (nodO_apt (by decide) (by decide) (by decide)) q1 q2 q3 q4 rfl hx (by simpa using ho9) hg9)
            have b9 : Hid (Below w.heap.size w w9) := below_grown BX hg9 (fun k hk => (q3.lt k hk).1)
            have z9 : Hid (Below wb.heap.size wb w9) := below_grown RC.out hg9 (fun k hk => OT.out.own.row.elim (fun cs o => Nat.le_trans (hrd.out.alloc hrd.out.size (.cells #[.string s, .slice ua un.length uc, .int .i64 p, .slice none 0 0, .slice none 0 0] 56)).size (o.lt k hk).1))
            refine hK.out _ _ (Z.out _ z9.out) (fun hHeld => ?_)
            clear hK K
            clear hx q1 q2 q3 q4 ho9 hg9
            refine wpAnyH_ready (rs := [7]) (by kernel_rfl) (by simp) ?_
            refine AllReadyH.cons rfl (fun K hK => ?_) AllReadyH.nil
            go_simp
            refine hK.out _ _ (Z.out _ z9.out) (fun hHeld => ?_)
            clear hK K
            refine wpAnyH_ready (rs := [8]) (by kernel_rfl) (by simp) ?_
            refine AllReadyH.cons rfl (fun K hK => ?_) AllReadyH.nil
            go_simp
            refine hK.out _ _ (Z.out _ z9.out) (fun hHeld => ?_)
            clear hK K
            refine wpAnyH_ready (rs := [9]) (by kernel_rfl) (by simp) ?_
            refine AllReadyH.cons rfl (fun K hK => ?_) AllReadyH.nil
            go_simp
            refine hK.out _ _ (Z.out _ z9.out) (fun hHeld => ?_)
            clear hK K
            refine wpAnyH_done (by kernel_rfl) ?_ _
            go_wp2_with fail
            go_ret3
            obtain ⟨rfl, h2⟩ := Prod.mk.inj (HA.out.symm.trans e.out)
            obtain ⟨rfl, rfl⟩ := Prod.mk.inj h2
            exact ⟨_, rfl, ownT8_read oT9.out, b9.out⟩
      · rw [htw] at hF2
        have e : Hid (addF t p (L s) un = ([], 0, 20)) := by show _ = _; rw [HD2.out, htw, if_pos rfl]
        clear HD2 htw
        go_enter Tryd.func17, Tryd.ntmps17
        go_wp2_with (first
          | (go_at_call 48; refine cw.mono ?_; rintro e w1 ⟨rfl, b1⟩)
          | (go_at_call 49; refine (ca _ b1).mono ?_; rintro e w2 ⟨rfl, b2⟩; have g2 := below_trans b1 b2)
          | (go_at_call 51; refine (cl _ g2).mono ?_; rintro e w3 ⟨lb, rfl, ha3, b3⟩; have g3 := below_trans g2 b3)
          | (go_at_call 50; refine (ck _ lb g3 ha3).mono ?_; rintro e w4 ⟨rfl, b4⟩; have g4 := below_trans g3 b4))
        go_ret3
        obtain ⟨rfl, h2⟩ := Prod.mk.inj (HA.out.symm.trans e.out)
        obtain ⟨rfl, rfl⟩ := Prod.mk.inj h2
        exact ⟨_, rfl, SlR.nil, g4⟩
  · have e : Hid (addF t p (L s) un = ([], 0, wrgF t p)) := by
      show _ = _
      unfold addF wrgF
      unfold wrgF at hw
      split
      · rfl
      · rename_i g1
        rw [if_neg g1] at hw
        split
        · rename_i g2
          first | rw [if_pos g2] | simp [g2]
        · rename_i g2
          rw [if_neg g2] at hw
          exact absurd rfl hw
    obtain ⟨W, hW⟩ : ∃ W, wrgF t p = W := ⟨_, rfl⟩
    rw [hW] at cw e hw
    have hwb : (W != 0) = true := by simpa using hw
    clear hW hw
    go_enter Tryd.func17, Tryd.ntmps17
    go_wp2_with (first
      | (go_at_call 48; refine cw.mono ?_; rintro e w1 ⟨rfl, b1⟩))
    go_ret3
    obtain ⟨rfl, h2⟩ := Prod.mk.inj (HA.out.symm.trans e.out)
    obtain ⟨rfl, rfl⟩ := Prod.mk.inj h2
    exact ⟨_, rfl, SlR.nil, b1⟩

/-
  Set of the document's answer for trees: a property that is new.
-/
theorem t8_put {base : Nat} {w w1 : World} {g m cap n : Nat} {t : List Nd} {rows : List (List Value)} (h1 : rows.length = t.length) (h2 : ∀ r ∈ rows, r.length = 5) (h3 : w.ownsRow base 56 5 (.slice (some ⟨g, 0, none⟩) m cap) t.length rows.flatten) (h4 : ∀ i (h : i < t.length), nodO base w (rows.getD i []) t[i]) (h5 : SepR rows)
    (hn : n < t.length) {nm vu vp vc : Value} {p : Value} (hrow : rows.getD n [] = [nm, vu, p, vp, vc]) (gr : w.grownBy w1 vp.ownBlock) (kp : Kept 65 w w1) {l : List Pp} {vp' : Value} (hp : OwnR 65 2 (propO base) base w1 vp' l) :
    OwnT8 base (w1.setCell ⟨g, n * 5 + 3, none⟩ vp') (.slice (some ⟨g, 0, none⟩) m cap) (t.set n (t[n].1, t[n].2.1, t[n].2.2.1, l, t[n].2.2.2.2)) := by
  have hsep : ∀ j, j < rows.length → j ≠ n → ∀ b, ((rows.getD j []).getD 3 (.slice none 0 0)).ownBlock = some b → vp.ownBlock ≠ some b := by
    intro j hj hjn b hb hv
    have hvp : ((rows.getD n []).getD 3 (.slice none 0 0)).ownBlock = some b := by rw [hrow]; exact hv
    rcases Nat.lt_or_gt_of_ne hjn with hlt | hgt
    · exact h5 j n b hlt (by omega) hb hvp
    · exact h5 n j b hgt hj hvp hb
  have k4 : ∀ i (h : i < t.length), i ≠ n → nodO base w1 (rows.getD i []) t[i] := fun i hi hin => nodO_grown gr kp (h4 i hi) (fun b hb => hsep i (by omega) hin b hb)
  have h3' : w1.ownsRow base 56 5 (.slice (some ⟨g, 0, none⟩) m cap) t.length rows.flatten := own_kept kp (by decide) h3
  have hmt : m = t.length := by
    obtain ⟨_, h3⟩ := h3
    rcases h3 with ⟨h, _⟩ | ⟨g', cap', cur, h, _⟩
    · simp at h
    · simp at h; exact h.2.1
  subst hmt
  obtain ⟨s1, s2⟩ := h3'.stored (n * 5 + 3) vp'
  have kn : Kept 56 w1 (w1.setCell ⟨g, n * 5 + 3, none⟩ vp') := Kept.own (v := .slice (some ⟨g, 0, none⟩) t.length cap) h3' (by simpa [Value.ownBlock] using s2)
  rw [flat_set rows 5 n 3 vp' h2 (by omega) (by decide)] at s1
  have ha : Apt 56 (nodO base) := nodO_apt (by decide) (by decide) (by decide)
  obtain ⟨vu0, vp0, vc0, hcs, o1, o2, o3⟩ := h4 n hn
  rw [hrow] at hcs
  simp at hcs
  obtain ⟨rfl, rfl, rfl, rfl, rfl⟩ := hcs
  have hrow2 : (rows.getD n []).set 3 vp' = [.string (strOfNums t[n].1), vu, .int .i64 t[n].2.2.1, vp', vc] := by rw [hrow]; rfl
  refine ⟨rows.set n ((rows.getD n []).set 3 vp'), by simp [h1], fun r hr => ?_, by simpa using s1, fun i hi => ?_⟩
  · rcases List.mem_or_eq_of_mem_set hr with hr | rfl
    · exact h2 r hr
    · rw [hrow2]; rfl
  · rw [List.length_set] at hi
    rw [List.getElem_set]
    by_cases hin : n = i
    · subst hin
      rw [if_pos rfl, List.getD_eq_getElem?_getD, List.getElem?_set_self (by omega)]
      show nodO base _ ((rows.getD n []).set 3 vp') _
      rw [hrow2]
      exact ha _ _ _ _ kn ⟨vu, vp', vc, rfl, own_kept kp (by decide) o1, hp, own_kept kp (by decide) o3⟩
    · rw [if_neg hin, List.getD_eq_getElem?_getD, List.getElem?_set_ne hin, ← List.getD_eq_getElem?_getD]
      exact ha _ _ _ _ kn (k4 i hi (fun e => hin e.symm))

set_option maxHeartbeats 4000000 in
set_option maxRecDepth 100000 in
theorem w_r8set_new (v : Value) (t : List Nd) (k : Nat) (s : ByteArray) (vd : Value) (d : List Int) (w : World) (h : RdT w v t) (hd : Rd .u8 w vd d) (bt : ∀ x ∈ t, bytN x) (ls : ∀ x ∈ t, lenN x) (hs : s.size ≤ maxLen) (hw : wrgF t (k : Int) = 0) (hnm : nmF (L s) = true) (h256 : (d.length : Int) ≤ 256) (hk : k < t.length) (hp : pfF t[k].2.2.2.1 (L s) = none) (h16 : ¬ (16 : Int) ≤ t[k].2.2.2.1.length) :
    Calls Tryd.prog 20 #[v, .int .i64 k, .string s, vd] w fun e w' => ∃ v1, e = .returned (.tuple #[v1, .int .i64 0]) ∧ OwnT8 w.heap.size w' v1 (t.set k (t[k].1, t[k].2.1, t[k].2.2.1, t[k].2.2.2.1 ++ [(L s, d)], t[k].2.2.2.2)) ∧ Below w.heap.size w w' := by
  have hla := slr_len h uN (P := Tryd.prog)
  have hld := rd_len hd uB (P := Tryd.prog)
  obtain ⟨i9, hi9, hz9, hz8, hz7⟩ := info_parts infoProp
  have cw := w_r8wrong v t k w h bt ls
  have cn := fun w' => w_rnamed s w' hs
  obtain ⟨hf, h0, hl⟩ := wrg_ok hw
  obtain ⟨hl32, hsz⟩ := frm_siz hf
  rw [hw] at cw
  rw [hnm] at cn
  obtain ⟨b1, o1, nm, u1, p1, c1, r1, f0, f1, f2, f3, f4, e1, hu1, hp1, hc1⟩ := nod_at h k hk
  obtain ⟨pa, pq, rfl⟩ := slr_slice hp1
  have cf := fun W (g : Below w.heap.size w W) => w_r8find _ _ s W (hp1.below g (propR_below g)) (fun x hx => ((bt _ (List.getElem_mem hk)).2 x hx).1)
  rw [hp] at cf
  have cf' : ∀ W, Below w.heap.size w W → Calls Tryd.prog 41 #[.slice pa t[k].2.2.2.1.length pq, .string s] W fun e w' => e = .returned (.int .i64 (-1)) ∧ w' = W := cf
  have cc := fun w' (g : Below w.heap.size w w') => w_r8copy v t w' (h.below g) (by omega) hsz
  have cd := fun W (g : Below w.heap.size w W) => w_rcopy vd d W (hd.below g) (by omega)
  clear cf hw hnm hf hp
  go_enter Tryd.func20, Tryd.ntmps20
  go_wp2_with (first
    | (go_at_call 52; refine cw.mono ?_; rintro e w1 ⟨rfl, b1⟩)
    | (go_at_call 39; refine (cn _).mono ?_; rintro e w2 ⟨rfl, b2⟩; have g2 := below_trans b1 b2; have l3 := below_cell g2 f3)
    | (go_at_call 41; refine (cf' _ g2).mono ?_; rintro e w3 ⟨rfl, hq⟩; obtain rfl := hq.symm)
    | (go_at_call 16; refine (cc _ g2).mono ?_; rintro e w4 ⟨vT, rfl, oT, b4⟩; refine Hid.out ?_))
  have g4 := below_trans g2 b4
  obtain ⟨rows, q1, q2, q3, q4, q5⟩ := OwnTS.le g2.size oT
  obtain ⟨gT, cT, rfl⟩ := own_some q3 (by omega)
  obtain ⟨vu, vp, vc, hrow, o1', oP, o3'⟩ := q4 k hk
  have hix := idx_node gT t.length cT k hk
  have T0 : Hid (∀ W, Below w4.heap.size w4 W → W.ownsRow w.heap.size 56 5 (.slice (some ⟨gT, 0, none⟩) t.length cT) t.length rows.flatten) := fun W g => own_kept (T := 5) (Kept.below g) (by decide) q3
  have hcell : rows.flatten[k * 5 + 3]? = some vp := by rw [flat_get rows 5 k 3 q2 (by omega) (by decide), hrow]; rfl
  have TC : Hid (∀ W, Below w4.heap.size w4 W → W.cell? ⟨gT, k * 5 + 3, none⟩ = some vp) := fun W g => own_cell (T0.out W g) _ _ hcell
  have hrd : Hid (Below w4.heap.size w4 w4.drew) := below_drewN (Below.refl _ _) 1
  have hbd : Hid (Below w.heap.size w w4.drew) := below_drewN g4 1
  have CD := hid cd
  have OP := hid oP
  have Q4 := hid q4
  have HC := hid hcell
  have OT := hid q3
  clear cd oP q3 q4 hcell cc cf' cw cn
  refine hid ?_
  go_wp2_with fail
  refine wp_region_held_drew (S := fun _ => True) (by kernel_rfl) trivial (fun hHeld => ?_)
  refine wpAnyH_take (i := 0) (v := ?v1) rfl (by kernel_rfl) (by kernel_rfl) (by kernel_rfl) (fun _ _ _ h => h) (Or.inl ⟨by rfl, ?h1⟩) (by assumption) ?r1
  case h1 => intro W hSw; (try dsimp only at hSw); go_simp; try with_reducible rfl
  simp only [Act.put, List.setIfInBounds_toArray, List.set_cons_zero, List.set_cons_succ]
  refine wpAnyH_take (i := 1) (v := ?v2) rfl (by kernel_rfl) (by kernel_rfl) (by kernel_rfl) (fun _ _ _ h => h) (Or.inl ⟨by rfl, ?h2⟩) (by assumption) ?r2
  case h2 => intro W hSw; (try dsimp only at hSw); go_simp; try with_reducible rfl
  simp only [Act.put, List.setIfInBounds_toArray, List.set_cons_zero, List.set_cons_succ]
  refine wpAnyH_take (i := 2) (v := ?v3) rfl (by kernel_rfl) (by kernel_rfl) (by kernel_rfl) (fun _ _ _ h => h) (Or.inl ⟨by rfl, ?h3⟩) (by assumption) ?r3
  case h3 => intro W hSw; (try dsimp only at hSw); go_simp; try with_reducible rfl
  simp only [Act.put, List.setIfInBounds_toArray, List.set_cons_zero, List.set_cons_succ]
  refine wpAnyH_take (i := 3) (v := ?v4) rfl (by kernel_rfl) (by kernel_rfl) (by kernel_rfl) (fun _ _ _ h => h) (Or.inl ⟨by rfl, ?h4⟩) (by assumption) ?r4
  case h4 => intro W hSw; (try dsimp only at hSw); go_simp; try with_reducible rfl
  simp only [Act.put, List.setIfInBounds_toArray, List.set_cons_zero, List.set_cons_succ]
  refine wpAnyH_take (i := 4) (v := ?v5) rfl (by kernel_rfl) (by kernel_rfl) (by kernel_rfl) (fun _ _ _ h => h) (Or.inl ⟨by rfl, ?h5⟩) (by assumption) ?r5
  case h5 => intro W hSw; (try dsimp only at hSw); go_simp; try with_reducible rfl
  simp only [Act.put, List.setIfInBounds_toArray, List.set_cons_zero, List.set_cons_succ]
  refine wpAnyH_take (i := 5) (v := ?v6) rfl (by kernel_rfl) (by kernel_rfl) (by kernel_rfl) (fun _ _ _ h => h) (Or.inl ⟨by rfl, ?h6⟩) (by assumption) ?r6
  case h6 => intro W hSw; (try dsimp only at hSw); go_simp; try with_reducible rfl
  simp only [Act.put, List.setIfInBounds_toArray, List.set_cons_zero, List.set_cons_succ]
  refine wpAnyH_take (i := 7) (v := ?v7) rfl (by kernel_rfl) (by kernel_rfl) (by kernel_rfl) (fun _ _ _ h => h) (Or.inl ⟨by rfl, ?h7⟩) (by assumption) ?r7
  case h7 => intro W hSw; (try dsimp only at hSw); go_simp; try with_reducible rfl
  simp only [Act.put, List.setIfInBounds_toArray, List.set_cons_zero, List.set_cons_succ]
  refine wpAnyH_take (i := 8) (v := ?v8) rfl (by kernel_rfl) (by kernel_rfl) (by kernel_rfl) (fun _ _ _ h => h) (Or.inl ⟨by rfl, ?h8⟩) (by assumption) ?r8
  case h8 => intro W hSw; (try dsimp only at hSw); go_simp; try with_reducible rfl
  simp only [Act.put, List.setIfInBounds_toArray, List.set_cons_zero, List.set_cons_succ]
  refine wpAnyH_ready (rs := [6, 9]) (by kernel_rfl) (by simp) ?_
  refine AllReadyH.cons rfl (fun K hK => ?_) ?_
  · skip
    have zb := TC.out _ hrd.out
    go_simp
    clear zb
    refine hK.out _ _ trivial (fun _ => ?_)
    clear hK K
    refine wpAnyH_ready (rs := [9]) (by kernel_rfl) (by simp) ?_
    refine AllReadyH.cons rfl (fun K hK => ?_) AllReadyH.nil
    go_simp
    go_wp2_with (first | (go_at_call 47; refine (CD.out _ (by with_reducible exact hbd.out)).mono ?_; rintro e qD ⟨vD, rfl, oD, bD'⟩; obtain ⟨dd, dcap, rfl⟩ := own_form oD; have RD : Hid (Below w4.heap.size w4 qD) := below_trans hrd.out bD'; have OD := hid oD; clear oD bD'))
    refine hK.out _ _ trivial (fun _ => ?_)
    clear hK K
    refine wpAnyH_take (i := 10) (v := ?v9) rfl (by kernel_rfl) (by kernel_rfl) (by kernel_rfl) (fun _ _ _ h => h) (Or.inl ⟨by rfl, ?h9⟩) (by assumption) ?r9
    case h9 => intro W hSw; (try dsimp only at hSw); go_simp; try with_reducible rfl
    simp only [Act.put, List.setIfInBounds_toArray, List.set_cons_zero, List.set_cons_succ]
    refine wpAnyH_ready (rs := [11]) (by kernel_rfl) (by simp) ?_
    refine AllReadyH.cons rfl (fun K hK => ?_) AllReadyH.nil
    go_simp
    refine hK.out _ _ trivial (fun _ => ?_)
    clear hK K
    have BX : Below w4.heap.size w4 (qD.alloc (.cells #[.string s, .slice dd d.length dcap] 65)) := RD.out.alloc RD.out.size _
    have dX : (qD.alloc (.cells #[.string s, .slice dd d.length dcap] 65)).ownsRow w.heap.size 5 1 (.slice dd d.length dcap) d.length (d.map (Value.int .u8)) := World.ownsRow.alloc (own_le hbd.out.size OD.out) _
    obtain ⟨prows, h1, h2, h3, h4⟩ := OwnR.below OP.out BX (propO_below BX)
    have hx : propO w.heap.size (qD.alloc (.cells #[.string s, .slice dd d.length dcap] 65)) [Value.string s, .slice dd d.length dcap] (L s, d) := ⟨_, by rw [show strOfNums (L s) = s from nums_LB s], dX⟩
    refine wpAnyH_ready (rs := [12]) (by kernel_rfl) (by simp) ?_
    refine AllReadyH.cons rfl (fun K hK => ?_) AllReadyH.nil
    refine step_append_rows rfl _ _ 54 rfl w.heap.size 65 i9 _ 2 40 Tryd.underlying54 hi9 hz9 hz8 hz7 rfl (by decide) vp t[k].2.2.2.1.length _ rfl h3 _ [[Value.string s, .slice dd d.length dcap]] rfl (slc_one qD [Value.string s, .slice dd d.length dcap] 65 2 rfl) (one2 s dd d.length dcap) (by unfold maxLen; simp only [List.length_singleton]; omega) (by simp only [List.length_singleton]; omega) (below_trans g4 BX).size ?_
    intro v9 w9 ho9 hg9
    obtain ⟨a9, c9, rfl⟩ := own_form ho9
    have k9 := Kept.own h3 hg9
    have oP9 := hid (OwnR.snoc (propO_apt (by decide)) h1 h2 h3 h4 rfl hx (by simpa using ho9) hg9)
    have b9 : Hid (Below w.heap.size w w9) := below_grown (below_trans g4 BX) hg9 (fun k hk => (h3.lt k hk).1)
    have oT9 := own_kept k9 (by decide) (T0.out _ BX)
    have y1 := own_cell oT9 (k * 5 + 3) _ HC.out
    have y2 := oT9.frozenAt (k * 5 + 3)
    have fin := hid (t8_put q1 q2 (T0.out _ BX) (fun i hi => nodO_below BX _ _ (Q4.out i hi)) q5 hk hrow hg9 k9 oP9.out)
    have bfin : Hid (Below w.heap.size w _) := below_set b9.out gT (k * 5 + 3) (.slice a9 (t[k].2.2.2.1.length + [[Value.string s, .slice dd d.length dcap]].length) c9) (OT.out.lt gT rfl).1
    refine hK.out _ _ trivial (fun _ => ?_)
    clear hK K
    clear k9 h1 h2 h3 h4 hx dX ho9 hg9 BX oT9
    refine wpAnyH_take (i := 13) (v := ?v10) rfl (by kernel_rfl) (by kernel_rfl) (by kernel_rfl) (fun _ _ _ h => h) (Or.inl ⟨by rfl, ?h10⟩) (by assumption) ?r10
    case h10 => intro W hSw; (try dsimp only at hSw); go_simp; try with_reducible rfl
    simp only [Act.put, List.setIfInBounds_toArray, List.set_cons_zero, List.set_cons_succ]
    refine wpAnyH_take (i := 14) (v := ?v11) rfl (by kernel_rfl) (by kernel_rfl) (by kernel_rfl) (fun _ _ _ h => h) (Or.inl ⟨by rfl, ?h11⟩) (by assumption) ?r11
    case h11 => intro W hSw; (try dsimp only at hSw); go_simp; try with_reducible rfl
    simp only [Act.put, List.setIfInBounds_toArray, List.set_cons_zero, List.set_cons_succ]
    refine wpAnyH_ready (rs := [15]) (by kernel_rfl) (by simp) ?_
    refine AllReadyH.cons rfl (fun K hK => ?_) AllReadyH.nil
    go_simp
    refine hK.out _ _ trivial (fun _ => ?_)
    clear hK K
    refine wpAnyH_done (by kernel_rfl) ?_ _
    clear y1 y2
    go_wp2_with fail
    go_ret2
    exact ⟨_, rfl, fin.out, bfin.out⟩
  · refine AllReadyH.cons rfl (fun K hK => ?_) AllReadyH.nil
    go_simp
    go_wp2_with (first | (go_at_call 47; refine (CD.out _ (by with_reducible exact hbd.out)).mono ?_; rintro e qD ⟨vD, rfl, oD, bD'⟩; obtain ⟨dd, dcap, rfl⟩ := own_form oD; have RD : Hid (Below w4.heap.size w4 qD) := below_trans hrd.out bD'; have OD := hid oD; clear oD bD'))
    refine hK.out _ _ trivial (fun _ => ?_)
    clear hK K
    refine wpAnyH_take (i := 10) (v := ?v12) rfl (by kernel_rfl) (by kernel_rfl) (by kernel_rfl) (fun _ _ _ h => h) (Or.inl ⟨by rfl, ?h12⟩) (by assumption) ?r12
    case h12 => intro W hSw; (try dsimp only at hSw); go_simp; try with_reducible rfl
    simp only [Act.put, List.setIfInBounds_toArray, List.set_cons_zero, List.set_cons_succ]
    refine wpAnyH_ready (rs := [6, 11]) (by kernel_rfl) (by simp) ?_
    refine AllReadyH.cons rfl (fun K hK => ?_) ?_
    · skip
      have zb := TC.out _ RD.out
      go_simp
      clear zb
      refine hK.out _ _ trivial (fun _ => ?_)
      clear hK K
      refine wpAnyH_ready (rs := [11]) (by kernel_rfl) (by simp) ?_
      refine AllReadyH.cons rfl (fun K hK => ?_) AllReadyH.nil
      go_simp
      refine hK.out _ _ trivial (fun _ => ?_)
      clear hK K
      have BX : Below w4.heap.size w4 (qD.alloc (.cells #[.string s, .slice dd d.length dcap] 65)) := RD.out.alloc RD.out.size _
      have dX : (qD.alloc (.cells #[.string s, .slice dd d.length dcap] 65)).ownsRow w.heap.size 5 1 (.slice dd d.length dcap) d.length (d.map (Value.int .u8)) := World.ownsRow.alloc (own_le hbd.out.size OD.out) _
      obtain ⟨prows, h1, h2, h3, h4⟩ := OwnR.below OP.out BX (propO_below BX)
      have hx : propO w.heap.size (qD.alloc (.cells #[.string s, .slice dd d.length dcap] 65)) [Value.string s, .slice dd d.length dcap] (L s, d) := ⟨_, by rw [show strOfNums (L s) = s from nums_LB s], dX⟩
      refine wpAnyH_ready (rs := [12]) (by kernel_rfl) (by simp) ?_
      refine AllReadyH.cons rfl (fun K hK => ?_) AllReadyH.nil
      refine step_append_rows rfl _ _ 54 rfl w.heap.size 65 i9 _ 2 40 Tryd.underlying54 hi9 hz9 hz8 hz7 rfl (by decide) vp t[k].2.2.2.1.length _ rfl h3 _ [[Value.string s, .slice dd d.length dcap]] rfl (slc_one qD [Value.string s, .slice dd d.length dcap] 65 2 rfl) (one2 s dd d.length dcap) (by unfold maxLen; simp only [List.length_singleton]; omega) (by simp only [List.length_singleton]; omega) (below_trans g4 BX).size ?_
      intro v9 w9 ho9 hg9
      obtain ⟨a9, c9, rfl⟩ := own_form ho9
      have k9 := Kept.own h3 hg9
      have oP9 := hid (OwnR.snoc (propO_apt (by decide)) h1 h2 h3 h4 rfl hx (by simpa using ho9) hg9)
      have b9 : Hid (Below w.heap.size w w9) := below_grown (below_trans g4 BX) hg9 (fun k hk => (h3.lt k hk).1)
      have oT9 := own_kept k9 (by decide) (T0.out _ BX)
      have y1 := own_cell oT9 (k * 5 + 3) _ HC.out
      have y2 := oT9.frozenAt (k * 5 + 3)
      have fin := hid (t8_put q1 q2 (T0.out _ BX) (fun i hi => nodO_below BX _ _ (Q4.out i hi)) q5 hk hrow hg9 k9 oP9.out)
      have bfin : Hid (Below w.heap.size w _) := below_set b9.out gT (k * 5 + 3) (.slice a9 (t[k].2.2.2.1.length + [[Value.string s, .slice dd d.length dcap]].length) c9) (OT.out.lt gT rfl).1
      refine hK.out _ _ trivial (fun _ => ?_)
      clear hK K
      clear k9 h1 h2 h3 h4 hx dX ho9 hg9 BX oT9
      refine wpAnyH_take (i := 13) (v := ?v13) rfl (by kernel_rfl) (by kernel_rfl) (by kernel_rfl) (fun _ _ _ h => h) (Or.inl ⟨by rfl, ?h13⟩) (by assumption) ?r13
      case h13 => intro W hSw; (try dsimp only at hSw); go_simp; try with_reducible rfl
      simp only [Act.put, List.setIfInBounds_toArray, List.set_cons_zero, List.set_cons_succ]
      refine wpAnyH_take (i := 14) (v := ?v14) rfl (by kernel_rfl) (by kernel_rfl) (by kernel_rfl) (fun _ _ _ h => h) (Or.inl ⟨by rfl, ?h14⟩) (by assumption) ?r14
      case h14 => intro W hSw; (try dsimp only at hSw); go_simp; try with_reducible rfl
      simp only [Act.put, List.setIfInBounds_toArray, List.set_cons_zero, List.set_cons_succ]
      refine wpAnyH_ready (rs := [15]) (by kernel_rfl) (by simp) ?_
      refine AllReadyH.cons rfl (fun K hK => ?_) AllReadyH.nil
      go_simp
      refine hK.out _ _ trivial (fun _ => ?_)
      clear hK K
      refine wpAnyH_done (by kernel_rfl) ?_ _
      clear y1 y2
      go_wp2_with fail
      go_ret2
      exact ⟨_, rfl, fin.out, bfin.out⟩
    · refine AllReadyH.cons rfl (fun K hK => ?_) AllReadyH.nil
      go_simp
      refine hK.out _ _ trivial (fun _ => ?_)
      clear hK K
      refine wpAnyH_ready (rs := [6]) (by kernel_rfl) (by simp) ?_
      refine AllReadyH.cons rfl (fun K hK => ?_) AllReadyH.nil
      have zb := TC.out (qD.alloc (.cells #[.string s, .slice dd d.length dcap] 65)) (RD.out.alloc RD.out.size _)
      go_simp
      clear zb
      refine hK.out _ _ trivial (fun _ => ?_)
      clear hK K
      have BX : Below w4.heap.size w4 (qD.alloc (.cells #[.string s, .slice dd d.length dcap] 65)) := RD.out.alloc RD.out.size _
      have dX : (qD.alloc (.cells #[.string s, .slice dd d.length dcap] 65)).ownsRow w.heap.size 5 1 (.slice dd d.length dcap) d.length (d.map (Value.int .u8)) := World.ownsRow.alloc (own_le hbd.out.size OD.out) _
      obtain ⟨prows, h1, h2, h3, h4⟩ := OwnR.below OP.out BX (propO_below BX)
      have hx : propO w.heap.size (qD.alloc (.cells #[.string s, .slice dd d.length dcap] 65)) [Value.string s, .slice dd d.length dcap] (L s, d) := ⟨_, by rw [show strOfNums (L s) = s from nums_LB s], dX⟩
      refine wpAnyH_ready (rs := [12]) (by kernel_rfl) (by simp) ?_
      refine AllReadyH.cons rfl (fun K hK => ?_) AllReadyH.nil
      refine step_append_rows rfl _ _ 54 rfl w.heap.size 65 i9 _ 2 40 Tryd.underlying54 hi9 hz9 hz8 hz7 rfl (by decide) vp t[k].2.2.2.1.length _ rfl h3 _ [[Value.string s, .slice dd d.length dcap]] rfl (slc_one qD [Value.string s, .slice dd d.length dcap] 65 2 rfl) (one2 s dd d.length dcap) (by unfold maxLen; simp only [List.length_singleton]; omega) (by simp only [List.length_singleton]; omega) (below_trans g4 BX).size ?_
      intro v9 w9 ho9 hg9
      obtain ⟨a9, c9, rfl⟩ := own_form ho9
      have k9 := Kept.own h3 hg9
      have oP9 := hid (OwnR.snoc (propO_apt (by decide)) h1 h2 h3 h4 rfl hx (by simpa using ho9) hg9)
      have b9 : Hid (Below w.heap.size w w9) := below_grown (below_trans g4 BX) hg9 (fun k hk => (h3.lt k hk).1)
      have oT9 := own_kept k9 (by decide) (T0.out _ BX)
      have y1 := own_cell oT9 (k * 5 + 3) _ HC.out
      have y2 := oT9.frozenAt (k * 5 + 3)
      have fin := hid (t8_put q1 q2 (T0.out _ BX) (fun i hi => nodO_below BX _ _ (Q4.out i hi)) q5 hk hrow hg9 k9 oP9.out)
      have bfin : Hid (Below w.heap.size w _) := below_set b9.out gT (k * 5 + 3) (.slice a9 (t[k].2.2.2.1.length + [[Value.string s, .slice dd d.length dcap]].length) c9) (OT.out.lt gT rfl).1
      refine hK.out _ _ trivial (fun _ => ?_)
      clear hK K
      clear k9 h1 h2 h3 h4 hx dX ho9 hg9 BX oT9
      refine wpAnyH_take (i := 13) (v := ?v15) rfl (by kernel_rfl) (by kernel_rfl) (by kernel_rfl) (fun _ _ _ h => h) (Or.inl ⟨by rfl, ?h15⟩) (by assumption) ?r15
      case h15 => intro W hSw; (try dsimp only at hSw); go_simp; try with_reducible rfl
      simp only [Act.put, List.setIfInBounds_toArray, List.set_cons_zero, List.set_cons_succ]
      refine wpAnyH_take (i := 14) (v := ?v16) rfl (by kernel_rfl) (by kernel_rfl) (by kernel_rfl) (fun _ _ _ h => h) (Or.inl ⟨by rfl, ?h16⟩) (by assumption) ?r16
      case h16 => intro W hSw; (try dsimp only at hSw); go_simp; try with_reducible rfl
      simp only [Act.put, List.setIfInBounds_toArray, List.set_cons_zero, List.set_cons_succ]
      refine wpAnyH_ready (rs := [15]) (by kernel_rfl) (by simp) ?_
      refine AllReadyH.cons rfl (fun K hK => ?_) AllReadyH.nil
      go_simp
      refine hK.out _ _ trivial (fun _ => ?_)
      clear hK K
      refine wpAnyH_done (by kernel_rfl) ?_ _
      clear y1 y2
      go_wp2_with fail
      go_ret2
      exact ⟨_, rfl, fin.out, bfin.out⟩

/-
  Set of the document's answer for trees, whole.
-/
theorem put_at8 {t : List Nd} {k : Nat} (hk : k < t.length) (l : List Pp) : putN t (k : Int) l = t.set k (t[k].1, t[k].2.1, t[k].2.2.1, l, t[k].2.2.2.2) := by
  unfold putN
  rw [Int.toNat_natCast, List.getElem?_eq_getElem hk]

theorem w_r8set (v : Value) (t : List Nd) (n : Int) (s : ByteArray) (vd : Value) (d : List Int) (w : World) (h : RdT w v t) (hd : Rd .u8 w vd d) (bt : ∀ x ∈ t, bytN x) (ls : ∀ x ∈ t, lenN x) (hs : s.size ≤ maxLen) :
    Calls Tryd.prog 20 #[v, .int .i64 n, .string s, vd] w fun e w' => ∃ v1, e = .returned (.tuple #[v1, .int .i64 (setF t n (L s) d).2]) ∧ OwnT8 w.heap.size w' v1 (setF t n (L s) d).1 ∧ Below w.heap.size w w' := by
  by_cases he : (setF t n (L s) d).2 = 0
  · have hw : wrgF t n = 0 := by
      by_cases hw : wrgF t n = 0
      · exact hw
      · unfold setF at he
        rw [if_pos hw] at he
        exact absurd he hw
    have hnm : nmF (L s) = true := by
      cases hnm : nmF (L s)
      · unfold setF at he
        rw [if_neg (by simpa using hw), if_pos hnm] at he
        cases he
      · rfl
    have h256 : ¬ 256 < d.length := by
      intro hc
      unfold setF at he
      rw [if_neg (by simpa using hw), if_neg (by simp [hnm]), if_pos hc] at he
      cases he
    obtain ⟨hf, h0, hl⟩ := wrg_ok hw
    obtain ⟨k, rfl⟩ : ∃ k : Nat, n = k := ⟨n.toNat, by omega⟩
    have hk : k < t.length := by simpa using hl
    have hpr : prpF t (k : Int) = t[k].2.2.2.1 := by
      have := prp_at (t := t) (n := (k : Int)) (by simpa using hk)
      simpa using this
    have hc : ¬ (pfF t[k].2.2.2.1 (L s) = none ∧ 16 ≤ t[k].2.2.2.1.length) := by
      intro hc
      unfold setF at he
      rw [if_neg (by simpa using hw), if_neg (by simp [hnm]), if_neg h256, hpr, if_pos hc] at he
      cases he
    have e : setF t (k : Int) (L s) d = (t.set k (t[k].1, t[k].2.1, t[k].2.2.1, setP t[k].2.2.2.1 (L s) d, t[k].2.2.2.2), 0) := by
      unfold setF
      rw [if_neg (by simpa using hw), if_neg (by simp [hnm]), if_neg h256, hpr, if_neg hc, put_at8 hk]
    rw [e]
    cases hp : pfF t[k].2.2.2.1 (L s) with
    | none =>
      have hsp : setP t[k].2.2.2.1 (L s) d = t[k].2.2.2.1 ++ [(L s, d)] := by unfold setP; rw [hp]
      rw [hsp]
      exact w_r8set_new v t k s vd d w h hd bt ls hs hw hnm (by omega) hk hp (fun h16 => hc ⟨hp, by omega⟩)
    | some j =>
      obtain ⟨hj, hjn, _⟩ := pf_some hp
      have hgd : (t[k].2.2.2.1.getD j ([], [])).1 = L s := by rw [List.getD_eq_getElem?_getD, List.getElem?_eq_getElem hj]; exact hjn
      have hsp : setP t[k].2.2.2.1 (L s) d = t[k].2.2.2.1.set j (L s, d) := by unfold setP; rw [hp]
      rw [hsp]
      have c := w_r8set_in v t k j s vd d w h hd bt ls hs hw hnm (by omega) hk hp
      rw [hgd] at c
      refine c.mono ?_
      rintro e w' ⟨v1, rfl, o, b⟩
      exact ⟨v1, rfl, o.own, b⟩
  · refine (w_r8set_no v t n s vd d w h hd bt ls hs he).mono ?_
    rintro e w' ⟨v1, rfl, o, b⟩
    exact ⟨v1, rfl, o.own, b⟩

/-
  Package tree's Set.
-/
set_option maxHeartbeats 4000000 in
set_option maxRecDepth 100000 in
theorem w_p8set_no (v : Value) (t : List Nd) (n : Int) (s : ByteArray) (vd : Value) (d : List Int) (w : World) (h : RdT w v t) (hd : Rd .u8 w vd d) (bt : ∀ x ∈ t, bytN x) (ls : ∀ x ∈ t, lenN x) (hs : s.size ≤ maxLen) (he : (setF t n (L s) d).2 ≠ 0) :
    Calls Tryd.prog 19 #[v, .int .i64 n, .string s, vd] w fun e w' => ∃ v1, e = .returned (.tuple #[v1, .int .i64 (setF t n (L s) d).2]) ∧ RdT w' v1 (setF t n (L s) d).1 ∧ Below w.heap.size w w' := by
  have hld := rd_len hd uB (P := Tryd.prog)
  have cw := w_pdevice v t n w h bt ls
  have cn := fun w' => w_pnamed s w' hs
  by_cases hw : wrgF t n = 0
  · obtain ⟨hf, h0, hl⟩ := wrg_ok hw
    obtain ⟨p16, pok⟩ := frm_props hf hl
    rw [hw] at cw
    obtain ⟨k, rfl⟩ : ∃ k : Nat, n = k := ⟨n.toNat, by omega⟩
    have hk : k < t.length := by simpa using hl
    cases hnm : nmF (L s)
    · have e : setF t (k : Int) (L s) d = ([], 1) := by unfold setF; rw [if_neg (by simpa using hw), if_pos hnm]
      rw [e]
      simp only [hnm] at cn
      clear e hw hf he hnm
      go_enter Tryd.func19, Tryd.ntmps19
      go_wp2_with (first
        | (go_at_call 48; refine cw.mono ?_; rintro e w1 ⟨rfl, b1⟩)
        | (go_at_call 53; refine (cn _).mono ?_; rintro e w2 ⟨rfl, b2⟩))
      go_ret2
      exact ⟨_, rfl, SlR.nil, below_trans b1 b2⟩
    · by_cases h256 : (256 : Int) < d.length
      · have e : setF t (k : Int) (L s) d = ([], 3) := by unfold setF; rw [if_neg (by simpa using hw), if_neg (by simp [hnm]), if_pos (by omega)]
        rw [e]
        simp only [hnm] at cn
        clear e hw hf he hnm
        go_enter Tryd.func19, Tryd.ntmps19
        go_wp2_with (first
          | (go_at_call 48; refine cw.mono ?_; rintro e w1 ⟨rfl, b1⟩)
          | (go_at_call 53; refine (cn _).mono ?_; rintro e w2 ⟨rfl, b2⟩))
        go_ret2
        exact ⟨_, rfl, SlR.nil, below_trans b1 b2⟩
      · obtain ⟨b1, o1, nm, u1, p1, c1, r1, f0, f1, f2, f3, f4, e1, hu1, hp1, hc1⟩ := nod_at h k hk
        have hlp := slr_len hp1 uR (P := Tryd.prog)
        obtain ⟨pa, pq, rfl⟩ := slr_slice hp1
        have hpr : prpF t (k : Int) = t[k].2.2.2.1 := by
          have := prp_at (t := t) (n := (k : Int)) (by simpa using hk)
          simpa using this
        have hpm : pfF t[k].2.2.2.1 (L s) = none ∧ 16 ≤ t[k].2.2.2.1.length := by
          by_cases hc : pfF t[k].2.2.2.1 (L s) = none ∧ 16 ≤ t[k].2.2.2.1.length
          · exact hc
          · exfalso
            apply he
            unfold setF
            rw [if_neg (by simpa using hw), if_neg (by simp [hnm]), if_neg (by omega), hpr, if_neg hc]
        have e : setF t (k : Int) (L s) d = ([], 22) := by unfold setF; rw [if_neg (by simpa using hw), if_neg (by simp [hnm]), if_neg (by omega), hpr, if_pos hpm]
        rw [e]
        simp only [hnm] at cn
        have cf := fun W (g : Below w.heap.size w W) => w_pplace _ _ s W (hp1.below g (propR_below g)) (fun x hx => ((bt _ (List.getElem_mem hk)).2 x hx).1)
        rw [hpm.1] at cf
        rw [hpr] at p16
        have h16 : ((t[k].2.2.2.1.length : Int) == 16) = true := by rw [beq_iff_eq]; omega
        obtain ⟨np, hnp⟩ : ∃ np, t[k].2.2.2.1.length = np := ⟨_, rfl⟩
        rw [hnp] at f3 h16 hlp
        simp only [hnp] at cf
        have cf' : ∀ W, Below w.heap.size w W → Calls Tryd.prog 54 #[.slice pa np pq, .string s] W fun e w' => e = .returned (.int .i64 (-1)) ∧ Below W.heap.size W w' := cf
        clear e hw hf he hnm cf hpm hpr p16 hnp
        go_enter Tryd.func19, Tryd.ntmps19
        go_wp2_with (first
          | (go_at_call 48; refine cw.mono ?_; rintro e w1 ⟨rfl, b1⟩)
          | (go_at_call 53; refine (cn _).mono ?_; rintro e w2 ⟨rfl, b2⟩; have g2 := below_trans b1 b2; have l3 := below_cell g2 f3)
          | (go_at_call 54; refine (cf' _ g2).mono ?_; rintro e w3 ⟨rfl, b3⟩; have m3 := below_cell b3 l3))
        go_ret2
        exact ⟨_, rfl, SlR.nil, below_trans g2 b3⟩
  · have e : setF t n (L s) d = ([], wrgF t n) := by unfold setF; rw [if_pos hw]
    rw [e]
    obtain ⟨E, hE⟩ : ∃ E, wrgF t n = E := ⟨_, rfl⟩
    rw [hE] at cw hw
    simp only [hE]
    have hb : (E != 0) = true := by simpa using hw
    clear e hE hw he
    go_enter Tryd.func19, Tryd.ntmps19
    go_wp2_with (go_at_call 48; refine cw.mono ?_; rintro e q1 ⟨rfl, b1⟩)
    go_ret2
    exact ⟨_, rfl, SlR.nil, b1⟩

set_option maxHeartbeats 4000000 in
set_option maxRecDepth 100000 in
theorem w_p8set_in (v : Value) (t : List Nd) (k j : Nat) (s : ByteArray) (vd : Value) (d : List Int) (w : World) (h : RdT w v t) (hd : Rd .u8 w vd d) (bt : ∀ x ∈ t, bytN x) (ls : ∀ x ∈ t, lenN x) (hs : s.size ≤ maxLen) (hw : wrgF t (k : Int) = 0) (hnm : nmF (L s) = true) (h256 : (d.length : Int) ≤ 256) (hk : k < t.length) (hp : pfF t[k].2.2.2.1 (L s) = some j) :
    Calls Tryd.prog 19 #[v, .int .i64 k, .string s, vd] w fun e w' => ∃ v1, e = .returned (.tuple #[v1, .int .i64 0]) ∧ RdT w' v1 (t.set k (t[k].1, t[k].2.1, t[k].2.2.1, t[k].2.2.2.1.set j (L s, d), t[k].2.2.2.2)) ∧ Below w.heap.size w w' := by
  have hld := rd_len hd uB (P := Tryd.prog)
  have cw := w_pdevice v t k w h bt ls
  have cn := fun w' => w_pnamed s w' hs
  obtain ⟨hf, h0, hl⟩ := wrg_ok hw
  obtain ⟨hl32, hsz⟩ := frm_siz hf
  rw [hw] at cw
  simp only [hnm] at cn
  obtain ⟨b1, o1, nm, u1, p1, c1, r1, f0, f1, f2, f3, f4, e1, hu1, hp1, hc1⟩ := nod_at h k hk
  have hlp := slr_len hp1 uR (P := Tryd.prog)
  obtain ⟨pa, pq, rfl⟩ := slr_slice hp1
  have cf := fun W (g : Below w.heap.size w W) => w_pplace _ _ s W (hp1.below g (propR_below g)) (fun x hx => ((bt _ (List.getElem_mem hk)).2 x hx).1)
  obtain ⟨hj, _, _⟩ := pf_some hp
  rw [hp] at cf
  have cf' : ∀ W, Below w.heap.size w W → Calls Tryd.prog 54 #[.slice pa t[k].2.2.2.1.length pq, .string s] W fun e w' => e = .returned (.int .i64 (j : Int)) ∧ Below W.heap.size W w' := cf
  have cc := fun w' (g : Below w.heap.size w w') => w_p8copyS v t w' (h.below g) (by omega) hsz
  have cd := fun W (g : Below w.heap.size w W) => w_pclone8 vd d W (hd.below g) (by omega)
  have hj2 : ((j : Int) == -1) = false := by simp
  have hj3 : (0 : Int) ≤ j := by omega
  clear cf hw hnm hf
  go_enter Tryd.func19, Tryd.ntmps19
  go_wp2_with (first
    | (go_at_call 48; refine cw.mono ?_; rintro e w1 ⟨rfl, b1⟩)
    | (go_at_call 53; refine (cn _).mono ?_; rintro e w2 ⟨rfl, b2⟩; have g2 := below_trans b1 b2; have l3 := below_cell g2 f3)
    | (go_at_call 54; refine (cf' _ g2).mono ?_; rintro e w3 ⟨rfl, b3⟩; have m3 := below_cell b3 l3; have g3 := below_trans g2 b3)
    | (go_at_call 13; refine (cc _ g3).mono ?_; rintro e w4 ⟨vT, rfl, oT, b4⟩; have g4 := below_trans g3 b4)
    | (go_at_call 45; refine (cd _ g4).mono ?_; rintro e w5 ⟨vD, rfl, oD, b5⟩; obtain ⟨dd, dcap, rfl⟩ := own_form oD))
  have g5 := below_trans g4 b5
  have st := stands_new w5 #[.string s, .slice dd d.length dcap] 65
  have bX := box_below w5 (.cells #[.string s, .slice dd d.length dcap] 65)
  have oD6 := World.ownsRow.alloc (own_le g4.size oD) (.cells #[.string s, .slice dd d.length dcap] 65)
  have oT4 := OwnTS.le g3.size oT
  obtain ⟨B, hB⟩ : ∃ B, w5.heap.size = B := ⟨_, rfl⟩
  have hBl : w4.heap.size ≤ B := by rw [← hB]; exact b5.size
  rw [hB] at st
  have g6 := below_trans g5 bX
  simp only [hB]
  generalize w5.alloc (.cells #[.string s, .slice dd d.length dcap] 65) = wb at st bX oD6 g6 ⊢
  have b46 := below_trans b5 bX
  obtain ⟨rows, q1, q2, q3', q4', q5⟩ := oT4
  have q3 := own_kept (T := 5) (Kept.below b46) (by decide) q3'
  have q4 := fun i hi => nodO_below b46 _ _ (q4' i hi)
  obtain ⟨gT, cT, rfl⟩ := own_some q3 (by omega)
  have hix := idx_node gT t.length cT k hk
  obtain ⟨vu, vp, vc, hrow, o1', o2', o3'⟩ := q4 k hk
  obtain ⟨prows, z1, z2, z3, z4⟩ := o2'
  obtain ⟨gP, cP, rfl⟩ := own_some z3 (by omega)
  have hip := idx_prop gP t[k].2.2.2.1.length cP j hj
  have tc : wb.cell? ⟨gT, k * 5 + 3, none⟩ = some (.slice (some ⟨gP, 0, none⟩) t[k].2.2.2.1.length cP) := own_cell q3 (k * 5 + 3) _ (by rw [flat_get rows 5 k 3 q2 (by omega) (by decide), hrow]; rfl)
  have z0 := st.cell 0 _ rfl
  have z9 := st.cell 1 _ rfl
  obtain ⟨u0, hu0⟩ : ∃ u, prows.flatten[j * 2]? = some u := ⟨_, List.getElem?_eq_getElem (by rw [flat_len prows 2 z2, z1]; omega)⟩
  obtain ⟨u9, hu9⟩ : ∃ u, prows.flatten[j * 2 + 1]? = some u := ⟨_, List.getElem?_eq_getElem (by rw [flat_len prows 2 z2, z1]; omega)⟩
  have y0 := own_cell z3 (j * 2) _ hu0
  have y1 := own_cell z3 (j * 2 + 1) _ hu9
  have y2 := z3.frozenAt (j * 2)
  have y3 := z3.frozenAt (j * 2 + 1)
  obtain ⟨vo, ho, -⟩ := z4 j hj
  have Hold := hid hu0
  have GR : Hid (∀ u1 u2, wb.grownBy ((wb.drew.setCell ⟨gP, j * 2, none⟩ u1).setCell ⟨gP, j * 2 + 1, none⟩ u2) (some gP)) := fun u1 u2 => gb_set (gb_set (gb_below (gb_refl wb (some gP)) (below_drewN (Below.refl _ _) 1)) _ _) _ _
  have B6 : Hid (∀ u1 u2, Below w.heap.size w ((wb.drew.setCell ⟨gP, j * 2, none⟩ u1).setCell ⟨gP, j * 2 + 1, none⟩ u2)) := fun u1 u2 => below_set (below_set (below_drewN g6 1) gP _ _ (z3.lt gP rfl).1) gP _ _ (z3.lt gP rfl).1
  clear cw cn cf' cc cd
  go_region
  all_goals (
    go_wp2_with fail
    go_ret2
    obtain ⟨w6, hw6⟩ : ∃ w6, ((wb.setCell ⟨gP, j * 2, none⟩ (.string s)).setCell ⟨gP, j * 2 + 1, none⟩ (.slice dd d.length dcap)).drew = w6 := ⟨_, rfl⟩
    have gr : wb.grownBy w6 (some gP) := by rw [← hw6]; exact GR.out _ _
    have kp : Kept 65 wb w6 := Kept.own z3 gr
    have z3d : wb.drew.ownsRow w.heap.size 65 2 (.slice (some ⟨gP, 0, none⟩) t[k].2.2.2.1.length cP) t[k].2.2.2.1.length prows.flatten := own_kept (T := 5) (Kept.below (below_drewN (Below.refl _ wb) 1)) (by decide) z3
    have hset1 := (z3d.stored (j * 2 + 0) (.string s)).1
    rw [flat_set prows 2 j 0 _ z2 (by omega) (by decide), ho] at hset1
    have hset2 := (hset1.stored (j * 2 + 1) (.slice dd d.length dcap)).1
    have hl2 : ∀ r ∈ prows.set j [Value.string s, vo], r.length = 2 := fun r hr => by
      rcases List.mem_or_eq_of_mem_set hr with hr | rfl
      · exact z2 r hr
      · rfl
    rw [show ([Value.string (strOfNums t[k].2.2.2.1[j].1), vo].set 0 (Value.string s)) = [Value.string s, vo] from rfl, flat_set (prows.set j [Value.string s, vo]) 2 j 1 _ hl2 (by simp; omega) (by decide), set_getD prows j _ (by omega), List.set_set] at hset2
    have hset3 : w6.ownsRow w.heap.size 65 2 (.slice (some ⟨gP, 0, none⟩) t[k].2.2.2.1.length cP) t[k].2.2.2.1.length (prows.set j [Value.string s, .slice dd d.length dcap]).flatten := by rw [← hw6]; exact hset2
    have hpN : OwnR 65 2 (propO w.heap.size) w.heap.size w6 (.slice (some ⟨gP, 0, none⟩) t[k].2.2.2.1.length cP) (t[k].2.2.2.1.set j (L s, d)) := by
      refine ⟨prows.set j [Value.string s, .slice dd d.length dcap], by simp [z1], fun r hr => ?_, by simpa using hset3, fun m hm => ?_⟩
      · rcases List.mem_or_eq_of_mem_set hr with hr | rfl
        · exact z2 r hr
        · rfl
      · rw [List.length_set] at hm
        rw [List.getElem_set]
        by_cases hjm : j = m
        · subst hjm
          rw [if_pos rfl, set_getD prows j _ (by omega)]
          exact ⟨_, by rw [show strOfNums (L s) = s from nums_LB s], own_kept kp (by decide) oD6⟩
        · rw [if_neg hjm, List.getD_eq_getElem?_getD, List.getElem?_set_ne hjm, ← List.getD_eq_getElem?_getD]
          exact propO_apt (by decide) _ _ _ _ kp (z4 m hm)
    refine ⟨_, rfl, ?_, ?_⟩
    · rw [hw6]
      exact ownT8_read (ts_in q1 q2 q3 q4 q5 hk hrow gr kp hpN).own
    · exact B6.out _ _)

set_option maxHeartbeats 4000000 in
set_option maxRecDepth 100000 in
theorem w_p8set_new (v : Value) (t : List Nd) (k : Nat) (s : ByteArray) (vd : Value) (d : List Int) (w : World) (h : RdT w v t) (hd : Rd .u8 w vd d) (bt : ∀ x ∈ t, bytN x) (ls : ∀ x ∈ t, lenN x) (hs : s.size ≤ maxLen) (hw : wrgF t (k : Int) = 0) (hnm : nmF (L s) = true) (h256 : (d.length : Int) ≤ 256) (hk : k < t.length) (hp : pfF t[k].2.2.2.1 (L s) = none) (h16 : ¬ (16 : Int) ≤ t[k].2.2.2.1.length) :
    Calls Tryd.prog 19 #[v, .int .i64 k, .string s, vd] w fun e w' => ∃ v1, e = .returned (.tuple #[v1, .int .i64 0]) ∧ RdT w' v1 (t.set k (t[k].1, t[k].2.1, t[k].2.2.1, t[k].2.2.2.1 ++ [(L s, d)], t[k].2.2.2.2)) ∧ Below w.heap.size w w' := by
  obtain ⟨i9, hi9, hz9, hz8, hz7⟩ := info_parts infoProp
  have hld := rd_len hd uB (P := Tryd.prog)
  have cw := w_pdevice v t k w h bt ls
  have cn := fun w' => w_pnamed s w' hs
  obtain ⟨hf, h0, hl⟩ := wrg_ok hw
  obtain ⟨hl32, hsz⟩ := frm_siz hf
  rw [hw] at cw
  simp only [hnm] at cn
  obtain ⟨b1, o1, nm, u1, p1, c1, r1, f0, f1, f2, f3, f4, e1, hu1, hp1, hc1⟩ := nod_at h k hk
  have hlp := slr_len hp1 uR (P := Tryd.prog)
  obtain ⟨pa, pq, rfl⟩ := slr_slice hp1
  have cf := fun W (g : Below w.heap.size w W) => w_pplace _ _ s W (hp1.below g (propR_below g)) (fun x hx => ((bt _ (List.getElem_mem hk)).2 x hx).1)
  rw [hp] at cf
  have cf' : ∀ W, Below w.heap.size w W → Calls Tryd.prog 54 #[.slice pa t[k].2.2.2.1.length pq, .string s] W fun e w' => e = .returned (.int .i64 (-1)) ∧ Below W.heap.size W w' := cf
  have cc := fun w' (g : Below w.heap.size w w') => w_p8copyS v t w' (h.below g) (by omega) hsz
  have cd := fun W (g : Below w.heap.size w W) => w_pclone8 vd d W (hd.below g) (by omega)
  have h16b : ((t[k].2.2.2.1.length : Int) == 16) = false := by rw [beq_eq_false_iff_ne]; omega
  clear cf hw hnm hf hp
  go_enter Tryd.func19, Tryd.ntmps19
  go_wp2_with (first
    | (go_at_call 48; refine cw.mono ?_; rintro e w1 ⟨rfl, b1⟩)
    | (go_at_call 53; refine (cn _).mono ?_; rintro e w2 ⟨rfl, b2⟩; have g2 := below_trans b1 b2; have l3 := below_cell g2 f3)
    | (go_at_call 54; refine (cf' _ g2).mono ?_; rintro e w3 ⟨rfl, b3⟩; have m3 := below_cell b3 l3; have g3 := below_trans g2 b3)
    | (go_at_call 13; refine (cc _ g3).mono ?_; rintro e w4 ⟨vT, rfl, oT, b4⟩; have g4 := below_trans g3 b4)
    | (go_at_call 45; refine (cd _ g4).mono ?_; rintro e w5 ⟨vD, rfl, oD, b5⟩; obtain ⟨dd, dcap, rfl⟩ := own_form oD))
  have g5 := below_trans g4 b5
  have st := stands_new w5 #[.string s, .slice dd d.length dcap] 65
  have bX := box_below w5 (.cells #[.string s, .slice dd d.length dcap] 65)
  have oD6 := World.ownsRow.alloc (own_le g4.size oD) (.cells #[.string s, .slice dd d.length dcap] 65)
  have oT4 := OwnTS.le g3.size oT
  obtain ⟨B, hB⟩ : ∃ B, w5.heap.size = B := ⟨_, rfl⟩
  have hBl : w4.heap.size ≤ B := by rw [← hB]; exact b5.size
  rw [hB] at st
  have g6 := below_trans g5 bX
  simp only [hB]
  generalize w5.alloc (.cells #[.string s, .slice dd d.length dcap] 65) = wb at st bX oD6 g6 ⊢
  have b46 := below_trans b5 bX
  obtain ⟨rows, q1, q2, q3', q4', q5⟩ := oT4
  have q3 := own_kept (T := 5) (Kept.below b46) (by decide) q3'
  have q4 := fun i hi => nodO_below b46 _ _ (q4' i hi)
  obtain ⟨gT, cT, rfl⟩ := own_some q3 (by omega)
  have hix := idx_node gT t.length cT k hk
  obtain ⟨vu, vp, vc, hrow, o1', oP, o3'⟩ := q4 k hk
  obtain ⟨vu4, vp4, vc4, hrow4, -, oP4, -⟩ := q4' k hk
  have hvp : vp4 = vp := by rw [hrow] at hrow4; simp at hrow4; exact hrow4.2.1.symm
  subst hvp
  have hpB : some B ≠ vp4.ownBlock := by
    intro e
    obtain ⟨cs4, o4⟩ := oP4.row
    have := (o4.lt B e.symm).2
    omega
  have T0 : Hid (∀ W, Below wb.heap.size wb W → W.ownsRow w.heap.size 56 5 (.slice (some ⟨gT, 0, none⟩) t.length cT) t.length rows.flatten) := fun W q => own_kept (T := 5) (Kept.below q) (by decide) q3
  have hcell : rows.flatten[k * 5 + 3]? = some vp4 := by rw [flat_get rows 5 k 3 q2 (by omega) (by decide), hrow]; rfl
  have TC : Hid (∀ W, Below wb.heap.size wb W → W.cell? ⟨gT, k * 5 + 3, none⟩ = some vp4) := fun W q => own_cell (T0.out W q) _ _ hcell
  have ST : Hid (∀ W, Below wb.heap.size wb W → Stands W B #[.string s, .slice dd d.length dcap] 65) := fun W q => st.below q
  have Z : Hid (∀ W, Stands W B #[.string s, .slice dd d.length dcap] 65 → W.cell? ⟨B, 0, none⟩ = some (.string s) ∧ W.cell? ⟨B, 1, none⟩ = some (.slice dd d.length dcap)) := fun W q => ⟨q.cell 0 _ rfl, q.cell 1 _ rfl⟩
  have hTB : gT ≠ B := by
    intro e
    subst e
    rcases q3.2 with ⟨hh, _⟩ | ⟨g', c', cur, hh, _, x1, _⟩
    · simp at hh
    · simp at hh
      obtain ⟨rfl, -⟩ := hh
      unfold Stands at st
      rw [st] at x1
      simp at x1
  have hrd : Hid (Below wb.heap.size wb wb.drew) := below_drewN (Below.refl _ _) 1
  have OP := hid oP
  have Q4 := hid q4
  have HC := hid hcell
  have OT := hid q3
  have OD := hid oD6
  obtain ⟨va4, vcap4, hva⟩ : ∃ a c, vp4 = .slice a t[k].2.2.2.1.length c := by obtain ⟨cs4, o4⟩ := oP4.row; exact own_form o4
  subst hva
  clear cd oP q3 q4 hcell cc cf' cw cn oD6 oD st oT q4' q3' oP4 hrow4 m3 l3 f0 f1 f2 f3 f4
  refine wp_region_held_drew (S := fun W => W.cell? ⟨B, 0, none⟩ = some (.string s) ∧ W.cell? ⟨B, 1, none⟩ = some (.slice dd d.length dcap)) (by kernel_rfl) (Z.out _ (ST.out _ hrd.out)) (fun hHeld => ?_)
  refine wpAnyH_take (i := 0) (v := ?v1) rfl (by kernel_rfl) (by kernel_rfl) (by kernel_rfl) (fun _ _ _ h => h) (Or.inl ⟨by rfl, ?h1⟩) (by assumption) ?r1
  case h1 => intro W hSw; (try dsimp only at hSw); obtain ⟨s0, s1⟩ := hSw; go_simp; try with_reducible rfl
  simp only [Act.put, List.setIfInBounds_toArray, List.set_cons_zero, List.set_cons_succ]
  refine wpAnyH_take (i := 1) (v := ?v2) rfl (by kernel_rfl) (by kernel_rfl) (by kernel_rfl) (fun _ _ _ h => h) (Or.inl ⟨by rfl, ?h2⟩) (by assumption) ?r2
  case h2 => intro W hSw; (try dsimp only at hSw); obtain ⟨s0, s1⟩ := hSw; go_simp; try with_reducible rfl
  simp only [Act.put, List.setIfInBounds_toArray, List.set_cons_zero, List.set_cons_succ]
  refine wpAnyH_take (i := 2) (v := ?v3) rfl (by kernel_rfl) (by kernel_rfl) (by kernel_rfl) (fun _ _ _ h => h) (Or.inl ⟨by rfl, ?h3⟩) (by assumption) ?r3
  case h3 => intro W hSw; (try dsimp only at hSw); obtain ⟨s0, s1⟩ := hSw; go_simp; try with_reducible rfl
  simp only [Act.put, List.setIfInBounds_toArray, List.set_cons_zero, List.set_cons_succ]
  refine wpAnyH_take (i := 3) (v := ?v4) rfl (by kernel_rfl) (by kernel_rfl) (by kernel_rfl) (fun _ _ _ h => h) (Or.inl ⟨by rfl, ?h4⟩) (by assumption) ?r4
  case h4 => intro W hSw; (try dsimp only at hSw); obtain ⟨s0, s1⟩ := hSw; go_simp; try with_reducible rfl
  simp only [Act.put, List.setIfInBounds_toArray, List.set_cons_zero, List.set_cons_succ]
  refine wpAnyH_take (i := 4) (v := ?v5) rfl (by kernel_rfl) (by kernel_rfl) (by kernel_rfl) (fun _ _ _ h => h) (Or.inl ⟨by rfl, ?h5⟩) (by assumption) ?r5
  case h5 => intro W hSw; (try dsimp only at hSw); obtain ⟨s0, s1⟩ := hSw; go_simp; try with_reducible rfl
  simp only [Act.put, List.setIfInBounds_toArray, List.set_cons_zero, List.set_cons_succ]
  refine wpAnyH_take (i := 5) (v := ?v6) rfl (by kernel_rfl) (by kernel_rfl) (by kernel_rfl) (fun _ _ _ h => h) (Or.inl ⟨by rfl, ?h6⟩) (by assumption) ?r6
  case h6 => intro W hSw; (try dsimp only at hSw); obtain ⟨s0, s1⟩ := hSw; go_simp; try with_reducible rfl
  simp only [Act.put, List.setIfInBounds_toArray, List.set_cons_zero, List.set_cons_succ]
  refine wpAnyH_take (i := 7) (v := ?v7) rfl (by kernel_rfl) (by kernel_rfl) (by kernel_rfl) (fun _ _ _ h => h) (Or.inl ⟨by rfl, ?h7⟩) (by assumption) ?r7
  case h7 => intro W hSw; (try dsimp only at hSw); obtain ⟨s0, s1⟩ := hSw; go_simp; try with_reducible rfl
  simp only [Act.put, List.setIfInBounds_toArray, List.set_cons_zero, List.set_cons_succ]
  refine wpAnyH_ready (rs := [6, 8]) (by kernel_rfl) (by simp) ?_
  refine AllReadyH.cons rfl (fun K hK => ?_) ?_
  · skip
    have zb := TC.out _ hrd.out
    go_simp
    clear zb
    refine hK.out _ _ (Z.out _ (ST.out _ hrd.out)) (fun hHeld => ?_)
    clear hK K
    refine wpAnyH_ready (rs := [8]) (by kernel_rfl) (by simp) ?_
    refine AllReadyH.cons rfl (fun K hK => ?_) AllReadyH.nil
    go_simp
    refine hK.out _ _ (Z.out _ (ST.out _ (hrd.out.alloc hrd.out.size (.cells #[.string s, .slice dd d.length dcap] 65)))) (fun hHeld => ?_)
    clear hK K
    have BX : Below wb.heap.size wb (wb.drew.alloc (.cells #[.string s, .slice dd d.length dcap] 65)) := (hrd.out.alloc hrd.out.size (.cells #[.string s, .slice dd d.length dcap] 65))
    have dX : (wb.drew.alloc (.cells #[.string s, .slice dd d.length dcap] 65)).ownsRow w.heap.size 5 1 (.slice dd d.length dcap) d.length (d.map (Value.int .u8)) := own_below OD.out BX
    obtain ⟨prows, h1, h2, h3, h4⟩ := OwnR.below OP.out BX (propO_below BX)
    have hx : propO w.heap.size (wb.drew.alloc (.cells #[.string s, .slice dd d.length dcap] 65)) [Value.string s, .slice dd d.length dcap] (L s, d) := ⟨_, by rw [show strOfNums (L s) = s from nums_LB s], dX⟩
    refine wpAnyH_ready (rs := [9]) (by kernel_rfl) (by simp) ?_
    refine AllReadyH.cons rfl (fun K hK => ?_) AllReadyH.nil
    refine step_append_rows rfl _ _ 54 rfl w.heap.size 65 i9 _ 2 40 Tryd.underlying54 hi9 hz9 hz8 hz7 rfl (by decide) _ t[k].2.2.2.1.length _ rfl h3 _ [[Value.string s, .slice dd d.length dcap]] rfl (slc_one wb.drew [Value.string s, .slice dd d.length dcap] 65 2 rfl) (one2 s dd d.length dcap) (by unfold maxLen; simp only [List.length_singleton]; omega) (by simp only [List.length_singleton]; omega) (below_trans g6 BX).size ?_
    intro v9 w9 ho9 hg9
    obtain ⟨a9, c9, rfl⟩ := own_form ho9
    have k9 := Kept.own h3 hg9
    have oP9 := hid (OwnR.snoc (propO_apt (by decide)) h1 h2 h3 h4 rfl hx (by simpa using ho9) hg9)
    have b9 : Hid (Below w.heap.size w w9) := below_grown (below_trans g6 BX) hg9 (fun k hk => (h3.lt k hk).1)
    have oT9 := own_kept k9 (by decide) (T0.out _ BX)
    have y1 := own_cell oT9 (k * 5 + 3) _ HC.out
    have y2 := oT9.frozenAt (k * 5 + 3)
    have st9 := hid (Stands.grown (ST.out _ BX) hg9 hpB)
    have fin := hid (t8_put q1 q2 (T0.out _ BX) (fun i hi => nodO_below BX _ _ (Q4.out i hi)) q5 hk hrow hg9 k9 oP9.out)
    have bfin : Hid (Below w.heap.size w _) := below_set b9.out gT (k * 5 + 3) (.slice a9 (t[k].2.2.2.1.length + [[Value.string s, .slice dd d.length dcap]].length) c9) (OT.out.lt gT rfl).1
    refine hK.out _ _ (Z.out _ st9.out) (fun hHeld => ?_)
    clear hK K
    clear k9 h1 h2 h3 h4 hx dX ho9 hg9 BX oT9
    refine wpAnyH_take (i := 10) (v := ?v8) rfl (by kernel_rfl) (by kernel_rfl) (by kernel_rfl) (fun _ _ _ h => h) (Or.inl ⟨by rfl, ?h8⟩) (by assumption) ?r8
    case h8 => intro W hSw; (try dsimp only at hSw); obtain ⟨s0, s1⟩ := hSw; go_simp; try with_reducible rfl
    simp only [Act.put, List.setIfInBounds_toArray, List.set_cons_zero, List.set_cons_succ]
    refine wpAnyH_take (i := 11) (v := ?v9) rfl (by kernel_rfl) (by kernel_rfl) (by kernel_rfl) (fun _ _ _ h => h) (Or.inl ⟨by rfl, ?h9⟩) (by assumption) ?r9
    case h9 => intro W hSw; (try dsimp only at hSw); obtain ⟨s0, s1⟩ := hSw; go_simp; try with_reducible rfl
    simp only [Act.put, List.setIfInBounds_toArray, List.set_cons_zero, List.set_cons_succ]
    refine wpAnyH_ready (rs := [12]) (by kernel_rfl) (by simp) ?_
    refine AllReadyH.cons rfl (fun K hK => ?_) AllReadyH.nil
    go_simp
    refine hK.out _ _ (Z.out _ (st9.out.other _ _ (fun e => hTB e.symm))) (fun hHeld => ?_)
    clear hK K
    refine wpAnyH_done (by kernel_rfl) ?_ _
    clear y1 y2
    go_wp2_with fail
    go_ret2
    exact ⟨_, rfl, ownT8_read fin.out, bfin.out⟩
  · refine AllReadyH.cons rfl (fun K hK => ?_) AllReadyH.nil
    go_simp
    refine hK.out _ _ (Z.out _ (ST.out _ (hrd.out.alloc hrd.out.size (.cells #[.string s, .slice dd d.length dcap] 65)))) (fun hHeld => ?_)
    clear hK K
    refine wpAnyH_ready (rs := [6]) (by kernel_rfl) (by simp) ?_
    refine AllReadyH.cons rfl (fun K hK => ?_) AllReadyH.nil
    have zb := TC.out (wb.alloc (.cells #[.string s, .slice dd d.length dcap] 65)) ((Below.refl _ wb).alloc (Nat.le_refl _) _)
    go_simp
    clear zb
    refine hK.out _ _ (Z.out _ (ST.out _ (hrd.out.alloc hrd.out.size (.cells #[.string s, .slice dd d.length dcap] 65)))) (fun hHeld => ?_)
    clear hK K
    have BX : Below wb.heap.size wb (wb.drew.alloc (.cells #[.string s, .slice dd d.length dcap] 65)) := (hrd.out.alloc hrd.out.size (.cells #[.string s, .slice dd d.length dcap] 65))
    have dX : (wb.drew.alloc (.cells #[.string s, .slice dd d.length dcap] 65)).ownsRow w.heap.size 5 1 (.slice dd d.length dcap) d.length (d.map (Value.int .u8)) := own_below OD.out BX
    obtain ⟨prows, h1, h2, h3, h4⟩ := OwnR.below OP.out BX (propO_below BX)
    have hx : propO w.heap.size (wb.drew.alloc (.cells #[.string s, .slice dd d.length dcap] 65)) [Value.string s, .slice dd d.length dcap] (L s, d) := ⟨_, by rw [show strOfNums (L s) = s from nums_LB s], dX⟩
    refine wpAnyH_ready (rs := [9]) (by kernel_rfl) (by simp) ?_
    refine AllReadyH.cons rfl (fun K hK => ?_) AllReadyH.nil
    refine step_append_rows rfl _ _ 54 rfl w.heap.size 65 i9 _ 2 40 Tryd.underlying54 hi9 hz9 hz8 hz7 rfl (by decide) _ t[k].2.2.2.1.length _ rfl h3 _ [[Value.string s, .slice dd d.length dcap]] rfl (slc_one wb.drew [Value.string s, .slice dd d.length dcap] 65 2 rfl) (one2 s dd d.length dcap) (by unfold maxLen; simp only [List.length_singleton]; omega) (by simp only [List.length_singleton]; omega) (below_trans g6 BX).size ?_
    intro v9 w9 ho9 hg9
    obtain ⟨a9, c9, rfl⟩ := own_form ho9
    have k9 := Kept.own h3 hg9
    have oP9 := hid (OwnR.snoc (propO_apt (by decide)) h1 h2 h3 h4 rfl hx (by simpa using ho9) hg9)
    have b9 : Hid (Below w.heap.size w w9) := below_grown (below_trans g6 BX) hg9 (fun k hk => (h3.lt k hk).1)
    have oT9 := own_kept k9 (by decide) (T0.out _ BX)
    have y1 := own_cell oT9 (k * 5 + 3) _ HC.out
    have y2 := oT9.frozenAt (k * 5 + 3)
    have st9 := hid (Stands.grown (ST.out _ BX) hg9 hpB)
    have fin := hid (t8_put q1 q2 (T0.out _ BX) (fun i hi => nodO_below BX _ _ (Q4.out i hi)) q5 hk hrow hg9 k9 oP9.out)
    have bfin : Hid (Below w.heap.size w _) := below_set b9.out gT (k * 5 + 3) (.slice a9 (t[k].2.2.2.1.length + [[Value.string s, .slice dd d.length dcap]].length) c9) (OT.out.lt gT rfl).1
    refine hK.out _ _ (Z.out _ st9.out) (fun hHeld => ?_)
    clear hK K
    clear k9 h1 h2 h3 h4 hx dX ho9 hg9 BX oT9
    refine wpAnyH_take (i := 10) (v := ?v10) rfl (by kernel_rfl) (by kernel_rfl) (by kernel_rfl) (fun _ _ _ h => h) (Or.inl ⟨by rfl, ?h10⟩) (by assumption) ?r10
    case h10 => intro W hSw; (try dsimp only at hSw); obtain ⟨s0, s1⟩ := hSw; go_simp; try with_reducible rfl
    simp only [Act.put, List.setIfInBounds_toArray, List.set_cons_zero, List.set_cons_succ]
    refine wpAnyH_take (i := 11) (v := ?v11) rfl (by kernel_rfl) (by kernel_rfl) (by kernel_rfl) (fun _ _ _ h => h) (Or.inl ⟨by rfl, ?h11⟩) (by assumption) ?r11
    case h11 => intro W hSw; (try dsimp only at hSw); obtain ⟨s0, s1⟩ := hSw; go_simp; try with_reducible rfl
    simp only [Act.put, List.setIfInBounds_toArray, List.set_cons_zero, List.set_cons_succ]
    refine wpAnyH_ready (rs := [12]) (by kernel_rfl) (by simp) ?_
    refine AllReadyH.cons rfl (fun K hK => ?_) AllReadyH.nil
    go_simp
    refine hK.out _ _ (Z.out _ (st9.out.other _ _ (fun e => hTB e.symm))) (fun hHeld => ?_)
    clear hK K
    refine wpAnyH_done (by kernel_rfl) ?_ _
    clear y1 y2
    go_wp2_with fail
    go_ret2
    exact ⟨_, rfl, ownT8_read fin.out, bfin.out⟩

theorem w_p8set' (v : Value) (t : List Nd) (n : Int) (s : ByteArray) (vd : Value) (d : List Int) (w : World) (h : RdT w v t) (hd : Rd .u8 w vd d) (bt : ∀ x ∈ t, bytN x) (ls : ∀ x ∈ t, lenN x) (hs : s.size ≤ maxLen) :
    Calls Tryd.prog 19 #[v, .int .i64 n, .string s, vd] w fun e w' => ∃ v1, e = .returned (.tuple #[v1, .int .i64 (setF t n (L s) d).2]) ∧ RdT w' v1 (setF t n (L s) d).1 ∧ Below w.heap.size w w' := by
  by_cases he : (setF t n (L s) d).2 = 0
  · have hw : wrgF t n = 0 := by
      by_cases hw : wrgF t n = 0
      · exact hw
      · unfold setF at he
        rw [if_pos hw] at he
        exact absurd he hw
    have hnm : nmF (L s) = true := by
      cases hnm : nmF (L s)
      · unfold setF at he
        rw [if_neg (by simpa using hw), if_pos hnm] at he
        cases he
      · rfl
    have h256 : ¬ 256 < d.length := by
      intro hc
      unfold setF at he
      rw [if_neg (by simpa using hw), if_neg (by simp [hnm]), if_pos hc] at he
      cases he
    obtain ⟨hf, h0, hl⟩ := wrg_ok hw
    obtain ⟨k, rfl⟩ : ∃ k : Nat, n = k := ⟨n.toNat, by omega⟩
    have hk : k < t.length := by simpa using hl
    have hpr : prpF t (k : Int) = t[k].2.2.2.1 := by
      have := prp_at (t := t) (n := (k : Int)) (by simpa using hk)
      simpa using this
    have hc : ¬ (pfF t[k].2.2.2.1 (L s) = none ∧ 16 ≤ t[k].2.2.2.1.length) := by
      intro hc
      unfold setF at he
      rw [if_neg (by simpa using hw), if_neg (by simp [hnm]), if_neg h256, hpr, if_pos hc] at he
      cases he
    have e : setF t (k : Int) (L s) d = (t.set k (t[k].1, t[k].2.1, t[k].2.2.1, setP t[k].2.2.2.1 (L s) d, t[k].2.2.2.2), 0) := by
      unfold setF
      rw [if_neg (by simpa using hw), if_neg (by simp [hnm]), if_neg h256, hpr, if_neg hc, put_at8 hk]
    rw [e]
    cases hp : pfF t[k].2.2.2.1 (L s) with
    | none =>
      have hsp : setP t[k].2.2.2.1 (L s) d = t[k].2.2.2.1 ++ [(L s, d)] := by unfold setP; rw [hp]
      rw [hsp]
      exact w_p8set_new v t k s vd d w h hd bt ls hs hw hnm (by omega) hk hp (fun h16 => hc ⟨hp, by omega⟩)
    | some j =>
      have hsp : setP t[k].2.2.2.1 (L s) d = t[k].2.2.2.1.set j (L s, d) := by unfold setP; rw [hp]
      rw [hsp]
      exact w_p8set_in v t k j s vd d w h hd bt ls hs hw hnm (by omega) hk hp
  · exact w_p8set_no v t n s vd d w h hd bt ls hs he

/-
  Drop of the document's answer for trees.
-/
/-- a stretch of an own row of pairs -/
theorem slc_part {w : World} {base : Nat} {e : TypeId} {g m cap : Nat} {rows : List (List Value)} (o : w.ownsRow base e 2 (.slice (some ⟨g, 0, none⟩) m cap) m rows.flatten) (hm : rows.length = m) (h2 : ∀ r ∈ rows, r.length = 2) (a n c : Nat) (hn : a + n ≤ m) (hc : n ≤ c) (hc2 : c ≤ maxLen) (hc0 : 0 < n) :
    SlC 2 w (.slice (some ⟨g, a * 2, none⟩) n c) ((rows.drop a).take n) := by
  have hl : ((rows.drop a).take n).length = n := by simp; omega
  refine Or.inr ⟨g, a * 2, c, by rw [hl], by omega, by omega, hc2, fun i hi => ?_⟩
  have hg : ((rows.drop a).take n).getD i [] = rows.getD (a + i) [] := by
    rw [List.getD_eq_getElem?_getD, List.getElem?_take, if_pos (by omega), List.getElem?_drop, ← List.getD_eq_getElem?_getD]
  rw [hg]
  have hr : (rows.getD (a + i) []).length = 2 := by
    rw [List.getD_eq_getElem?_getD, List.getElem?_eq_getElem (by omega)]
    exact h2 _ (List.getElem_mem _)
  refine ⟨hr, fun j hj => ?_⟩
  have hf := flat_get rows 2 (a + i) j h2 (by omega) hj
  have hs : ∃ u, (rows.getD (a + i) [])[j]? = some u := ⟨_, List.getElem?_eq_getElem (by omega)⟩
  obtain ⟨u, hu⟩ := hs
  rw [hu] at hf ⊢
  have := own_cell o ((a + i) * 2 + j) u hf
  rw [show a * 2 + i * 2 + j = (a + i) * 2 + j by omega]
  exact this
theorem cut_h (g m c j : Nat) (h : j ≤ c) : ∀ w, (Instr.slice 54 (.slice (some ⟨g, 0, none⟩) m c) none (some (.int .i64 (j : Int))) none).run Tryd.prog w = .ok (.slice (some ⟨g, 0, none⟩) j c) w := by
  intro w
  rw [run_slice_h w 54 (some ⟨g, 0, none⟩) m c uR .i64 (j : Int) (by omega) (by omega), zR]
  simp [Result.andThen, sliced, Addr.add]
theorem cut_l (g m c j : Nat) (h : j ≤ m) (hmc : m ≤ c) : ∃ a, (∀ w, (Instr.slice 54 (.slice (some ⟨g, 0, none⟩) m c) (some (.int .i64 (j : Int))) none none).run Tryd.prog w = .ok (.slice a (m - j) (c - j)) w) ∧ (j < m → a = some ⟨g, j * 2, none⟩) ∧ (a = none → c - j = 0) := by
  refine ⟨if c = j then some ⟨g, 0, none⟩ else some ((⟨g, 0, none⟩ : Addr).add (j * 2)), fun w => ?_, fun hj => ?_, fun hn => ?_⟩
  · rw [run_slice_l w 54 (some ⟨g, 0, none⟩) m c uR .i64 (j : Int) (by omega) (by omega), zR]
    simp [Result.andThen, sliced]
  · rw [if_neg (by omega)]
    unfold Addr.add
    split
    · rename_i hz; rw [hz]
    · simp
  · split at hn <;> cases hn
theorem part_get {rows : List (List Value)} {l : List Pp} {base : Nat} {w : World} (h1 : rows.length = l.length) (j : Nat) (hj : j < l.length) (h4 : ∀ i (h : i < l.length), propO base w (rows.getD i []) l[i]) : ∀ i (h : i < (l.take j ++ l.drop (j + 1)).length), propO base w ((rows.take j ++ rows.drop (j + 1)).getD i []) (l.take j ++ l.drop (j + 1))[i] := by
  intro i hi
  have hl : (l.take j ++ l.drop (j + 1)).length = l.length - 1 := by simp; omega
  by_cases hij : i < j
  · have e1 : (rows.take j ++ rows.drop (j + 1)).getD i [] = rows.getD i [] := by
      rw [List.getD_eq_getElem?_getD, List.getElem?_append_left (by rw [List.length_take]; omega), List.getElem?_take, if_pos hij, ← List.getD_eq_getElem?_getD]
    have e2 : (l.take j ++ l.drop (j + 1))[i] = l[i]'(by omega) := by
      rw [List.getElem_append_left (by rw [List.length_take]; omega), List.getElem_take]
    rw [e1, e2]
    exact h4 i (by omega)
  · have e1 : (rows.take j ++ rows.drop (j + 1)).getD i [] = rows.getD (i + 1) [] := by
      rw [List.getD_eq_getElem?_getD, List.getElem?_append_right (by rw [List.length_take]; omega), List.getElem?_drop, List.length_take, show j + 1 + (i - min j rows.length) = i + 1 by omega, ← List.getD_eq_getElem?_getD]
    have e2 : (l.take j ++ l.drop (j + 1))[i] = l[i + 1]'(by omega) := by
      rw [List.getElem_append_right (by rw [List.length_take]; omega), List.getElem_drop]
      congr 1
      rw [List.length_take]
      omega
    rw [e1, e2]
    exact h4 (i + 1) (by omega)
theorem prop_one {base : Nat} {w : World} {cs : List Value} {x : Pp} (h : propO base w cs x) : ∀ u ∈ cs, u.oneCell' = true := by
  obtain ⟨vd, rfl, o⟩ := h
  obtain ⟨a, c, rfl⟩ := own_form o
  intro u hu
  simp at hu
  rcases hu with rfl | rfl <;> rfl

set_option maxHeartbeats 4000000 in
set_option maxRecDepth 100000 in
theorem w_r8drop_ok (v : Value) (t : List Nd) (k j : Nat) (s : ByteArray) (w : World) (h : RdT w v t) (bt : ∀ x ∈ t, bytN x) (ls : ∀ x ∈ t, lenN x) (hw : wrgF t (k : Int) = 0) (hk : k < t.length) (hp : pfF t[k].2.2.2.1 (L s) = some j) :
    Calls Tryd.prog 22 #[v, .int .i64 k, .string s] w fun e w' => ∃ v1, e = .returned (.tuple #[v1, .int .i64 0]) ∧ OwnT8 w.heap.size w' v1 (t.set k (t[k].1, t[k].2.1, t[k].2.2.1, drpP t[k].2.2.2.1 j, t[k].2.2.2.2)) ∧ Below w.heap.size w w' := by
  obtain ⟨i9, hi9, hz9, hz8, hz7⟩ := info_parts infoProp
  have cw := w_r8wrong v t k w h bt ls
  obtain ⟨hf, h0, hl⟩ := wrg_ok hw
  obtain ⟨hl32, hsz⟩ := frm_siz hf
  obtain ⟨p16, pok⟩ := frm_props hf hl
  rw [hw] at cw
  obtain ⟨b1, o1, nm, u1, p1, c1, r1, f0, f1, f2, f3, f4, e1, hu1, hp1, hc1⟩ := nod_at h k hk
  obtain ⟨pa, pq, rfl⟩ := slr_slice hp1
  have hpr : prpF t (k : Int) = t[k].2.2.2.1 := by
    have := prp_at (t := t) (n := (k : Int)) (by simpa using hk)
    simpa using this
  rw [hpr] at p16
  have cf := fun W (g : Below w.heap.size w W) => w_r8find _ _ s W (hp1.below g (propR_below g)) (fun x hx => ((bt _ (List.getElem_mem hk)).2 x hx).1)
  obtain ⟨hj, _, _⟩ := pf_some hp
  rw [hp] at cf
  have cf' : ∀ W, Below w.heap.size w W → Calls Tryd.prog 41 #[.slice pa t[k].2.2.2.1.length pq, .string s] W fun e w' => e = .returned (.int .i64 (j : Int)) ∧ w' = W := cf
  have cc := fun w' (g : Below w.heap.size w w') => w_r8copy v t w' (h.below g) (by omega) hsz
  have hj2 : ¬ (j : Int) < 0 := by omega
  have hj3 : (0 : Int) ≤ j := by omega
  clear cf hw hf hpr pok
  go_enter Tryd.func22, Tryd.ntmps22
  go_wp2_with (first
    | (go_at_call 52; refine cw.mono ?_; rintro e w1 ⟨rfl, b1⟩; have l3 := below_cell b1 f3)
    | (go_at_call 41; refine (cf' _ b1).mono ?_; rintro e w3 ⟨rfl, hq⟩; obtain rfl := hq.symm)
    | (go_at_call 16; refine (cc _ b1).mono ?_; rintro e w4 ⟨vT, rfl, oT, b4⟩; refine Hid.out ?_))
  have g4 := below_trans b1 b4
  obtain ⟨rows, q1, q2, q3, q4, q5⟩ := OwnTS.le b1.size oT
  obtain ⟨gT, cT, rfl⟩ := own_some q3 (by omega)
  obtain ⟨vu, vp, vc, hrow, o1', o2', o3'⟩ := q4 k hk
  obtain ⟨prows, z1, z2, z3, z4⟩ := o2'
  obtain ⟨gP, cP, rfl⟩ := own_some z3 (by omega)
  have hcP : t[k].2.2.2.1.length ≤ cP ∧ cP ≤ maxLen := by
    rcases z3.2 with ⟨hh, _⟩ | ⟨g', c', cur, hh, _, _, hc1, hc2, _⟩
    · simp at hh
    · simp at hh
      obtain ⟨rfl, rfl⟩ := hh
      exact ⟨hc1, hc2⟩
  have hix := idx_node gT t.length cT k hk
  have hcell : rows.flatten[k * 5 + 3]? = some (.slice (some ⟨gP, 0, none⟩) t[k].2.2.2.1.length cP) := by rw [flat_get rows 5 k 3 q2 (by omega) (by decide), hrow]; rfl
  have tc := own_cell q3 _ _ hcell
  have hch := cut_h gP t[k].2.2.2.1.length cP j (by omega)
  obtain ⟨al, hcl, hal, hal0⟩ := cut_l gP t[k].2.2.2.1.length cP (j + 1) (by omega) hcP.1
  rw [show ((j + 1 : Nat) : Int) = (j : Int) + 1 by omega] at hcl
  have s1 : SlC 2 w4 (.slice (some ⟨gP, 0, none⟩) j cP) (prows.take j) := by
    rcases Nat.eq_zero_or_pos j with rfl | hj0
    · exact Or.inl ⟨some ⟨gP, 0, none⟩, cP, rfl, (fun h => by cases h), by simp⟩
    · have := slc_part z3 z1 z2 0 j cP (by omega) (by omega) hcP.2 hj0
      simpa using this
  have s2 : ∀ W, Below w4.heap.size w4 W → SlC 2 W (.slice al (t[k].2.2.2.1.length - (j + 1)) (cP - (j + 1))) (prows.drop (j + 1)) := by
    intro W g
    rcases Nat.eq_zero_or_pos (t[k].2.2.2.1.length - (j + 1)) with hz | hz
    · rw [hz]
      exact Or.inl ⟨al, cP - (j + 1), rfl, hal0, List.drop_of_length_le (by omega)⟩
    · rw [hal (by omega)]
      have := slc_part (own_kept (T := 5) (Kept.below g) (by decide) z3) z1 z2 (j + 1) (t[k].2.2.2.1.length - (j + 1)) (cP - (j + 1)) (by omega) (by omega) (by omega) hz
      rwa [List.take_of_length_le (by simp; omega)] at this
  have one : ∀ r ∈ prows, ∀ u ∈ r, u.oneCell' = true := by
    intro r hr
    obtain ⟨i, hi, rfl⟩ := List.getElem_of_mem hr
    have := prop_one (z4 i (by omega))
    rwa [List.getD_eq_getElem?_getD, List.getElem?_eq_getElem hi] at this
  have S2 := hid s2
  have ONE := hid one
  have TC := hid tc
  have HC := hid hcell
  have l1 : (prows.take j).length = j := by rw [List.length_take]; omega
  have l2 : (prows.drop (j + 1)).length = t[k].2.2.2.1.length - (j + 1) := by rw [List.length_drop]; omega
  clear s2 one cc cf' cw hcell
  refine hid ?_
  go_wp2_with (first
    | (at_builtin; refine wpList_append_rows rfl _ _ 54 rfl w4.heap.size 65 i9 _ 2 40 Tryd.underlying54 hi9 hz9 hz8 hz7 rfl (by decide) _ _ _ rfl ho5 _ (prows.drop (j + 1)) rfl (S2.out _ b5) (fun r hr => ONE.out r (List.mem_of_mem_drop hr)) (by rw [l1, l2]; unfold maxLen; omega) (by rw [l1, l2]; omega) b5.size ?_; intro v6 w6 ho6 hg6; have b6 := below_grown b5 hg6 (fun k hk => (ho5.lt k hk).1); obtain ⟨a6, c6, rfl⟩ := own_form ho6; have y1 := below_cell b6 TC.out; have y2 := (own_kept (T := 5) (Kept.below b6) (by decide) q3).frozenAt (k * 5 + 3))
    | (at_builtin; refine wpList_append_rows rfl _ _ 54 rfl w4.heap.size 65 i9 _ 2 40 Tryd.underlying54 hi9 hz9 hz8 hz7 rfl (by decide) (.slice none 0 0) 0 [] rfl (World.ownsRow_nil _ _ _ _) _ (prows.take j) rfl s1 (fun r hr => ONE.out r (List.mem_of_mem_take hr)) (by rw [l1]; unfold maxLen; omega) (by rw [l1]; omega) (Nat.le_refl _) ?_; intro v5 w5 ho5 hg5; have b5 : Below w4.heap.size w4 w5 := ⟨hg5.os, hg5.tape, hg5.output, hg5.size, fun k hk => hg5.block k hk (by simp [Value.ownBlock])⟩; have x5 := below_cell b5 TC.out))
  go_ret2
  have hdl : (drpP t[k].2.2.2.1 j).length = j + (t[k].2.2.2.1.length - (j + 1)) := by unfold drpP; simp; omega
  have hp : OwnR 65 2 (propO w.heap.size) w.heap.size w6 (.slice a6 (j + (t[k].2.2.2.1.length - (j + 1))) c6) (drpP t[k].2.2.2.1 j) := by
    refine ⟨prows.take j ++ prows.drop (j + 1), by rw [List.length_append, l1, l2, hdl], fun r hr => ?_, ?_, part_get z1 j hj (fun i hi => propO_below b6 _ _ (z4 i hi))⟩
    · rcases List.mem_append.1 hr with hr | hr
      · exact z2 r (List.mem_of_mem_take hr)
      · exact z2 r (List.mem_of_mem_drop hr)
    · rw [hdl]
      have := own_le g4.size ho6
      simpa [l1, l2] using this
  have gr : w4.grownBy w6 (Value.slice (some ⟨gP, 0, none⟩) t[k].2.2.2.1.length cP).ownBlock := ⟨b6.os, b6.tape, b6.output, b6.size, fun k hk _ => b6.block k hk⟩
  exact ⟨_, rfl, t8_put q1 q2 q3 q4 q5 hk hrow gr (Kept.below b6) hp, below_set (below_trans g4 b6) gT _ _ (q3.lt gT rfl).1⟩

set_option maxHeartbeats 1000000 in
theorem w_r8drop (v : Value) (t : List Nd) (n : Int) (s : ByteArray) (w : World) (h : RdT w v t) (bt : ∀ x ∈ t, bytN x) (ls : ∀ x ∈ t, lenN x) :
    Calls Tryd.prog 22 #[v, .int .i64 n, .string s] w fun e w' => ∃ v1, e = .returned (.tuple #[v1, .int .i64 (drpF t n (L s)).2]) ∧ OwnT8 w.heap.size w' v1 (drpF t n (L s)).1 ∧ Below w.heap.size w w' := by
  have cw := w_r8wrong v t n w h bt ls
  by_cases hw : wrgF t n = 0
  · obtain ⟨hf, h0, hl⟩ := wrg_ok hw
    obtain ⟨k, rfl⟩ : ∃ k : Nat, n = k := ⟨n.toNat, by omega⟩
    have hk : k < t.length := by simpa using hl
    have hpr : prpF t (k : Int) = t[k].2.2.2.1 := by
      have := prp_at (t := t) (n := (k : Int)) (by simpa using hk)
      simpa using this
    cases hp : pfF t[k].2.2.2.1 (L s) with
    | none =>
      have e : drpF t (k : Int) (L s) = ([], 2) := by unfold drpF; rw [if_neg (by simpa using hw), hpr, hp]
      rw [e]
      rw [hw] at cw
      obtain ⟨b1, o1, nm, u1, p1, c1, r1, f0, f1, f2, f3, f4, e1, hu1, hp1, hc1⟩ := nod_at h k hk
      obtain ⟨pa, pq, rfl⟩ := slr_slice hp1
      have cf := fun W (g : Below w.heap.size w W) => w_r8find _ _ s W (hp1.below g (propR_below g)) (fun x hx => ((bt _ (List.getElem_mem hk)).2 x hx).1)
      rw [hp] at cf
      have cf' : ∀ W, Below w.heap.size w W → Calls Tryd.prog 41 #[.slice pa t[k].2.2.2.1.length pq, .string s] W fun e w' => e = .returned (.int .i64 (-1)) ∧ w' = W := cf
      clear e hp hpr hw hf cf
      go_enter Tryd.func22, Tryd.ntmps22
      go_wp2_with (first
        | (go_at_call 52; refine cw.mono ?_; rintro e w1 ⟨rfl, b1⟩; have l3 := below_cell b1 f3)
        | (go_at_call 41; refine (cf' _ b1).mono ?_; rintro e w3 ⟨rfl, hq⟩; obtain rfl := hq.symm))
      go_ret2
      exact ⟨_, rfl, OwnR.nil _ _ _ _ _, b1⟩
    | some j =>
      have e : drpF t (k : Int) (L s) = (t.set k (t[k].1, t[k].2.1, t[k].2.2.1, drpP t[k].2.2.2.1 j, t[k].2.2.2.2), 0) := by unfold drpF; rw [if_neg (by simpa using hw), hpr, hp]; simp only [put_at8 hk]
      rw [e]
      exact w_r8drop_ok v t k j s w h bt ls hw hk hp
  · have e : drpF t n (L s) = ([], wrgF t n) := by unfold drpF; rw [if_pos hw]
    rw [e]
    obtain ⟨E, hE⟩ : ∃ E, wrgF t n = E := ⟨_, rfl⟩
    rw [hE] at cw hw
    simp only [hE]
    have hb : (E != 0) = true := by simpa using hw
    clear e hE hw
    go_enter Tryd.func22, Tryd.ntmps22
    go_wp2_with (go_at_call 52; refine cw.mono ?_; rintro e q1 ⟨rfl, b1⟩)
    go_ret2
    exact ⟨_, rfl, OwnR.nil _ _ _ _ _, b1⟩

/-
  Rows of the call's own written at several cells, and cut short. No Go text in sight.
-/
/-- cells written one behind the other -/
def setL {α : Type} (cs : List α) : Nat → List α → List α
  | _, [] => cs
  | o, v :: r => setL (cs.set o v) (o + 1) r
theorem setL_len {α : Type} : ∀ (news : List α) (cs : List α) (o : Nat), (setL cs o news).length = cs.length
  | [], cs, o => rfl
  | v :: r, cs, o => by rw [setL, setL_len r]; simp
theorem setL_get {α : Type} : ∀ (news : List α) (cs : List α) (o : Nat), o + news.length ≤ cs.length → ∀ i, (setL cs o news)[i]? = if i < o then cs[i]? else if i < o + news.length then news[i - o]? else cs[i]?
  | [], cs, o, h, i => by simp only [setL, List.length_nil, Nat.add_zero]; split <;> (try split) <;> first | rfl | omega
  | v :: r, cs, o, h, i => by
    rw [setL, setL_get r (cs.set o v) (o + 1) (by simp at h ⊢; omega) i]
    simp only [List.length_cons] at h ⊢
    by_cases h1 : i < o
    · rw [if_pos (by omega), if_pos h1, List.getElem?_set_ne (by omega)]
    · rw [if_neg h1]
      by_cases h2 : i = o
      · subst h2
        rw [if_pos (by omega), if_pos (by omega), List.getElem?_set_self (by omega), Nat.sub_self]
        rfl
      · rw [if_neg (by omega)]
        by_cases h3 : i < o + (r.length + 1)
        · rw [if_pos (by omega), if_pos h3, show i - o = (i - (o + 1)) + 1 by omega]
          rfl
        · rw [if_neg (by omega), if_neg h3, List.getElem?_set_ne (by omega)]
theorem setL_eq {α : Type} (news cs : List α) (o : Nat) (h : o + news.length ≤ cs.length) : setL cs o news = cs.take o ++ news ++ cs.drop (o + news.length) := by
  apply List.ext_getElem?
  intro i
  rw [setL_get news cs o h]
  by_cases h1 : i < o
  · rw [if_pos h1, List.append_assoc, List.getElem?_append_left (by simp; omega), List.getElem?_take, if_pos h1]
  · rw [if_neg h1]
    by_cases h2 : i < o + news.length
    · rw [if_pos h2, List.getElem?_append_left (by simp; omega), List.getElem?_append_right (by simp; omega)]
      congr 1
      simp
      omega
    · rw [if_neg h2, List.getElem?_append_right (by simp; omega), List.getElem?_drop]
      congr 1
      simp
      omega
theorem own_setCells {base : Nat} {e : TypeId} {sz g n cap : Nat} : ∀ (news : List Value) (w : World) (cs : List Value) (o : Nat), w.ownsRow base e sz (.slice (some ⟨g, 0, none⟩) n cap) n cs →
    (w.setCells g o news).ownsRow base e sz (.slice (some ⟨g, 0, none⟩) n cap) n (setL cs o news) ∧ w.grownBy (w.setCells g o news) (some g)
  | [], w, cs, o, h => ⟨h, ⟨rfl, rfl, rfl, Nat.le_refl _, fun _ _ _ => rfl⟩⟩
  | v :: r, w, cs, o, h => by
    obtain ⟨h1, h2⟩ := h.stored o v
    obtain ⟨h3, h4⟩ := own_setCells r (w.setCell ⟨g, o, none⟩ v) (cs.set o v) (o + 1) h1
    exact ⟨h3, h4.os.trans h2.os, h4.tape.trans h2.tape, h4.output.trans h2.output, Nat.le_trans h2.size h4.size, fun k hk hne => (h4.block k (Nat.lt_of_lt_of_le hk h2.size) hne).trans (h2.block k hk hne)⟩
/-- the first ones of an own row -/
theorem own_take {w : World} {base : Nat} {e : TypeId} {sz g n cap : Nat} {cs : List Value} (h : w.ownsRow base e sz (.slice (some ⟨g, 0, none⟩) n cap) n cs) (m : Nat) (hm : m ≤ n) : w.ownsRow base e sz (.slice (some ⟨g, 0, none⟩) m cap) m (cs.take (m * sz)) := by
  obtain ⟨hl, h⟩ := h
  have hle : m * sz ≤ n * sz := Nat.mul_le_mul_right _ hm
  refine ⟨by rw [List.length_take]; omega, ?_⟩
  rcases h with ⟨h, _⟩ | ⟨g', cap', cur, he, hb, hg, hc, hx, hs, ht⟩
  · simp at h
  · simp at he
    obtain ⟨rfl, rfl⟩ := he
    refine Or.inr ⟨g, cap, cur, rfl, hb, hg, by omega, hx, hs, ?_⟩
    rw [← ht, List.take_take, Nat.min_eq_left hle]
theorem flat_take {α : Type} : ∀ (rows : List (List α)) (sz j : Nat), (∀ r ∈ rows, r.length = sz) → rows.flatten.take (j * sz) = (rows.take j).flatten
  | [], sz, j, h => by simp
  | r :: rows, sz, 0, h => by simp
  | r :: rows, sz, j + 1, h => by
    have hr := h r (by simp)
    have ih := flat_take rows sz j (fun x hx => h x (by simp [hx]))
    rw [List.flatten_cons, List.take_succ_cons, List.flatten_cons, List.take_append, hr, Nat.add_mul, Nat.one_mul, show j * sz + sz - sz = j * sz by omega, ih, List.take_of_length_le (by omega)]
theorem flat_drop {α : Type} : ∀ (rows : List (List α)) (sz j : Nat), (∀ r ∈ rows, r.length = sz) → rows.flatten.drop (j * sz) = (rows.drop j).flatten
  | [], sz, j, h => by simp
  | r :: rows, sz, 0, h => by simp
  | r :: rows, sz, j + 1, h => by
    have hr := h r (by simp)
    have ih := flat_drop rows sz j (fun x hx => h x (by simp [hx]))
    rw [List.flatten_cons, List.drop_succ_cons, List.drop_append, hr, Nat.add_mul, Nat.one_mul, show j * sz + sz - sz = j * sz by omega, ih, List.drop_of_length_le (by omega), List.nil_append]

end Go.Proofs.YtkdaimagdmbnfaaDoor
