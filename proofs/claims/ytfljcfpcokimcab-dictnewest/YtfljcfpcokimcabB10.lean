/-
  Texts of one proof, laid one behind the other: Tf7 Dp7 Rd8 Rd9 Rda Rdd.
-/
import Derived.Test.YtfljcfpcokimcabB9
import Derived.Deep.RegionHeld
import Derived.Deep.Cut
import Derived.Deep.CutRange
import Derived.Deep.DeepCutAuto
namespace Go.Proofs.Ytfljcfpcokimcab
open Go.ChangeShapes Go.WideShapes Go.ChangeAt Go.RowKit
set_option linter.unusedVariables false
set_option linter.unusedSimpArgs false

/-
  Package tree's Copy.
-/
theorem gb_refl (w : World) (r : Option Nat) : w.grownBy w r := ⟨rfl, rfl, rfl, Nat.le_refl _, fun _ _ _ => rfl⟩
theorem gb_below {a b c : World} {r : Option Nat} (h : a.grownBy b r) (g : Below b.heap.size b c) : a.grownBy c r :=
  ⟨g.os.trans h.os, g.tape.trans h.tape, g.output.trans h.output, Nat.le_trans h.size g.size, fun k hk hne => (g.block k (Nat.lt_of_lt_of_le hk h.size)).trans (h.block k hk hne)⟩
theorem gb_set {a b : World} {g : Nat} (h : a.grownBy b (some g)) (j : Nat) (u : Value) : a.grownBy (b.setCell ⟨g, j, none⟩ u) (some g) :=
  ⟨h.os, h.tape, h.output, by simpa [World.setCell] using h.size, fun k hk hne => (Below.heap_setCell _ _ _ k (fun e => hne (by rw [e]))).trans (h.block k hk hne)⟩
theorem gb_new {a b : World} {r : Option Nat} {g : Nat} (h : a.grownBy b r) (hg : a.heap.size ≤ g) (j : Nat) (u : Value) : a.grownBy (b.setCell ⟨g, j, none⟩ u) r :=
  ⟨h.os, h.tape, h.output, by simpa [World.setCell] using h.size, fun k hk hne => (Below.heap_setCell _ _ _ k (fun e => by have e2 : k = g := e; omega)).trans (h.block k hk hne)⟩
/-- the row of devices that a copy works on -/
def OwA (base g n cap : Nat) (w : World) (rs : List (List Value)) : Prop := (∀ r ∈ rs, r.length = 5) ∧ rs.length = n ∧ w.ownsRow base 70 5 (.slice (some ⟨g, 0, none⟩) n cap) n rs.flatten
theorem OwA.cell {base g n cap : Nat} {w : World} {rs : List (List Value)} (h : OwA base g n cap w rs) (i j : Nat) (hi : i < n) (hj : j < 5) (u : Value) (hu : (rs.getD i [])[j]? = some u) : w.cell? ⟨g, i * 5 + j, none⟩ = some u :=
  own_cell h.2.2 (i * 5 + j) u (by rw [flat_get rs 5 i j h.1 (by rw [h.2.1]; exact hi) hj]; exact hu)
theorem OwA.free {base g n cap : Nat} {w : World} {rs : List (List Value)} (h : OwA base g n cap w rs) (j : Nat) : w.frozen? ⟨g, j, none⟩ = false := h.2.2.frozenAt j
theorem OwA.kept {base g n cap : Nat} {T : TypeId} {w w' : World} {rs : List (List Value)} (h : OwA base g n cap w rs) (k : Kept T w w') (hne : ¬ 70 = T) : OwA base g n cap w' rs := ⟨h.1, h.2.1, own_kept k hne h.2.2⟩
theorem OwA.below {base g n cap : Nat} {w w' : World} {rs : List (List Value)} (h : OwA base g n cap w rs) (k : Below w.heap.size w w') : OwA base g n cap w' rs := h.kept (T := 5) (Kept.below k) (by decide)
theorem set_getD {α : Type} (rs : List (List α)) (i : Nat) (r : List α) (h : i < rs.length) : (rs.set i r).getD i [] = r := by
  rw [List.getD_eq_getElem?_getD, List.getElem?_set_self h]
  rfl
theorem OwA.set {base g n cap : Nat} {w : World} {rs : List (List Value)} {i : Nat} {r : List Value} (h : OwA base g n cap w (rs.set i r)) (hi : i < n) (j : Nat) (hj : j < 5) (u : Value) : OwA base g n cap (w.setCell ⟨g, i * 5 + j, none⟩ u) (rs.set i (r.set j u)) ∧ Kept 70 w (w.setCell ⟨g, i * 5 + j, none⟩ u) := by
  obtain ⟨h1, h2, h3⟩ := h
  have hl : i < (rs.set i r).length := by rw [h2]; exact hi
  have hl2 : i < rs.length := by simpa using hl
  obtain ⟨s1, s2⟩ := h3.stored (i * 5 + j) u
  rw [flat_set (rs.set i r) 5 i j u h1 hl hj, set_getD rs i r hl2, List.set_set] at s1
  refine ⟨⟨fun q hq => ?_, by simpa using h2, s1⟩, Kept.own (v := .slice (some ⟨g, 0, none⟩) n cap) h3 s2⟩
  obtain ⟨m, hm, rfl⟩ := List.getElem_of_mem hq
  rw [List.getElem_set]
  split
  · rw [List.length_set]
    exact h1 r (List.mem_iff_getElem.2 ⟨i, hl, by simp⟩)
  · rename_i e
    have e2 : (rs.set i r)[m]'(by simpa using hm) = rs[m]'(by simpa using hm) := by rw [List.getElem_set, if_neg e]
    rw [← e2]
    exact h1 _ (List.getElem_mem _)
/-- the row of properties that a copy works on: those ahead of k are the call's own, the others as they were -/
def PrI (base gb : Nat) (wo : World) (vP : Value) (Ps : List Pp) (prow : List (List Value)) (k : Nat) (w : World) : Prop :=
  ∃ prs : List (List Value), prs.length = Ps.length ∧ (∀ r ∈ prs, r.length = 2) ∧ w.ownsRow gb 91 2 vP Ps.length prs.flatten ∧ (∀ j (h : j < Ps.length), j < k → propO gb w (prs.getD j []) Ps[j]) ∧ (∀ j, k ≤ j → prs.getD j [] = prow.getD j [])
/-- the devices that a copy works on: those ahead of i are the call's own, the others as they were -/
def NdI (base g cap : Nat) (t : List Nd) (rows : List (List Value)) (i : Nat) (w : World) : Prop :=
  ∃ rs : List (List Value), OwA base g t.length cap w rs ∧ (∀ j (h : j < t.length), j < i → nodO base w (rs.getD j []) t[j]) ∧ SepR (rs.take i) ∧ (∀ j, i ≤ j → rs.getD j [] = rows.getD j [])

set_option maxHeartbeats 4000000 in
set_option maxRecDepth 100000 in
theorem w_p8copyS (v : Value) (t : List Nd) (w : World) (h : RdT w v t) (hz : t.length * 96 ≤ 140737488355328) (hs : ∀ x ∈ t, sizN x) :
    Calls Try.prog 34 #[v] w fun e w' => ∃ v1, e = .returned v1 ∧ OwnTS w.heap.size w' v1 t ∧ Below w.heap.size w w' := by
  obtain ⟨rows, hr1, hr2, hr3⟩ := h
  have hone : ∀ r ∈ rows, ∀ u ∈ r, u.oneCell' = true := by
    intro r hr u hu
    obtain ⟨i, hi, rfl⟩ := List.getElem_of_mem hr
    obtain ⟨vu, vp, vc, e, g1, g2, g3⟩ := hr3 i (by omega)
    rw [List.getD_eq_getElem?_getD, List.getElem?_eq_getElem hi] at e
    simp only [Option.getD_some] at e
    rw [e] at hu
    obtain ⟨a1, c1, rfl⟩ := rd_slice g1
    obtain ⟨a2, c2, rfl⟩ := slr_slice g2
    obtain ⟨a3, c3, rfl⟩ := rd_slice g3
    simp at hu
    rcases hu with rfl | rfl | rfl | rfl | rfl <;> rfl
  have cN := w_pcloneN v rows w hr1 hone (by rw [hr2]; exact hz)
  rw [hr2] at cN
  by_cases h0 : t.length = 0
  · have ht : t = [] := List.eq_nil_of_length_eq_zero h0
    subst ht
    have hn : rows = [] := List.eq_nil_of_length_eq_zero (by simpa using hr2)
    subst hn
    go_enter Try.func34, Try.ntmps34
    go_wp2_with (go_at_call 46; refine cN.mono ?_; rintro e w1 ⟨v1, rfl, o1, b1⟩; obtain ⟨ao, ac, rfl⟩ := own_form o1)
    go_rounds 1
    go_ret
    exact ⟨_, rfl, ⟨[], rfl, by simp, o1, fun i hi => by simp at hi, fun i j g h1 h2 => by simp at h2⟩, b1⟩
  · have hrl : ∀ r ∈ rows, r.length = 5 := by
      intro r hr
      obtain ⟨i, hi, rfl⟩ := List.getElem_of_mem hr
      obtain ⟨vu, vp, vc, e, g1, g2, g3⟩ := hr3 i (by omega)
      rw [List.getD_eq_getElem?_getD, List.getElem?_eq_getElem hi] at e
      simp only [Option.getD_some] at e
      rw [e]
      rfl
    have ht0 : 0 < t.length := by omega
    have hzI : (t.length : Int) * 96 ≤ 140737488355328 := by omega
    clear h0 hr1 hone
    go_enter Try.func34, Try.ntmps34
    go_wp2_with (go_at_call 46; refine cN.mono ?_; rintro e w1 ⟨v1, rfl, o1, b1⟩; obtain ⟨g, cap, rfl⟩ := own_some o1 ht0)
    have hgb := (o1.lt g rfl).1
    have N0 : NdI w.heap.size g cap t rows 0 w1 := ⟨rows, ⟨hrl, hr2, o1⟩, fun j h hj => by omega, fun i j g h1 h2 => by simp at h2, fun j hj => rfl⟩
    clear cN o1 hrl hr2
    go_loopw [11] (fun I wx => ∃ (i : Nat), (i : Int) ≤ t.length ∧ I = .int .i64 i ∧ NdI w.heap.size g cap t rows i wx ∧ Below w.heap.size w wx) (fun I _ => (t.length - intOf I).toNat)
    case atStart => exact ⟨0, by omega, rfl, N0, b1⟩
    case round =>
      clear N0 b1
      obtain ⟨i, hi, rfl, hN, hb⟩ := hrel
      by_cases hlt : (i : Int) < t.length
      · have hil : i < t.length := by omega
        obtain ⟨rs, hA, hno, hsep, hrest⟩ := hN
        obtain ⟨W0, rfl⟩ : ∃ W0, W0 = wr := ⟨_, rfl⟩
        obtain ⟨vu, vp, vc, hrow, ru, rp, rc⟩ := hr3 i hil
        have hri := hrest i (Nat.le_refl _)
        rw [hrow] at hri
        obtain ⟨s1, s2, s3, s4⟩ := hs _ (List.getElem_mem hil)
        have rpR := rp
        obtain ⟨prow, hp1, hp2, hp3⟩ := rp
        have hpo : ∀ r ∈ prow, ∀ u ∈ r, u.oneCell' = true := by
          intro r hr u hu
          obtain ⟨m, hm, rfl⟩ := List.getElem_of_mem hr
          obtain ⟨vd, e, g1⟩ := hp3 m (by omega)
          rw [List.getD_eq_getElem?_getD, List.getElem?_eq_getElem hm] at e
          simp only [Option.getD_some] at e
          rw [e] at hu
          obtain ⟨a1, c1, rfl⟩ := rd_slice g1
          simp at hu
          rcases hu with rfl | rfl <;> rfl
        have hpl : ∀ r ∈ prow, r.length = 2 := by
          intro r hr
          obtain ⟨m, hm, rfl⟩ := List.getElem_of_mem hr
          obtain ⟨vd, e, g1⟩ := hp3 m (by omega)
          rw [List.getD_eq_getElem?_getD, List.getElem?_eq_getElem hm] at e
          simp only [Option.getD_some] at e
          rw [e]
          rfl
        obtain ⟨ua, uq, rfl⟩ := rd_slice ru
        obtain ⟨pa, pq, rfl⟩ := slr_slice rpR
        obtain ⟨ca, cq, rfl⟩ := rd_slice rc
        obtain ⟨P, hP⟩ : ∃ P, t[i].2.2.1 = P := ⟨_, rfl⟩
        obtain ⟨nm, hnm⟩ : ∃ nm, strOfNums t[i].1 = nm := ⟨_, rfl⟩
        obtain ⟨Ps, hPs⟩ : ∃ Ps, t[i].2.2.2.1 = Ps := ⟨_, rfl⟩
        rw [hP, hnm] at hri
        rw [hPs] at hri hp2 s3 s4 hp1
        simp only [hPs] at hp3
        have hrsl : i < rs.length := by rw [hA.2.1]; exact hil
        have hset : rs.set i [.string nm, .slice ua t[i].2.1.length uq, .int .i64 P, .slice pa Ps.length pq, .slice ca t[i].2.2.2.2.length cq] = rs := by
          rw [← hri, List.getD_eq_getElem?_getD, List.getElem?_eq_getElem hrsl]
          simp
        have hA0 : OwA w.heap.size g t.length cap W0 (rs.set i [.string nm, .slice ua t[i].2.1.length uq, .int .i64 P, .slice pa Ps.length pq, .slice ca t[i].2.2.2.2.length cq]) := by rw [hset]; exact hA
        have HA := hid hA
        have cu := fun W (g : Below w.heap.size w W) => w_pclone32 _ _ W (ru.below g) s1
        have cc := fun W (g : Below w.heap.size w W) => w_pclone32 _ _ W (rc.below g) s2
        have cp := fun W (g : Below w.heap.size w W) => w_pcloneP _ prow W (hp1.below g) hpo (by rw [hp2]; exact s3)
        simp only [hp2] at cp
        have hix := idx_node g t.length cap i hil
        have c1 := hA0.cell i 1 hil (by decide) _ (by rw [set_getD rs i _ hrsl]; rfl)
        have hPm : (Ps.length : Int) * 40 ≤ 140737488355328 := by omega
        clear hset hri hA hrow s1 s2 s3
        go_upto_region 7 with (go_at_call 30; refine (cu _ hb).mono ?_; rintro e w2 ⟨vU, rfl, oU, bU⟩; obtain ⟨uo, uc, rfl⟩ := own_form oU; have y1 := below_cell bU c1; have y2 := (hA0.below bU).free (i * 5 + 1))
        obtain ⟨hA3, k3⟩ := (hA0.below bU).set hil 1 (by decide) (.slice uo t[i].2.1.length uc)
        have hA3 : OwA w.heap.size g t.length cap _ (rs.set i [.string nm, .slice uo t[i].2.1.length uc, .int .i64 P, .slice pa Ps.length pq, .slice ca t[i].2.2.2.2.length cq]) := hA3
        have oU3 := own_kept k3 (by decide) oU
        have B3 := below_set (below_trans hb bU) g (i * 5 + 1) (.slice uo t[i].2.1.length uc) hgb
        have G3 := gb_set (gb_below (gb_refl W0 (some g)) bU) (i * 5 + 1) (.slice uo t[i].2.1.length uc)
        generalize w2.setCell ⟨g, i * 5 + 1, none⟩ (.slice uo t[i].2.1.length uc) = w3 at hA3 oU3 B3 G3 k3 ⊢
        have c4 := hA3.cell i 4 hil (by decide) _ (by rw [set_getD rs i _ hrsl]; rfl)
        clear y1 y2 c1 hA0 oU bU k3 cu
        go_upto_region 8 with (go_at_call 30; refine (cc _ B3).mono ?_; rintro e w4 ⟨vC, rfl, oC, bC⟩; obtain ⟨co, ccap, rfl⟩ := own_form oC; have y1 := below_cell bC c4; have y2 := (hA3.below bC).free (i * 5 + 4))
        obtain ⟨hA5, k5⟩ := (hA3.below bC).set hil 4 (by decide) (.slice co t[i].2.2.2.2.length ccap)
        have hA5 : OwA w.heap.size g t.length cap _ (rs.set i [.string nm, .slice uo t[i].2.1.length uc, .int .i64 P, .slice pa Ps.length pq, .slice co t[i].2.2.2.2.length ccap]) := hA5
        have oC5 := own_le G3.size (own_kept k5 (by decide) oC)
        have oU5 := own_kept k5 (by decide) (own_below oU3 bC)
        have B5 := below_set (below_trans B3 bC) g (i * 5 + 4) (.slice co t[i].2.2.2.2.length ccap) hgb
        have G5 := gb_set (gb_below G3 bC) (i * 5 + 4) (.slice co t[i].2.2.2.2.length ccap)
        generalize w4.setCell ⟨g, i * 5 + 4, none⟩ (.slice co t[i].2.2.2.2.length ccap) = w5 at hA5 oC5 oU5 B5 G5 k5 ⊢
        have c3 := hA5.cell i 3 hil (by decide) _ (by rw [set_getD rs i _ hrsl]; rfl)
        clear y1 y2 c4 hA3 oC oU3 bC k5 cc B3 G3
        go_upto_region 9 with (go_at_call 47; refine (cp _ B5).mono ?_; rintro e w6 ⟨vP, rfl, oP, bP⟩; obtain ⟨po, pcap, rfl⟩ := own_form oP; have y1 := below_cell bP c3; have y2 := (hA5.below bP).free (i * 5 + 3))
        obtain ⟨hA7, k7⟩ := (hA5.below bP).set hil 3 (by decide) (.slice po Ps.length pcap)
        have hA7 : OwA w.heap.size g t.length cap _ (rs.set i [.string nm, .slice uo t[i].2.1.length uc, .int .i64 P, .slice po Ps.length pcap, .slice co t[i].2.2.2.2.length ccap]) := hA7
        have oP7 := own_le G5.size (own_kept k7 (by decide) oP)
        have oC7 := own_kept k7 (by decide) (own_below oC5 bP)
        have oU7 := own_kept k7 (by decide) (own_below oU5 bP)
        have B7 := below_set (below_trans B5 bP) g (i * 5 + 3) (.slice po Ps.length pcap) hgb
        have G7 := gb_set (gb_below G5 bP) (i * 5 + 3) (.slice po Ps.length pcap)
        generalize w6.setCell ⟨g, i * 5 + 3, none⟩ (.slice po Ps.length pcap) = w7 at hA7 oP7 oC7 oU7 B7 G7 k7 ⊢
        have c3 := hA7.cell i 3 hil (by decide) _ (by rw [set_getD rs i _ hrsl]; rfl)
        have PI0 : PrI w.heap.size W0.heap.size w (.slice po Ps.length pcap) Ps prow 0 w7 := ⟨prow, hp2, hpl, oP7, fun j h hj => by omega, fun j hj => rfl⟩
        clear y1 y2 hA5 oP oC5 oU5 bP k7 cp B5 G5 oP7
        have hsR := hid hsep
        have hnoR := hid hno
        have hrestR := hid hrest
        have hgW : w.heap.size ≤ W0.heap.size := hb.size
        clear hsep hno hrest
        go_wp2_with fail
        go_loopw [46] (fun K wx => ∃ (k : Nat), (k : Int) ≤ Ps.length ∧ K = .int .i64 k ∧ PrI w.heap.size W0.heap.size w (.slice po Ps.length pcap) Ps prow k wx ∧ OwA w.heap.size g t.length cap wx (rs.set i [.string nm, .slice uo t[i].2.1.length uc, .int .i64 P, .slice po Ps.length pcap, .slice co t[i].2.2.2.2.length ccap]) ∧ wx.ownsRow W0.heap.size 26 1 (.slice uo t[i].2.1.length uc) t[i].2.1.length (t[i].2.1.map (Value.int .u32)) ∧ wx.ownsRow W0.heap.size 26 1 (.slice co t[i].2.2.2.2.length ccap) t[i].2.2.2.2.length (t[i].2.2.2.2.map (Value.int .u32)) ∧ W0.grownBy wx (some g) ∧ Below w.heap.size w wx) (fun K _ => (Ps.length - intOf K).toNat)
        case atStart => exact ⟨0, by omega, rfl, PI0, hA7, oU7, oC7, G7, B7⟩
        case round =>
          clear PI0 hA7 oU7 oC7 G7 B7 c3
          obtain ⟨k, hk, rfl, hPI, hA8, oU8, oC8, G8, B8⟩ := hrel
          by_cases hlk : (k : Int) < Ps.length
          · have hkl : k < Ps.length := by omega
            obtain ⟨prs, z1, z2, z3, z4, z5⟩ := hPI
            obtain ⟨gP, cP, hgP⟩ := own_some z3 (by omega)
            simp only [Value.slice.injEq] at hgP
            obtain ⟨rfl, -, rfl⟩ := hgP
            obtain ⟨vd, hpr, rd⟩ := hp3 k hkl
            have hpk := z5 k (Nat.le_refl _)
            rw [hpr] at hpk
            obtain ⟨da, dq, rfl⟩ := rd_slice rd
            have cd := fun W (g : Below w.heap.size w W) => w_pclone8 _ _ W (rd.below g) (s4 _ (List.getElem_mem hkl))
            have c3 := hA8.cell i 3 hil (by decide) _ (by rw [set_getD rs i _ hrsl]; rfl)
            have hip := idx_prop gP Ps.length pcap k hkl
            have hold : prs.flatten[k * 2 + 1]? = some (.slice da Ps[k].2.length dq) := by rw [flat_get prs 2 k 1 z2 (by omega) (by decide), hpk]; rfl
            have cD := own_cell z3 (k * 2 + 1) _ hold
            have hne : gP ≠ g := by
              intro e
              subst e
              rcases hA8.2.2.2 with ⟨hh, _⟩ | ⟨g', c', cur, hh, _, x1, _⟩
              · simp at hh
              · rcases z3.2 with ⟨hh2, _⟩ | ⟨g2', c2', cur2, hh2, _, x2, _⟩
                · simp at hh2
                · simp at hh hh2
                  obtain ⟨rfl, -⟩ := hh
                  obtain ⟨rfl, -⟩ := hh2
                  rw [x1] at x2
                  simp at x2
            have HS : Hid (∀ W, Below wr.heap.size wr W → W.cell? ⟨g, i * 5 + 3, none⟩ = some (.slice (some ⟨gP, 0, none⟩) Ps.length pcap)) := fun W q => below_cell q c3
            have hrd : Hid (Below wr.heap.size wr wr.drew) := below_drewN (Below.refl _ _) 1
            have hbd : Hid (Below w.heap.size w wr.drew) := below_drewN B8 1
            have CD := hid cd
            have T1 : Hid (∀ qD, Below wr.heap.size wr qD → qD.ownsRow W0.heap.size 91 2 (.slice (some ⟨gP, 0, none⟩) Ps.length pcap) Ps.length prs.flatten) := fun qD q => own_kept (T := 5) (Kept.below q) (by decide) z3
            have T2 : Hid (∀ qD, Below wr.heap.size wr qD → qD.cell? ⟨gP, k * 2 + 1, none⟩ = some (.slice da Ps[k].2.length dq)) := fun qD q => below_cell q cD
            have T3 : Hid (∀ qD, Below wr.heap.size wr qD → qD.frozen? ⟨gP, k * 2 + 1, none⟩ = false) := fun qD q => (T1.out qD q).frozenAt (k * 2 + 1)
            have T4 : Hid (∀ qD, Below wr.heap.size wr qD → ∀ u, (qD.setCell ⟨gP, k * 2 + 1, none⟩ u).cell? ⟨g, i * 5 + 3, none⟩ = some (.slice (some ⟨gP, 0, none⟩) Ps.length pcap)) := fun qD q u => by
              rw [World.cell?_setCell_far _ _ _ _ (by exact hne)]
              exact HS.out _ q
            have Z3 := hid z3
            clear cd z3 hold
            go_wp2_with fail
            go_region_with (go_at_call 31; refine (CD.out _ (by with_reducible exact hbd.out)).mono ?_; rintro e qD ⟨vD, rfl, oD, bD'⟩; obtain ⟨dd, dcap, rfl⟩ := own_form oD; have RD : Hid (Below wr.heap.size wr qD) := below_trans hrd.out bD'; have y0 := HS.out qD RD.out; have y1 := T2.out qD RD.out; have y2 := T3.out qD RD.out; have OD := hid oD; clear oD bD')
            all_goals (
              go_wp2_with fail
              have bD := RD.out
              have z3' := T1.out qD bD
              obtain ⟨w8, hw8⟩ : ∃ w8, qD.setCell ⟨gP, k * 2 + 1, none⟩ (.slice dd Ps[k].2.length dcap) = w8 := ⟨_, rfl⟩
              have gr : qD.grownBy w8 (some gP) := by rw [← hw8]; exact (z3'.stored (k * 2 + 1) _).2
              have kp : Kept 91 qD w8 := Kept.own z3' gr
              have hgP8 : W0.heap.size ≤ gP := (z3'.lt gP rfl).1
              have hset := z3'.stored (k * 2 + 1) (.slice dd Ps[k].2.length dcap)
              rw [flat_set prs 2 k 1 _ z2 (by omega) (by decide), hpk, hw8] at hset
              have PI9 : PrI w.heap.size W0.heap.size w (.slice (some ⟨gP, 0, none⟩) Ps.length pcap) Ps prow (k + 1) w8 := by
                refine ⟨prs.set k [.string (strOfNums Ps[k].1), .slice dd Ps[k].2.length dcap], by simpa using z1, fun r hr => ?_, hset.1, fun j hj hjk => ?_, fun j hj => ?_⟩
                · rcases List.mem_or_eq_of_mem_set hr with hr | rfl
                  · exact z2 r hr
                  · rfl
                · by_cases e : j = k
                  · subst e
                    rw [set_getD prs j _ (by omega)]
                    exact ⟨_, rfl, own_kept kp (by decide) (own_le (Nat.le_trans G8.size hrd.out.size) OD.out)⟩
                  · rw [List.getD_eq_getElem?_getD, List.getElem?_set_ne (fun e2 => e e2.symm), ← List.getD_eq_getElem?_getD]
                    exact propO_apt (by decide) _ _ _ _ kp (propO_below bD _ _ (z4 j hj (by omega)))
                · rw [List.getD_eq_getElem?_getD, List.getElem?_set_ne (by omega), ← List.getD_eq_getElem?_getD]
                  exact z5 j (by omega)
              have hA9 := (hA8.below bD).kept kp (by decide)
              have oU9 := own_kept kp (by decide) (own_below oU8 bD)
              have oC9 := own_kept kp (by decide) (own_below oC8 bD)
              have G9 : W0.grownBy w8 (some g) := by rw [← hw8]; exact gb_new (gb_below G8 bD) hgP8 _ _
              have B9 : Below w.heap.size w w8 := by rw [← hw8]; exact below_set (below_trans B8 bD) gP _ _ (by omega)
              rw [hw8]
              go_roundw
              case rel => exact ⟨k + 1, by omega, by go_num, PI9, hA9, oU9, oC9, G9, B9⟩
              case measure => simp [intOf]; omega)
          · have hkp : k = Ps.length := by omega
            subst hkp
            obtain ⟨prs, z1, z2, z3, z4, z5⟩ := hPI
            have kN : Kept 70 W0 wr := ⟨some g, G8, fun q hq => by
              cases hq
              obtain ⟨_, _, o⟩ := HA.out
              rcases o.2 with ⟨hh, _⟩ | ⟨g', c', cur, hh, _, x1, _⟩
              · simp at hh
              · simp at hh
                obtain ⟨rfl, -⟩ := hh
                exact ⟨cur, _, x1⟩⟩
            have hN9 : NdI w.heap.size g cap t rows (i + 1) wr := by
              refine ⟨_, hA8, fun j hj hji => ?_, ?_, fun j hj => ?_⟩
              · by_cases e : j = i
                · subst e
                  rw [set_getD rs j _ hrsl]
                  exact ⟨_, _, _, by rw [hnm, hP], own_le hgW oU8, by rw [hPs]; exact ⟨prs, z1, z2, own_le hgW z3, fun m hm => propO_le hgW _ _ (z4 m hm hm)⟩, own_le hgW oC8⟩
                · rw [List.getD_eq_getElem?_getD, List.getElem?_set_ne (fun e2 => e e2.symm), ← List.getD_eq_getElem?_getD]
                  exact nodO_apt (by decide) (by decide) (by decide) _ _ _ _ kN (hnoR.out j hj (by omega))
              · have hl1 : ∀ q, q < rs.length → ((rs.set i [Value.string nm, .slice uo t[i].2.1.length uc, .int .i64 P, .slice po Ps.length pcap, .slice co t[i].2.2.2.2.length ccap]).take (i + 1)) = rs.take i ++ [[Value.string nm, .slice uo t[i].2.1.length uc, .int .i64 P, .slice po Ps.length pcap, .slice co t[i].2.2.2.2.length ccap]] := by
                  intro q hq
                  rw [List.take_succ_eq_append_getElem (by simpa using hrsl), List.take_set_of_le (Nat.le_refl _)]
                  simp
                rw [hl1 i hrsl]
                refine sep_snoc hsR.out fun j q hj hq hq2 => ?_
                have hji : j < i := by simp at hj; omega
                have e1 : (rs.take i).getD j [] = rs.getD j [] := by rw [List.getD_eq_getElem?_getD, List.getElem?_take, if_pos hji, ← List.getD_eq_getElem?_getD]
                rw [e1] at hq
                obtain ⟨vu9, vp9, vc9, hv9, -, op9, -⟩ := hnoR.out j (by omega) hji
                obtain ⟨cs9, o9⟩ := op9.row
                rw [hv9] at hq
                have a1 := (o9.lt q (by simpa using hq)).2
                have a2 := (z3.lt q (by simpa using hq2)).1
                omega
              · rw [List.getD_eq_getElem?_getD, List.getElem?_set_ne (by omega), ← List.getD_eq_getElem?_getD]
                exact hrestR.out j (by omega)
            go_wp2_with fail
            go_roundw
            case rel => exact ⟨i + 1, by omega, by go_num, hN9, B8⟩
            case measure => simp [intOf]; omega
      · go_wp2_with fail
        go_ret
        have hit : i = t.length := by omega
        subst hit
        obtain ⟨rs, ⟨a1, a2, a3⟩, hno, hsep, hrest⟩ := hN
        rw [List.take_of_length_le (by omega)] at hsep
        exact ⟨_, rfl, ⟨rs, a2, a1, a3, fun j hj => hno j hj hj, hsep⟩, hb⟩

/-
  Package dict's Copy.
-/
theorem idx_wrd (g n cap i : Nat) (hi : i < n) : ∀ w', (Instr.indexAt 24 (.slice (some ⟨g, 0, none⟩) n cap) (.int .i64 (i : Int))).run Try.prog w' = .ok (.pointer (some ⟨g, i * 5, none⟩)) w' := by
  intro w'
  rw [run_indexAt_slice (h := uW), if_pos ⟨by omega, by omega⟩, zW]
  simp only [Result.andThen, Int.toNat_natCast]
  congr 3
  unfold Addr.add
  split
  · rename_i hz; rw [hz]
  · simp
theorem idx_ins (g n cap i : Nat) (hi : i < n) : ∀ w', (Instr.indexAt 28 (.slice (some ⟨g, 0, none⟩) n cap) (.int .i64 (i : Int))).run Try.prog w' = .ok (.pointer (some ⟨g, i * 4, none⟩)) w' := by
  intro w'
  rw [run_indexAt_slice (h := uI), if_pos ⟨by omega, by omega⟩, zI]
  simp only [Result.andThen, Int.toNat_natCast]
  congr 3
  unfold Addr.add
  split
  · rename_i hz; rw [hz]
  · simp

set_option maxHeartbeats 8000000 in
set_option maxRecDepth 100000 in
theorem w_p9copyO (m : Mc) (v : Mv) (o : ByteArray) (w : World) (h : RdM w v m o) (z : gM m) :
    Calls Try.prog 12 #[.agg (v.cs m o)] w fun e w' => ∃ v1, e = .returned (.agg (v1.cs m o)) ∧ OwM w.heap.size w' v1 m o ∧ Below w.heap.size w w' := by
  obtain ⟨vs, vm, vw, vc, vt, vi⟩ := v
  obtain ⟨hs, hm, hw, hc, ht, hi, ho⟩ := h
  simp only at hs hm hw hc ht hi
  obtain ⟨sa, sq, rfl⟩ := rd_slice hs
  obtain ⟨ma, mq, rfl⟩ := rd_slice hm
  obtain ⟨wa, wq, rfl⟩ := slr_slice hw
  obtain ⟨ca, cq, rfl⟩ := rd_slice hc
  obtain ⟨ta, tq, rfl⟩ := slr_slice ht
  obtain ⟨ia, iq, rfl⟩ := slr_slice hi
  have c32 := fun W (b : Below w.heap.size w W) => w_pclone32 _ _ W (hs.below b) (by have := z.stackZ; omega)
  have c8 := fun W (b : Below w.heap.size w W) => w_pclone8 _ _ W (hm.below b) (by have := z.memZ; omega)
  have cJ := fun W (b : Below w.heap.size w W) => w_pcloneJ _ _ W (hc.below b) (by have := z.codesZ; omega)
  have cT := fun W (b : Below w.heap.size w W) => w_p8copyS _ _ W (RdT.below ht b) (by have := z.treeZ; omega) (fun x hx => (z.tree x hx).2.2.1)
  have mw := z.wordsZ
  have mi := z.instsZ
  have gzw := fun x hx => (z.words x hx).siz
  have gzi := fun x hx => (z.insts x hx).siz
  obtain ⟨rows, hr1, hr2, hr3⟩ := hw
  obtain ⟨irows, hi1, hi2, hi3⟩ := hi
  obtain ⟨hrl, hro⟩ := wrd_rows hr2 hr3
  obtain ⟨hil', hio⟩ := ins_rows hi2 hi3
  have cW := fun W (b : Below w.heap.size w W) => w_pcloneW _ rows W (hr1.below b) hro (by omega)
  have cI := fun W (b : Below w.heap.size w W) => w_pcloneI _ irows W (hi1.below b) hio (by omega)
  simp only [hr2] at cW
  simp only [hi2] at cI
  have c32i := fun (i : Nat) (hil : i < m.insts.length) (vx : Value) (hx : Rd .u32 w vx m.insts[i].2.2.2) W (b : Below w.heap.size w W) => w_pclone32 vx _ W (hx.below b) (by have := gzi _ (List.getElem_mem hil); omega)
  have cO := fun (i : Nat) (hil : i < m.words.length) (vx : Value) (hx : RdO w vx m.words[i].2.2.2.2) W (b : Below w.heap.size w W) => w_pcloneOps vx _ W (RdO.below hx b) (by have := gzw _ (List.getElem_mem hil); omega)
  have C32i := hid c32i
  have CO := hid cO
  have CW := hid cW
  have CI := hid cI
  have CJ := hid cJ
  have CT := hid cT
  have C8 := hid c8
  have HR3 := hid hr3
  have HI3 := hid hi3
  have HR2 := hid hr2
  have HI2 := hid hi2
  have HRL := hid hrl
  have HIL := hid hil'
  have HO := hid ho
  have s0 := (stands_new w #[.slice sa m.stack.length sq, .slice ma m.mem.length mq, .slice wa m.words.length wq, .slice ca m.codes.length cq, .int .u32 m.base, .slice ta m.tree.length tq, .int .i64 m.node, .slice ia m.insts.length iq, .int .i64 m.self, .string o] 30).below (box_below (w.alloc (.cells #[.slice sa m.stack.length sq, .slice ma m.mem.length mq, .slice wa m.words.length wq, .slice ca m.codes.length cq, .int .u32 m.base, .slice ta m.tree.length tq, .int .i64 m.node, .slice ia m.insts.length iq, .int .i64 m.self, .string o] 30)) (.cells #[.slice none 0 0, .slice none 0 0, .slice none 0 0, .slice none 0 0, .int .u32 0, .slice none 0 0, .int .i64 0, .slice none 0 0, .int .i64 0, .string ⟨#[]⟩] 30))
  have s1 := stands_new (w.alloc (.cells #[.slice sa m.stack.length sq, .slice ma m.mem.length mq, .slice wa m.words.length wq, .slice ca m.codes.length cq, .int .u32 m.base, .slice ta m.tree.length tq, .int .i64 m.node, .slice ia m.insts.length iq, .int .i64 m.self, .string o] 30)) #[.slice none 0 0, .slice none 0 0, .slice none 0 0, .slice none 0 0, .int .u32 0, .slice none 0 0, .int .i64 0, .slice none 0 0, .int .i64 0, .string ⟨#[]⟩] 30
  have bw := below_trans (box_below w (.cells #[.slice sa m.stack.length sq, .slice ma m.mem.length mq, .slice wa m.words.length wq, .slice ca m.codes.length cq, .int .u32 m.base, .slice ta m.tree.length tq, .int .i64 m.node, .slice ia m.insts.length iq, .int .i64 m.self, .string o] 30)) (box_below (w.alloc (.cells #[.slice sa m.stack.length sq, .slice ma m.mem.length mq, .slice wa m.words.length wq, .slice ca m.codes.length cq, .int .u32 m.base, .slice ta m.tree.length tq, .int .i64 m.node, .slice ia m.insts.length iq, .int .i64 m.self, .string o] 30)) (.cells #[.slice none 0 0, .slice none 0 0, .slice none 0 0, .slice none 0 0, .int .u32 0, .slice none 0 0, .int .i64 0, .slice none 0 0, .int .i64 0, .string ⟨#[]⟩] 30))
  rw [size_al] at s1
  simp only [Mv.cs]
  clear hs hm hc ht hr1 hi1 hro hio z c32i cO cW cI cJ cT c8 hr3 hi3 hr2 hi2 hrl hil' gzw gzi ho
  go_enter Try.func12, Try.ntmps12
  go_upto_region 1 with fail
  generalize (w.alloc (.cells #[.slice sa m.stack.length sq, .slice ma m.mem.length mq, .slice wa m.words.length wq, .slice ca m.codes.length cq, .int .u32 m.base, .slice ta m.tree.length tq, .int .i64 m.node, .slice ia m.insts.length iq, .int .i64 m.self, .string o] 30)).alloc (.cells #[.slice none 0 0, .slice none 0 0, .slice none 0 0, .slice none 0 0, .int .u32 0, .slice none 0 0, .int .i64 0, .slice none 0 0, .int .i64 0, .string ⟨#[]⟩] 30) = W0 at s0 s1 bw ⊢
  have hW0 : w.heap.size + 1 < W0.heap.size := (Array.getElem?_eq_some_iff.1 s1).1
  have f0 := s0.cell 0 _ rfl
  go_upto_region 2 with (go_at_call 30; refine (c32 _ bw).mono ?_; rintro e qA ⟨vX, rfl, oX, dA⟩; obtain ⟨sa1, sq1, rfl⟩ := own_form oX; have y1 := (s0.below dA).cell 0 _ rfl; have y2 := (s0.below dA).free 0)
  have kA := set_kept (s0.below dA) 0 (.slice sa1 m.stack.length sq1)
  have s0A : Stands _ w.heap.size #[.slice sa1 m.stack.length sq1, .slice ma m.mem.length mq, .slice wa m.words.length wq, .slice ca m.codes.length cq, .int .u32 m.base, .slice ta m.tree.length tq, .int .i64 m.node, .slice ia m.insts.length iq, .int .i64 m.self, .string o] 30 := (s0.below dA).set 0 (.slice sa1 m.stack.length sq1)
  have s1A := (s1.below dA).other (b' := w.heap.size) 0 (.slice sa1 m.stack.length sq1) (by omega)
  have bA := below_set (below_trans bw dA) w.heap.size 0 (.slice sa1 m.stack.length sq1) (Nat.le_refl _)
  have oS := own_le bw.size (own_kept kA (by decide) oX)
  generalize qA.setCell ⟨w.heap.size, 0, none⟩ (.slice sa1 m.stack.length sq1) = QA at s0A s1A bA oS kA ⊢
  clear y1 y2 oX dA kA f0 s0 s1 c32
  have f1 := s0A.cell 1 _ rfl
  go_upto_region 3 with (go_at_call 31; refine (C8.out _ bA).mono ?_; rintro e qB ⟨vX, rfl, oX, dB⟩; obtain ⟨ma1, mq1, rfl⟩ := own_form oX; have y1 := (s0A.below dB).cell 1 _ rfl; have y2 := (s0A.below dB).free 1)
  have kB := set_kept (s0A.below dB) 1 (.slice ma1 m.mem.length mq1)
  have s0B : Stands _ w.heap.size #[.slice sa1 m.stack.length sq1, .slice ma1 m.mem.length mq1, .slice wa m.words.length wq, .slice ca m.codes.length cq, .int .u32 m.base, .slice ta m.tree.length tq, .int .i64 m.node, .slice ia m.insts.length iq, .int .i64 m.self, .string o] 30 := (s0A.below dB).set 1 (.slice ma1 m.mem.length mq1)
  have s1B := (s1A.below dB).other (b' := w.heap.size) 1 (.slice ma1 m.mem.length mq1) (by omega)
  have bB := below_set (below_trans bA dB) w.heap.size 1 (.slice ma1 m.mem.length mq1) (Nat.le_refl _)
  have oM := own_le bA.size (own_kept kB (by decide) oX)
  have oSB := own_kept kB (by decide) (own_belowN oS dB)
  generalize qB.setCell ⟨w.heap.size, 1, none⟩ (.slice ma1 m.mem.length mq1) = QB at s0B s1B bB oM oSB kB ⊢
  clear y1 y2 oX dB kB f1 s0A s1A bA oS C8
  have f2 := s0B.cell 2 _ rfl
  go_upto_region 4 with (go_at_call 32; refine (CW.out _ bB).mono ?_; rintro e qC ⟨vX, rfl, oX, dC⟩; obtain ⟨wa1, wq1, rfl⟩ := own_form oX; have y1 := (s0B.below dC).cell 2 _ rfl; have y2 := (s0B.below dC).free 2)
  have kC := set_kept (s0B.below dC) 2 (.slice wa1 m.words.length wq1)
  have s0C : Stands _ w.heap.size #[.slice sa1 m.stack.length sq1, .slice ma1 m.mem.length mq1, .slice wa1 m.words.length wq1, .slice ca m.codes.length cq, .int .u32 m.base, .slice ta m.tree.length tq, .int .i64 m.node, .slice ia m.insts.length iq, .int .i64 m.self, .string o] 30 := (s0B.below dC).set 2 (.slice wa1 m.words.length wq1)
  have s1C := (s1B.below dC).other (b' := w.heap.size) 2 (.slice wa1 m.words.length wq1) (by omega)
  have bC := below_set (below_trans bB dC) w.heap.size 2 (.slice wa1 m.words.length wq1) (Nat.le_refl _)
  have oW := own_le bB.size (own_kept kC (by decide) oX)
  have oSC := own_kept kC (by decide) (own_belowN oSB dC)
  have oMC := own_kept kC (by decide) (own_belowN oM dC)
  generalize qC.setCell ⟨w.heap.size, 2, none⟩ (.slice wa1 m.words.length wq1) = QC at s0C s1C bC oW oMC oSC kC ⊢
  clear y1 y2 oX dC kC f2 s0B s1B bB oM oSB CW
  have f2 := s0C.cell 2 _ rfl
  go_wp2_with fail
  go_loopw [20] (fun I wx => ∃ (i : Nat), (i : Int) ≤ m.words.length ∧ I = .int .i64 i ∧ Stands wx w.heap.size #[.slice sa1 m.stack.length sq1, .slice ma1 m.mem.length mq1, .slice wa1 m.words.length wq1, .slice ca m.codes.length cq, .int .u32 m.base, .slice ta m.tree.length tq, .int .i64 m.node, .slice ia m.insts.length iq, .int .i64 m.self, .string o] 30 ∧ Stands wx (w.heap.size + 1) #[.slice none 0 0, .slice none 0 0, .slice none 0 0, .slice none 0 0, .int .u32 0, .slice none 0 0, .int .i64 0, .slice none 0 0, .int .i64 0, .string ⟨#[]⟩] 30 ∧ wx.ownsRow w.heap.size 26 1 (.slice sa1 m.stack.length sq1) m.stack.length (m.stack.map (Value.int .u32)) ∧ wx.ownsRow w.heap.size 5 1 (.slice ma1 m.mem.length mq1) m.mem.length (m.mem.map (Value.int .u8)) ∧ RwI 33 5 (wrdO w.heap.size) w.heap.size (.slice wa1 m.words.length wq1) m.words rows i wx ∧ Below w.heap.size w wx) (fun I _ => (m.words.length - intOf I).toNat)
  case atStart => exact ⟨0, by omega, rfl, s0C, s1C, oSC, oMC, RwI.start HR2.out HRL.out oW, bC⟩
  case round =>
    clear s0C s1C oSC oMC oW bC f2
    obtain ⟨i, hi, rfl, st, sz, oS, oM, hI, hb⟩ := hrel
    by_cases hlt : (i : Int) < m.words.length
    · have hil : i < m.words.length := by omega
      obtain ⟨csW, oWr⟩ := hI.row
      obtain ⟨g, cap, hg⟩ := own_some oWr (by omega)
      simp only [Value.slice.injEq] at hg
      obtain ⟨rfl, -, rfl⟩ := hg
      have hgb := (oWr.lt g rfl).1
      have hgB : g ≠ w.heap.size := by
        intro e
        have a1 := stands_apart st oWr (by decide)
        simp [Value.ownBlock] at a1
        exact a1 e.symm
      obtain ⟨vcI, hrow, rc⟩ := HR3.out i hil
      have cd := fun W (b : Below w.heap.size w W) => CO.out i hil vcI rc W b
      obtain ⟨xa, xq, rfl⟩ := slr_slice rc
      have c4 := hI.cell hil 4 (by decide) _ (by rw [hrow]; rfl)
      have c2 := st.cell 2 _ rfl
      have hix := idx_wrd g m.words.length wq1 i hil
      obtain ⟨N5, hN5⟩ : ∃ N, m.words[i].2.2.2.2.length = N := ⟨_, rfl⟩
      rw [hN5] at c4 hrow
      have HS : Hid (∀ W, Below wr.heap.size wr W → W.cell? ⟨w.heap.size, 2, none⟩ = some (.slice (some ⟨g, 0, none⟩) m.words.length wq1)) := fun W q => below_cell q c2
      have hrd : Hid (Below wr.heap.size wr wr.drew) := below_drewN (Below.refl _ _) 1
      have hbd : Hid (Below w.heap.size w wr.drew) := below_drewN hb 1
      simp only [hN5] at cd
      have CD := hid cd
      have T2 : Hid (∀ qD, Below wr.heap.size wr qD → qD.cell? ⟨g, i * 5 + 4, none⟩ = some (.slice xa N5 xq)) := fun qD q => below_cell q c4
      have T3 : Hid (∀ qD, Below wr.heap.size wr qD → qD.frozen? ⟨g, i * 5 + 4, none⟩ = false) := fun qD q => (hI.below q (wrdO_below q)).free (i * 5 + 4)
      have HI := hid hI
      have HROW := hid hrow
      have HN5 := hid hN5
      have ST := hid st
      have SZ := hid sz
      have OS := hid oS
      have OM := hid oM
      clear cd hI oWr hN5 hrow rc st sz oS oM
      go_wp2_with fail
      go_region_with (go_at_call 13; refine (CD.out _ (by with_reducible exact hbd.out)).mono ?_; rintro e qD ⟨vD, rfl, oD, bD'⟩; obtain ⟨csD, rD⟩ := oD.row; obtain ⟨dd, dcap, rfl⟩ := own_form rD; have RD : Hid (Below wr.heap.size wr qD) := below_trans hrd.out bD'; have y0 := HS.out qD RD.out; have y1 := T2.out qD RD.out; have y2 := T3.out qD RD.out; have OD := hid oD; clear oD bD' rD)
      all_goals (
        go_wp2_with fail
        have bD := RD.out
        have hx : wrdO w.heap.size qD ((rows.getD i []).set 4 (.slice dd m.words[i].2.2.2.2.length dcap)) (m.words[i]'hil) := by rw [HROW.out]; exact ⟨_, rfl, OwO.le (Nat.le_trans hb.size hrd.out.size) OD.out⟩
        obtain ⟨hI9, k9⟩ := RwI.step (HI.out.below bD (wrdO_below bD)) hil 4 (by decide) (.slice dd m.words[i].2.2.2.2.length dcap) (wrdO_apt (by decide)) hx
        have B9 := below_set (below_trans hb bD) g (i * 5 + 4) (.slice dd m.words[i].2.2.2.2.length dcap) hgb
        have st9 := stands_kept k9 (by decide) (ST.out.below bD)
        have sz9 := stands_kept k9 (by decide) (SZ.out.below bD)
        have oS9 := own_kept k9 (by decide) (own_belowN OS.out bD)
        have oM9 := own_kept k9 (by decide) (own_belowN OM.out bD)
        go_roundw
        case rel => exact ⟨i + 1, by omega, by go_num, st9, sz9, oS9, oM9, hI9, B9⟩
        case measure => simp [intOf]; omega)
    · have hin : i = m.words.length := by omega
      have oW := hI.done (by omega)
      obtain ⟨W1, hW1⟩ : ∃ W1, W1 = wr := ⟨_, rfl⟩
      subst hW1
      clear hI hin
      have f3 := st.cell 3 _ rfl
      go_upto_region 10 with (go_at_call 33; refine (CJ.out _ hb).mono ?_; rintro e qD ⟨vX, rfl, oX, dD⟩; obtain ⟨ca1, cq1, rfl⟩ := own_form oX; have y1 := (st.below dD).cell 3 _ rfl; have y2 := (st.below dD).free 3)
      have kD := set_kept (st.below dD) 3 (.slice ca1 m.codes.length cq1)
      have s0D : Stands _ w.heap.size #[.slice sa1 m.stack.length sq1, .slice ma1 m.mem.length mq1, .slice wa1 m.words.length wq1, .slice ca1 m.codes.length cq1, .int .u32 m.base, .slice ta m.tree.length tq, .int .i64 m.node, .slice ia m.insts.length iq, .int .i64 m.self, .string o] 30 := (st.below dD).set 3 (.slice ca1 m.codes.length cq1)
      have s1D := (sz.below dD).other (b' := w.heap.size) 3 (.slice ca1 m.codes.length cq1) (by omega)
      have bD := below_set (below_trans hb dD) w.heap.size 3 (.slice ca1 m.codes.length cq1) (Nat.le_refl _)
      have oC := own_le hb.size (own_kept kD (by decide) oX)
      have oSD := own_kept kD (by decide) (own_belowN oS dD)
      have oMD := own_kept kD (by decide) (own_belowN oM dD)
      have oWD := OwnR.kept (OwnR.below oW dD (wrdO_below dD)) kD (by decide) (wrdO_apt (by decide))
      generalize qD.setCell ⟨w.heap.size, 3, none⟩ (.slice ca1 m.codes.length cq1) = QD at s0D s1D bD oC oSD oMD oWD kD ⊢
      clear y1 y2 oX dD kD f3 st sz oS oM oW CJ
      have f5 := s0D.cell 5 _ rfl
      go_upto_region 11 with (go_at_call 34; refine (CT.out _ bD).mono ?_; rintro e qE ⟨vX, rfl, oX, dE⟩; obtain ⟨csX, rX⟩ := oX.own.row; obtain ⟨ta1, tq1, rfl⟩ := own_form rX; have y1 := (s0D.below dE).cell 5 _ rfl; have y2 := (s0D.below dE).free 5)
      have kE := set_kept (s0D.below dE) 5 (.slice ta1 m.tree.length tq1)
      have s0E : Stands _ w.heap.size #[.slice sa1 m.stack.length sq1, .slice ma1 m.mem.length mq1, .slice wa1 m.words.length wq1, .slice ca1 m.codes.length cq1, .int .u32 m.base, .slice ta1 m.tree.length tq1, .int .i64 m.node, .slice ia m.insts.length iq, .int .i64 m.self, .string o] 30 := (s0D.below dE).set 5 (.slice ta1 m.tree.length tq1)
      have s1E := (s1D.below dE).other (b' := w.heap.size) 5 (.slice ta1 m.tree.length tq1) (by omega)
      have bE := below_set (below_trans bD dE) w.heap.size 5 (.slice ta1 m.tree.length tq1) (Nat.le_refl _)
      have oT := OwnR.kept (OwnT8.le bD.size oX.own) kE (by decide) (nodO_apt (by decide) (by decide) (by decide))
      have PE : Cpy w.heap.size _ (.slice sa1 m.stack.length sq1) (.slice ma1 m.mem.length mq1) (.slice wa1 m.words.length wq1) (.slice ca1 m.codes.length cq1) (.slice ta1 m.tree.length tq1) m := ⟨own_kept kE (by decide) (own_belowN oSD dE), own_kept kE (by decide) (own_belowN oMD dE), OwnR.kept (OwnR.below oWD dE (wrdO_below dE)) kE (by decide) (wrdO_apt (by decide)), own_kept kE (by decide) (own_belowN oC dE), oT⟩
      generalize qE.setCell ⟨w.heap.size, 5, none⟩ (.slice ta1 m.tree.length tq1) = QE at s0E s1E bE oT PE kE ⊢
      clear y1 y2 oX rX dE kE f5 s0D s1D oC oSD oMD oWD CT bD oT
      have f7 := s0E.cell 7 _ rfl
      go_upto_region 12 with (go_at_call 35; refine (CI.out _ bE).mono ?_; rintro e qF ⟨vX, rfl, oX, dF⟩; obtain ⟨ia1, iq1, rfl⟩ := own_form oX; have y1 := (s0E.below dF).cell 7 _ rfl; have y2 := (s0E.below dF).free 7)
      have kF := set_kept (s0E.below dF) 7 (.slice ia1 m.insts.length iq1)
      have s0F : Stands _ w.heap.size #[.slice sa1 m.stack.length sq1, .slice ma1 m.mem.length mq1, .slice wa1 m.words.length wq1, .slice ca1 m.codes.length cq1, .int .u32 m.base, .slice ta1 m.tree.length tq1, .int .i64 m.node, .slice ia1 m.insts.length iq1, .int .i64 m.self, .string o] 30 := (s0E.below dF).set 7 (.slice ia1 m.insts.length iq1)
      have s1F := (s1E.below dF).other (b' := w.heap.size) 7 (.slice ia1 m.insts.length iq1) (by omega)
      have bF := below_set (below_trans bE dF) w.heap.size 7 (.slice ia1 m.insts.length iq1) (Nat.le_refl _)
      have oI := own_le bE.size (own_kept kF (by decide) oX)
      have PF := (PE.below dF).kept kF (by decide) (by decide) (by decide) (by decide) (by decide) (by decide) (by decide)
      generalize qF.setCell ⟨w.heap.size, 7, none⟩ (.slice ia1 m.insts.length iq1) = QF at s0F s1F bF oI PF kF ⊢
      clear y1 y2 oX dF kF f7 s0E s1E PE bE CI
      have f7 := s0F.cell 7 _ rfl
      go_wp2_with fail
      go_loopw [51] (fun I wx => ∃ (i : Nat), (i : Int) ≤ m.insts.length ∧ I = .int .i64 i ∧ Stands wx w.heap.size #[.slice sa1 m.stack.length sq1, .slice ma1 m.mem.length mq1, .slice wa1 m.words.length wq1, .slice ca1 m.codes.length cq1, .int .u32 m.base, .slice ta1 m.tree.length tq1, .int .i64 m.node, .slice ia1 m.insts.length iq1, .int .i64 m.self, .string o] 30 ∧ Stands wx (w.heap.size + 1) #[.slice none 0 0, .slice none 0 0, .slice none 0 0, .slice none 0 0, .int .u32 0, .slice none 0 0, .int .i64 0, .slice none 0 0, .int .i64 0, .string ⟨#[]⟩] 30 ∧ Cpy w.heap.size wx (.slice sa1 m.stack.length sq1) (.slice ma1 m.mem.length mq1) (.slice wa1 m.words.length wq1) (.slice ca1 m.codes.length cq1) (.slice ta1 m.tree.length tq1) m ∧ RwI 78 4 (insO w.heap.size) w.heap.size (.slice ia1 m.insts.length iq1) m.insts irows i wx ∧ Below w.heap.size w wx) (fun I _ => (m.insts.length - intOf I).toNat)
      case atStart => exact ⟨0, by omega, rfl, s0F, s1F, PF, RwI.start HI2.out HIL.out oI, bF⟩
      case round =>
        clear s0F s1F PF oI bF f7 hb hi
        obtain ⟨i, hi, rfl, st, sz, P, hI, hb⟩ := hrel
        by_cases hlt : (i : Int) < m.insts.length
        · have hil : i < m.insts.length := by omega
          obtain ⟨csW, oWr⟩ := hI.row
          obtain ⟨g, cap, hg⟩ := own_some oWr (by omega)
          simp only [Value.slice.injEq] at hg
          obtain ⟨rfl, -, rfl⟩ := hg
          have hgb := (oWr.lt g rfl).1
          obtain ⟨vcI, hrow, rc⟩ := HI3.out i hil
          have cd := fun W (b : Below w.heap.size w W) => C32i.out i hil vcI rc W b
          obtain ⟨xa, xq, rfl⟩ := rd_slice rc
          have c4 := hI.cell hil 3 (by decide) _ (by rw [hrow]; rfl)
          have c2 := st.cell 7 _ rfl
          have hix := idx_ins g m.insts.length iq1 i hil
          obtain ⟨N5, hN5⟩ : ∃ N, m.insts[i].2.2.2.length = N := ⟨_, rfl⟩
          rw [hN5] at c4 hrow
          have HS : Hid (∀ W, Below wr.heap.size wr W → W.cell? ⟨w.heap.size, 7, none⟩ = some (.slice (some ⟨g, 0, none⟩) m.insts.length iq1)) := fun W q => below_cell q c2
          have hrd : Hid (Below wr.heap.size wr wr.drew) := below_drewN (Below.refl _ _) 1
          have hbd : Hid (Below w.heap.size w wr.drew) := below_drewN hb 1
          have CD := hid cd
          have T2 : Hid (∀ qD, Below wr.heap.size wr qD → qD.cell? ⟨g, i * 4 + 3, none⟩ = some (.slice xa N5 xq)) := fun qD q => below_cell q c4
          have T3 : Hid (∀ qD, Below wr.heap.size wr qD → qD.frozen? ⟨g, i * 4 + 3, none⟩ = false) := fun qD q => (hI.below q (insO_below q)).free (i * 4 + 3)
          have HI := hid hI
          have HROW := hid hrow
          have ST := hid st
          have SZ := hid sz
          have PP := hid P
          rw [hN5] at CD
          have HN5 := hid hN5
          clear cd hI oWr hN5 hrow rc st sz P
          go_wp2_with fail
          go_region_with (go_at_call 30; refine (CD.out _ (by with_reducible exact hbd.out)).mono ?_; rintro e qD ⟨vD, rfl, oD, bD'⟩; obtain ⟨dd, dcap, rfl⟩ := own_form oD; have RD : Hid (Below wr.heap.size wr qD) := below_trans hrd.out bD'; have y0 := HS.out qD RD.out; have y1 := T2.out qD RD.out; have y2 := T3.out qD RD.out; have OD := hid oD; clear oD bD')
          all_goals (
            go_wp2_with fail
            have bD := RD.out
            have hx : insO w.heap.size qD ((irows.getD i []).set 3 (.slice dd N5 dcap)) (m.insts[i]'hil) := by rw [HROW.out]; exact ⟨_, rfl, by rw [HN5.out]; exact own_le (Nat.le_trans hb.size hrd.out.size) OD.out⟩
            obtain ⟨hI9, k9⟩ := RwI.step (HI.out.below bD (insO_below bD)) hil 3 (by decide) (.slice dd N5 dcap) (insO_apt (by decide)) hx
            have B9 := below_set (below_trans hb bD) g (i * 4 + 3) (.slice dd N5 dcap) hgb
            have st9 := stands_kept k9 (by decide) (ST.out.below bD)
            have sz9 := stands_kept k9 (by decide) (SZ.out.below bD)
            have P9 := (PP.out.below bD).kept k9 (by decide) (by decide) (by decide) (by decide) (by decide) (by decide) (by decide)
            go_roundw
            case rel => exact ⟨i + 1, by omega, by go_num, st9, sz9, P9, hI9, B9⟩
            case measure => simp [intOf]; omega)
        · have oI := hI.done (by omega)
          have u0 := st.cell 0 _ rfl
          have u1 := st.cell 1 _ rfl
          have u2 := st.cell 2 _ rfl
          have u3 := st.cell 3 _ rfl
          have u4 := st.cell 4 _ rfl
          have u5 := st.cell 5 _ rfl
          have u6 := st.cell 6 _ rfl
          have u7 := st.cell 7 _ rfl
          have u8 := st.cell 8 _ rfl
          have u9 := st.cell 9 _ rfl
          have y0 := sz.cell 0 _ rfl
          have y1 := sz.cell 1 _ rfl
          have y2 := sz.cell 2 _ rfl
          have y3 := sz.cell 3 _ rfl
          have y4 := sz.cell 4 _ rfl
          have y5 := sz.cell 5 _ rfl
          have y6 := sz.cell 6 _ rfl
          have y7 := sz.cell 7 _ rfl
          have y8 := sz.cell 8 _ rfl
          have y9 := sz.cell 9 _ rfl
          have yf := sz.free
          obtain ⟨k1, k2⟩ := set10 sz (.slice sa1 m.stack.length sq1) (.slice ma1 m.mem.length mq1) (.slice wa1 m.words.length wq1) (.slice ca1 m.codes.length cq1) (.int .u32 m.base) (.slice ta1 m.tree.length tq1) (.int .i64 m.node) (.slice ia1 m.insts.length iq1) (.int .i64 m.self) (.string o)
          have oMM : OwM w.heap.size wr ⟨.slice sa1 m.stack.length sq1, .slice ma1 m.mem.length mq1, .slice wa1 m.words.length wq1, .slice ca1 m.codes.length cq1, .slice ta1 m.tree.length tq1, .slice ia1 m.insts.length iq1⟩ m o := ⟨P.stack, P.mem, P.words, P.codes, P.tree, oI, HO.out⟩
          have K1 := hid k1
          have GM := hid (k2 (fun u => OwM w.heap.size u ⟨.slice sa1 m.stack.length sq1, .slice ma1 m.mem.length mq1, .slice wa1 m.words.length wq1, .slice ca1 m.codes.length cq1, .slice ta1 m.tree.length tq1, .slice ia1 m.insts.length iq1⟩ m o) (fun u u' kk q => q.kept kk (by decide) (by decide) (by decide) (by decide) (by decide) (by decide) (by decide) (by decide)) oMM)
          have J7 : Hid (Below w.heap.size w _) := below_set (below_set (below_set (below_set (below_set (below_set (below_set (below_set (below_set (below_set (hb) (w.heap.size + 1) 0 (.slice sa1 m.stack.length sq1) (by omega)) (w.heap.size + 1) 1 (.slice ma1 m.mem.length mq1) (by omega)) (w.heap.size + 1) 2 (.slice wa1 m.words.length wq1) (by omega)) (w.heap.size + 1) 3 (.slice ca1 m.codes.length cq1) (by omega)) (w.heap.size + 1) 4 (.int .u32 m.base) (by omega)) (w.heap.size + 1) 5 (.slice ta1 m.tree.length tq1) (by omega)) (w.heap.size + 1) 6 (.int .i64 m.node) (by omega)) (w.heap.size + 1) 7 (.slice ia1 m.insts.length iq1) (by omega)) (w.heap.size + 1) 8 (.int .i64 m.self) (by omega)) (w.heap.size + 1) 9 (.string o) (by omega)
          clear k1 k2 oMM oI P hI hb st sz C32i CO HR3 HI3
          go_wp2_with fail
          (try simp only [Exit.inBlock, Exit.then])
          refine bodyPost_ret (results_cell_row rfl _ _ (w.heap.size + 1) 30 _ (0, 0) _ rfl K1.out Try.underlying30 rfl (show _ = some 10 by kernel_rfl)) rfl ?_
          exact ⟨⟨.slice sa1 m.stack.length sq1, .slice ma1 m.mem.length mq1, .slice wa1 m.words.length wq1, .slice ca1 m.codes.length cq1, .slice ta1 m.tree.length tq1, .slice ia1 m.insts.length iq1⟩, rfl, GM.out, J7.out⟩

/-
  alive and wordFormed of the document's answer.
-/
theorem len_nil {R : Bool} (l : List Opd) (h : decide (l = []) = R) : R = ((l.length : Int) == 0) := by
  subst h
  cases l with
  | nil => rfl
  | cons a r =>
    have : ((((a :: r).length : Nat) : Int) == 0) = false := by rw [beq_eq_false_iff_ne]; simp; omega
    rw [this]
    simp
theorem emp_yes : (⟨#[]⟩ : ByteArray).toList.isEmpty = true := by decide +kernel

/-
  instsFormed of the document's answer.
-/
theorem pc_in (l : List Int) (c : Int) : (c ∈ l → pcF l 0 c < l.length) ∧ (¬ c ∈ l → pcF l 0 c = l.length) := by
  unfold pcF
  simp only [List.drop_zero, Nat.zero_add]
  induction l with
  | nil => simp [upTo]
  | cons x r ih =>
    by_cases h : x = c
    · subst h
      simp [upTo]
    · simp only [upTo, if_neg h, List.length_cons, List.mem_cons]
      constructor
      · intro g
        have := ih.1 (g.resolve_left (fun e => h e.symm))
        omega
      · intro g
        have := ih.2 (fun e => g (Or.inr e))
        omega
theorem ins_step {l : List Iz} {t : List Nd} {k : Nat} (h : k < l.length) (ha : (l.take k).all (okI l t) = true) (hx : okI l t l[k] = true) : (l.take (k + 1)).all (okI l t) = true := by
  rw [List.take_succ_eq_append_getElem h, List.all_append, ha]
  simp [hx]
theorem ins_no {l : List Iz} {t : List Nd} {k : Nat} (h : k < l.length) (hx : okI l t l[k] = false) : insF l t = false := by
  unfold insF
  have : l.all (okI l t) = false := by
    rw [List.all_eq_false]
    exact ⟨_, List.getElem_mem h, by simp [hx]⟩
  rw [this]
  simp
theorem chn_no {l : List Iz} {t : List Nd} {k : Nat} (h : k < l.length) (hx : chnF l 17 l[k].2.1 = false) : insF l t = false := by
  unfold insF
  have : l.all (fun x => chnF l 17 x.2.1) = false := by
    rw [List.all_eq_false]
    exact ⟨_, List.getElem_mem h, by simp [hx]⟩
  rw [this]
  simp
theorem chn_step {l : List Iz} {k : Nat} (h : k < l.length) (ha : (l.take k).all (fun x => chnF l 17 x.2.1) = true) (hx : chnF l 17 l[k].2.1 = true) : (l.take (k + 1)).all (fun x => chnF l 17 x.2.1) = true := by
  rw [List.take_succ_eq_append_getElem h, List.all_append, ha]
  simp [hx]
/-- parents that are right lie in the list -/
theorem ok_par {l : List Iz} {t : List Nd} (h : l.all (okI l t) = true) : ∀ x ∈ l, x.2.1 = -1 ∨ 0 ≤ x.2.1 ∧ x.2.1 < (l.length : Int) := by
  intro x hx
  have h1 := List.all_eq_true.1 h x hx
  unfold okI at h1
  split at h1
  · rw [decide_eq_true_eq] at h1
    left
    rw [h1]
  · simp only [Bool.and_eq_true, Bool.or_eq_true, decide_eq_true_eq] at h1
    rcases h1.2.2.2.2 with g | g
    · exact Or.inl g
    · right
      unfold alvF at g
      simp only [Bool.and_eq_true, decide_eq_true_eq] at g
      exact g.1

/-
  Formed of the document's answer for machines.
-/
theorem prm_rng : ∀ p ∈ prmL, 0 ≤ p.2 ∧ p.2 < 1000 := by
  have h : prmL.all (fun p => decide (0 ≤ p.2 ∧ p.2 < 1000)) = true := by decide +kernel
  exact fun p hp => of_decide_eq_true (List.all_eq_true.1 h p hp)
theorem prm_byt : ∀ p ∈ prmL, bytesL p.1 := by
  have h : prmL.all (fun p => p.1.all (fun c => decide (0 ≤ c ∧ c < 256))) = true := by decide +kernel
  exact fun p hp c hc => of_decide_eq_true (List.all_eq_true.1 (List.all_eq_true.1 h p hp) c hc)
/-- the word at a place is right -/
def okW (ws : List Wd) (t : List Nd) (i : Nat) (x : Wd) : Bool := if i < 111 then decide (x = prmW (prmL.getD i ([], 0))) else wofF x ws.length t
theorem wds_yes {ws : List Wd} {t : List Nd} (h1 : 111 ≤ ws.length) (h2 : ws.length ≤ 640) (h : ∀ i (hi : i < ws.length), okW ws t i ws[i] = true) : wdsF ws t = true := by
  unfold wdsF
  rw [decide_eq_true ⟨h1, h2⟩, Bool.true_and, Bool.and_eq_true]
  constructor
  · rw [decide_eq_true_eq]
    apply List.ext_getElem
    · simp [prm_len]
      omega
    · intro i hi1 hi2
      have hi : i < 111 := by simp at hi1; omega
      have := h i (by omega)
      unfold okW at this
      rw [if_pos hi, decide_eq_true_eq] at this
      rw [List.getElem_take, List.getElem_map, this, List.getD_eq_getElem?_getD, List.getElem?_eq_getElem (by rw [prm_len]; exact hi), Option.getD_some]
  · rw [List.all_eq_true]
    intro x hx
    obtain ⟨i, hi, rfl⟩ := List.getElem_of_mem hx
    have hi2 : 111 + i < ws.length := by simp at hi; omega
    have := h (111 + i) hi2
    unfold okW at this
    rw [if_neg (by omega)] at this
    rw [List.getElem_drop]
    exact this
theorem wds_no {ws : List Wd} {t : List Nd} {i : Nat} (hi : i < ws.length) (h : okW ws t i ws[i] = false) : wdsF ws t = false := by
  rw [Bool.eq_false_iff]
  intro g
  unfold wdsF at g
  simp only [Bool.and_eq_true, decide_eq_true_eq, List.all_eq_true] at g
  obtain ⟨⟨g1, g2⟩, g3, g4⟩ := g
  unfold okW at h
  split at h
  · rename_i hlt
    rw [decide_eq_false_iff_not] at h
    apply h
    have e1 : (ws.take 111)[i]? = (prmL.map prmW)[i]? := by rw [g3]
    rw [List.getElem?_take_of_lt hlt, List.getElem?_eq_getElem hi, List.getElem?_map, List.getElem?_eq_getElem (by rw [prm_len]; exact hlt)] at e1
    rw [List.getD_eq_getElem?_getD, List.getElem?_eq_getElem (by rw [prm_len]; exact hlt), Option.getD_some]
    simpa using e1
  · rename_i hge
    have hm : ws[i] ∈ ws.drop 111 := by
      rw [List.mem_drop_iff_getElem]
      exact ⟨i - 111, by omega, by congr 1; omega⟩
    rw [g4 _ hm] at h
    cases h
theorem cds_no {c : List Int} {n i : Nat} (hi : i < c.length) (h : ¬ (-1 ≤ c[i] ∧ c[i] < n)) : cdsF c n = false := by
  rw [Bool.eq_false_iff]
  intro g
  unfold cdsF at g
  simp only [Bool.and_eq_true, decide_eq_true_eq, List.all_eq_true] at g
  exact h (g.2 _ (List.getElem_mem hi))
theorem frm_no {m : Mc} (h : ¬ (m.stack.length ≤ 64 ∧ m.mem.length ≤ 4096 ∧ 2 ≤ m.base ∧ m.base ≤ 36 ∧ m.out.length ≤ 1024 ∧ frmT m.tree = true ∧ (-1 ≤ m.node ∧ m.node < m.tree.length) ∧ insF m.insts m.tree = true ∧ (m.self = -1 ∨ alvF m.insts m.self = true) ∧ wdsF m.words m.tree = true ∧ cdsF m.codes m.words.length = true)) : frmM m = false := by
  rw [Bool.eq_false_iff]
  intro g
  unfold frmM at g
  simp only [Bool.and_eq_true, Bool.or_eq_true, decide_eq_true_eq] at g
  obtain ⟨⟨g1, g2, g3, g4, g5⟩, g6, g7, g8, g9, g10, g11⟩ := g
  exact h ⟨g1, g2, g3, g4, g5, g6, g7, g8, g9, g10, g11⟩
theorem frm_yes {m : Mc} (g1 : m.stack.length ≤ 64) (g2 : m.mem.length ≤ 4096) (g3 : 2 ≤ m.base) (g4 : m.base ≤ 36) (g5 : m.out.length ≤ 1024) (g6 : frmT m.tree = true) (g7 : -1 ≤ m.node ∧ m.node < m.tree.length) (g8 : insF m.insts m.tree = true) (g9 : m.self = -1 ∨ alvF m.insts m.self = true) (g10 : wdsF m.words m.tree = true) (g11 : cdsF m.codes m.words.length = true) : frmM m = true := by
  unfold frmM
  simp only [Bool.and_eq_true, Bool.or_eq_true, decide_eq_true_eq]
  exact ⟨⟨g1, g2, g3, g4, g5⟩, g6, g7, g8, g9, g10, g11⟩
/-- what is asked of a machine that comes in: bytes, lengths, numbers -/
structure gdM (m : Mc) : Prop where
  by' : byM m
  len : ∀ x ∈ m.tree, lenN x
  nam : ∀ x ∈ m.words, x.1.length ≤ maxLen
  ops : ∀ x ∈ m.words, ∀ y ∈ x.2.2.2.2, 0 ≤ y.2 ∧ y.2 < 4294967296
  num : ∀ x ∈ m.words, 0 ≤ x.2.2.2.1 ∧ x.2.2.2.1 < 4294967296
  arg : ∀ x ∈ m.insts, x.2.2.1.length ≤ maxLen
theorem uA : Try.prog.underlying 23 = some (.slice (Try.prog.elem 23)) := by kernel_rfl

/-
  Define of the document's answer.
-/
/-- a struct out of its cells, and two values besides -/
theorem results_row3 {P : Program} {fn : Func} {p a b : Tmp} {ty : TypeId} (h : fn.results = #[.cell p ty, .tmp a, .tmp b]) (tmps : Array Value) (w : World) (g : Nat) (t : TypeId) (cs : Array Value) (fr : Nat × Nat) (d : TypeDesc)
    (hp : tmps.getD p undef = .pointer (some ⟨g, 0, none⟩)) (hg : w.heap[g]? = some (.cells cs t fr))
    (hu : P.underlying ty = some d) (hd : (match d with | .struct _ | .array _ _ => true | _ => false) = true) (hi : (P.info? ty).map (·.size) = some cs.size) :
    (results fn tmps).run P w = .ok (.tuple #[.agg cs, tmps.getD a undef, tmps.getD b undef]) w := by
  have hp' : tmps[p]?.getD undef = .pointer (some ⟨g, 0, none⟩) := by simpa using hp
  simp [results, h, hp', asAddr, run_loadVar_row w g t ty cs fr d hg hu hd hi]
def nilV : Mv := ⟨.slice none 0 0, .slice none 0 0, .slice none 0 0, .slice none 0 0, .slice none 0 0, .slice none 0 0⟩
theorem own_nilM (base : Nat) (w : World) : OwM base w nilV nilM ⟨#[]⟩ :=
  ⟨World.ownsRow_nil _ _ _ _, World.ownsRow_nil _ _ _ _, OwnR.nil _ _ _ _ _, World.ownsRow_nil _ _ _ _, OwnR.nil _ _ _ _ _, OwnR.nil _ _ _ _ _, by decide +kernel⟩
theorem dfn_no1 {m : Mc} {x : Wd} (h : frmM m = false ∨ wofF x (m.words.length + 1) m.tree = false) : dfnF m x = (nilM, 0, 1) := by unfold dfnF; rw [if_pos h]
theorem dfn_no2 {m : Mc} {x : Wd} (h : ¬ (frmM m = false ∨ wofF x (m.words.length + 1) m.tree = false)) (h2 : 640 ≤ m.words.length) : dfnF m x = (nilM, 0, 22) := by unfold dfnF; rw [if_neg h, if_pos h2]

end Go.Proofs.Ytfljcfpcokimcab
