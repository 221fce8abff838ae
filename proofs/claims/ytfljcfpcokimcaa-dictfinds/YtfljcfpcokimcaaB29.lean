/-
  Texts of one proof, laid one behind the other: Tf7.
-/
import Derived.Test.YtfljcfpcokimcaaB28
import Derived.Deep.RegionHeld
import Derived.Deep.Cut
import Derived.Deep.CutRange
import Derived.Deep.DeepCutAuto
namespace Go.Proofs.Ytfljcfpcokimcaa
open Go.ChangeShapes Go.WideShapes Go.ChangeAt Go.RowKit
set_option linter.unusedVariables false
set_option linter.unusedSimpArgs false

/-
  Package tree's Copy.
-/
theorem gb_refl (w : World) (r : Option Nat) : w.grownBy w r := ⟨rfl, rfl, rfl, Nat.le_refl _, fun _ _ _ => rfl⟩
theorem gb_below {a b c : World} {r : Option Nat} (h : a.grownBy b r) (g : Below b.heap.size b c) : a.grownBy c r :=
  ⟨g.os.trans h.os, g.tape.trans h.tape, g.output.trans h.output, Nat.le_trans h.size g.size, fun k hk hne => (g.block k (Nat.lt_of_lt_of_le hk h.size)).trans (h.block k hk hne)⟩
theorem gb_set {a b : World} {g : Nat} (h : a.grownBy b (some g)) (j : Nat) (u : Value) : a.grownBy (b.setCell ⟨g, j, none⟩ u) (some g) :=
  ⟨h.os, h.tape, h.output, by simpa [World.setCell] using h.size, fun k hk hne => (Below.heap_setCell _ _ _ k (fun e => hne (by rw [e]))).trans (h.block k hk hne)⟩
theorem gb_new {a b : World} {r : Option Nat} {g : Nat} (h : a.grownBy b r) (hg : a.heap.size ≤ g) (j : Nat) (u : Value) : a.grownBy (b.setCell ⟨g, j, none⟩ u) r :=
  ⟨h.os, h.tape, h.output, by simpa [World.setCell] using h.size, fun k hk hne => (Below.heap_setCell _ _ _ k (fun e => by have e2 : k = g := e; omega)).trans (h.block k hk hne)⟩
/-- the row of devices that a copy works on -/
def OwA (base g n cap : Nat) (w : World) (rs : List (List Value)) : Prop := (∀ r ∈ rs, r.length = 5) ∧ rs.length = n ∧ w.ownsRow base 91 5 (.slice (some ⟨g, 0, none⟩) n cap) n rs.flatten
theorem OwA.cell {base g n cap : Nat} {w : World} {rs : List (List Value)} (h : OwA base g n cap w rs) (i j : Nat) (hi : i < n) (hj : j < 5) (u : Value) (hu : (rs.getD i [])[j]? = some u) : w.cell? ⟨g, i * 5 + j, none⟩ = some u :=
  own_cell h.2.2 (i * 5 + j) u (by rw [flat_get rs 5 i j h.1 (by rw [h.2.1]; exact hi) hj]; exact hu)
theorem OwA.free {base g n cap : Nat} {w : World} {rs : List (List Value)} (h : OwA base g n cap w rs) (j : Nat) : w.frozen? ⟨g, j, none⟩ = false := h.2.2.frozenAt j
theorem OwA.kept {base g n cap : Nat} {T : TypeId} {w w' : World} {rs : List (List Value)} (h : OwA base g n cap w rs) (k : Kept T w w') (hne : ¬ 91 = T) : OwA base g n cap w' rs := ⟨h.1, h.2.1, own_kept k hne h.2.2⟩
theorem OwA.below {base g n cap : Nat} {w w' : World} {rs : List (List Value)} (h : OwA base g n cap w rs) (k : Below w.heap.size w w') : OwA base g n cap w' rs := h.kept (T := 5) (Kept.below k) (by decide)
theorem set_getD {α : Type} (rs : List (List α)) (i : Nat) (r : List α) (h : i < rs.length) : (rs.set i r).getD i [] = r := by
  rw [List.getD_eq_getElem?_getD, List.getElem?_set_self h]
  rfl
theorem OwA.set {base g n cap : Nat} {w : World} {rs : List (List Value)} {i : Nat} {r : List Value} (h : OwA base g n cap w (rs.set i r)) (hi : i < n) (j : Nat) (hj : j < 5) (u : Value) : OwA base g n cap (w.setCell ⟨g, i * 5 + j, none⟩ u) (rs.set i (r.set j u)) ∧ Kept 91 w (w.setCell ⟨g, i * 5 + j, none⟩ u) := by
  obtain ⟨h1, h2, h3⟩ := h
  have hl : i < (rs.set i r).length := by rw [h2]; exact hi
  have hl2 : i < rs.length := by simpa using hl
  obtain ⟨s1, s2⟩ := h3.stored (i * 5 + j) u
  rw [flat_set (rs.set i r) 5 i j u h1 hl hj, set_getD rs i r hl2, List.set_set] at s1
  refine ⟨⟨fun q hq => ?_, by simpa using h2, s1⟩, Kept.own (v := .slice (some ⟨g, 0, none⟩) n cap) h3 s2⟩
  obtain ⟨m, hm, rfl⟩ := List.getElem_of_mem hq
  rw [List.getElem_set]
  split
  · rw [List.length_set]
    exact h1 r (List.mem_iff_getElem.2 ⟨i, hl, by simp⟩)
  · rename_i e
    have e2 : (rs.set i r)[m]'(by simpa using hm) = rs[m]'(by simpa using hm) := by rw [List.getElem_set, if_neg e]
    rw [← e2]
    exact h1 _ (List.getElem_mem _)
/-- the row of properties that a copy works on: those ahead of k are the call's own, the others as they were -/
def PrI (base gb : Nat) (wo : World) (vP : Value) (Ps : List Pp) (prow : List (List Value)) (k : Nat) (w : World) : Prop :=
  ∃ prs : List (List Value), prs.length = Ps.length ∧ (∀ r ∈ prs, r.length = 2) ∧ w.ownsRow gb 101 2 vP Ps.length prs.flatten ∧ (∀ j (h : j < Ps.length), j < k → propO gb w (prs.getD j []) Ps[j]) ∧ (∀ j, k ≤ j → prs.getD j [] = prow.getD j [])
/-- the devices that a copy works on: those ahead of i are the call's own, the others as they were -/
def NdI (base g cap : Nat) (t : List Nd) (rows : List (List Value)) (i : Nat) (w : World) : Prop :=
  ∃ rs : List (List Value), OwA base g t.length cap w rs ∧ (∀ j (h : j < t.length), j < i → nodO base w (rs.getD j []) t[j]) ∧ SepR (rs.take i) ∧ (∀ j, i ≤ j → rs.getD j [] = rows.getD j [])

set_option maxHeartbeats 4000000 in
set_option maxRecDepth 100000 in
theorem w_p8copyS (v : Value) (t : List Nd) (w : World) (h : RdT w v t) (hz : t.length * 96 ≤ 140737488355328) (hs : ∀ x ∈ t, sizN x) :
    Calls Try.prog 56 #[v] w fun e w' => ∃ v1, e = .returned v1 ∧ OwnTS w.heap.size w' v1 t ∧ Below w.heap.size w w' := by
  obtain ⟨rows, hr1, hr2, hr3⟩ := h
  have hone : ∀ r ∈ rows, ∀ u ∈ r, u.oneCell' = true := by
    intro r hr u hu
    obtain ⟨i, hi, rfl⟩ := List.getElem_of_mem hr
    obtain ⟨vu, vp, vc, e, g1, g2, g3⟩ := hr3 i (by omega)
    rw [List.getD_eq_getElem?_getD, List.getElem?_eq_getElem hi] at e
    simp only [Option.getD_some] at e
    rw [e] at hu
    obtain ⟨a1, c1, rfl⟩ := rd_slice g1
    obtain ⟨a2, c2, rfl⟩ := slr_slice g2
    obtain ⟨a3, c3, rfl⟩ := rd_slice g3
    simp at hu
    rcases hu with rfl | rfl | rfl | rfl | rfl <;> rfl
  have cN := w_pcloneN v rows w hr1 hone (by rw [hr2]; exact hz)
  rw [hr2] at cN
  by_cases h0 : t.length = 0
  · have ht : t = [] := List.eq_nil_of_length_eq_zero h0
    subst ht
    have hn : rows = [] := List.eq_nil_of_length_eq_zero (by simpa using hr2)
    subst hn
    go_enter Try.func56, Try.ntmps56
    go_wp2_with (go_at_call 82; refine cN.mono ?_; rintro e w1 ⟨v1, rfl, o1, b1⟩; obtain ⟨ao, ac, rfl⟩ := own_form o1)
    go_rounds 1
    go_ret
    exact ⟨_, rfl, ⟨[], rfl, by simp, o1, fun i hi => by simp at hi, fun i j g h1 h2 => by simp at h2⟩, b1⟩
  · have hrl : ∀ r ∈ rows, r.length = 5 := by
      intro r hr
      obtain ⟨i, hi, rfl⟩ := List.getElem_of_mem hr
      obtain ⟨vu, vp, vc, e, g1, g2, g3⟩ := hr3 i (by omega)
      rw [List.getD_eq_getElem?_getD, List.getElem?_eq_getElem hi] at e
      simp only [Option.getD_some] at e
      rw [e]
      rfl
    have ht0 : 0 < t.length := by omega
    have hzI : (t.length : Int) * 96 ≤ 140737488355328 := by omega
    clear h0 hr1 hone
    go_enter Try.func56, Try.ntmps56
    go_wp2_with (go_at_call 82; refine cN.mono ?_; rintro e w1 ⟨v1, rfl, o1, b1⟩; obtain ⟨g, cap, rfl⟩ := own_some o1 ht0)
    have hgb := (o1.lt g rfl).1
    have N0 : NdI w.heap.size g cap t rows 0 w1 := ⟨rows, ⟨hrl, hr2, o1⟩, fun j h hj => by omega, fun i j g h1 h2 => by simp at h2, fun j hj => rfl⟩
    clear cN o1 hrl hr2
    go_loopw [11] (fun I wx => ∃ (i : Nat), (i : Int) ≤ t.length ∧ I = .int .i64 i ∧ NdI w.heap.size g cap t rows i wx ∧ Below w.heap.size w wx) (fun I _ => (t.length - intOf I).toNat)
    case atStart => exact ⟨0, by omega, rfl, N0, b1⟩
    case round =>
      clear N0 b1
      obtain ⟨i, hi, rfl, hN, hb⟩ := hrel
      by_cases hlt : (i : Int) < t.length
      · have hil : i < t.length := by omega
        obtain ⟨rs, hA, hno, hsep, hrest⟩ := hN
        obtain ⟨W0, rfl⟩ : ∃ W0, W0 = wr := ⟨_, rfl⟩
        obtain ⟨vu, vp, vc, hrow, ru, rp, rc⟩ := hr3 i hil
        have hri := hrest i (Nat.le_refl _)
        rw [hrow] at hri
        obtain ⟨s1, s2, s3, s4⟩ := hs _ (List.getElem_mem hil)
        have rpR := rp
        obtain ⟨prow, hp1, hp2, hp3⟩ := rp
        have hpo : ∀ r ∈ prow, ∀ u ∈ r, u.oneCell' = true := by
          intro r hr u hu
          obtain ⟨m, hm, rfl⟩ := List.getElem_of_mem hr
          obtain ⟨vd, e, g1⟩ := hp3 m (by omega)
          rw [List.getD_eq_getElem?_getD, List.getElem?_eq_getElem hm] at e
          simp only [Option.getD_some] at e
          rw [e] at hu
          obtain ⟨a1, c1, rfl⟩ := rd_slice g1
          simp at hu
          rcases hu with rfl | rfl <;> rfl
        have hpl : ∀ r ∈ prow, r.length = 2 := by
          intro r hr
          obtain ⟨m, hm, rfl⟩ := List.getElem_of_mem hr
          obtain ⟨vd, e, g1⟩ := hp3 m (by omega)
          rw [List.getD_eq_getElem?_getD, List.getElem?_eq_getElem hm] at e
          simp only [Option.getD_some] at e
          rw [e]
          rfl
        obtain ⟨ua, uq, rfl⟩ := rd_slice ru
        obtain ⟨pa, pq, rfl⟩ := slr_slice rpR
        obtain ⟨ca, cq, rfl⟩ := rd_slice rc
        obtain ⟨P, hP⟩ : ∃ P, t[i].2.2.1 = P := ⟨_, rfl⟩
        obtain ⟨nm, hnm⟩ : ∃ nm, strOfNums t[i].1 = nm := ⟨_, rfl⟩
        obtain ⟨Ps, hPs⟩ : ∃ Ps, t[i].2.2.2.1 = Ps := ⟨_, rfl⟩
        rw [hP, hnm] at hri
        rw [hPs] at hri hp2 s3 s4 hp1
        simp only [hPs] at hp3
        have hrsl : i < rs.length := by rw [hA.2.1]; exact hil
        have hset : rs.set i [.string nm, .slice ua t[i].2.1.length uq, .int .i64 P, .slice pa Ps.length pq, .slice ca t[i].2.2.2.2.length cq] = rs := by
          rw [← hri, List.getD_eq_getElem?_getD, List.getElem?_eq_getElem hrsl]
          simp
        have hA0 : OwA w.heap.size g t.length cap W0 (rs.set i [.string nm, .slice ua t[i].2.1.length uq, .int .i64 P, .slice pa Ps.length pq, .slice ca t[i].2.2.2.2.length cq]) := by rw [hset]; exact hA
        have HA := hid hA
        have cu := fun W (g : Below w.heap.size w W) => w_pclone32 _ _ W (ru.below g) s1
        have cc := fun W (g : Below w.heap.size w W) => w_pclone32 _ _ W (rc.below g) s2
        have cp := fun W (g : Below w.heap.size w W) => w_pcloneP _ prow W (hp1.below g) hpo (by rw [hp2]; exact s3)
        simp only [hp2] at cp
        have hix := idx_node g t.length cap i hil
        have c1 := hA0.cell i 1 hil (by decide) _ (by rw [set_getD rs i _ hrsl]; rfl)
        have hPm : (Ps.length : Int) * 40 ≤ 140737488355328 := by omega
        clear hset hri hA hrow s1 s2 s3
        go_upto_region 7 with (go_at_call 51; refine (cu _ hb).mono ?_; rintro e w2 ⟨vU, rfl, oU, bU⟩; obtain ⟨uo, uc, rfl⟩ := own_form oU; have y1 := below_cell bU c1; have y2 := (hA0.below bU).free (i * 5 + 1))
        obtain ⟨hA3, k3⟩ := (hA0.below bU).set hil 1 (by decide) (.slice uo t[i].2.1.length uc)
        have hA3 : OwA w.heap.size g t.length cap _ (rs.set i [.string nm, .slice uo t[i].2.1.length uc, .int .i64 P, .slice pa Ps.length pq, .slice ca t[i].2.2.2.2.length cq]) := hA3
        have oU3 := own_kept k3 (by decide) oU
        have B3 := below_set (below_trans hb bU) g (i * 5 + 1) (.slice uo t[i].2.1.length uc) hgb
        have G3 := gb_set (gb_below (gb_refl W0 (some g)) bU) (i * 5 + 1) (.slice uo t[i].2.1.length uc)
        generalize w2.setCell ⟨g, i * 5 + 1, none⟩ (.slice uo t[i].2.1.length uc) = w3 at hA3 oU3 B3 G3 k3 ⊢
        have c4 := hA3.cell i 4 hil (by decide) _ (by rw [set_getD rs i _ hrsl]; rfl)
        clear y1 y2 c1 hA0 oU bU k3 cu
        go_upto_region 8 with (go_at_call 51; refine (cc _ B3).mono ?_; rintro e w4 ⟨vC, rfl, oC, bC⟩; obtain ⟨co, ccap, rfl⟩ := own_form oC; have y1 := below_cell bC c4; have y2 := (hA3.below bC).free (i * 5 + 4))
        obtain ⟨hA5, k5⟩ := (hA3.below bC).set hil 4 (by decide) (.slice co t[i].2.2.2.2.length ccap)
        have hA5 : OwA w.heap.size g t.length cap _ (rs.set i [.string nm, .slice uo t[i].2.1.length uc, .int .i64 P, .slice pa Ps.length pq, .slice co t[i].2.2.2.2.length ccap]) := hA5
        have oC5 := own_le G3.size (own_kept k5 (by decide) oC)
        have oU5 := own_kept k5 (by decide) (own_below oU3 bC)
        have B5 := below_set (below_trans B3 bC) g (i * 5 + 4) (.slice co t[i].2.2.2.2.length ccap) hgb
        have G5 := gb_set (gb_below G3 bC) (i * 5 + 4) (.slice co t[i].2.2.2.2.length ccap)
        generalize w4.setCell ⟨g, i * 5 + 4, none⟩ (.slice co t[i].2.2.2.2.length ccap) = w5 at hA5 oC5 oU5 B5 G5 k5 ⊢
        have c3 := hA5.cell i 3 hil (by decide) _ (by rw [set_getD rs i _ hrsl]; rfl)
        clear y1 y2 c4 hA3 oC oU3 bC k5 cc B3 G3
        go_upto_region 9 with (go_at_call 83; refine (cp _ B5).mono ?_; rintro e w6 ⟨vP, rfl, oP, bP⟩; obtain ⟨po, pcap, rfl⟩ := own_form oP; have y1 := below_cell bP c3; have y2 := (hA5.below bP).free (i * 5 + 3))
        obtain ⟨hA7, k7⟩ := (hA5.below bP).set hil 3 (by decide) (.slice po Ps.length pcap)
        have hA7 : OwA w.heap.size g t.length cap _ (rs.set i [.string nm, .slice uo t[i].2.1.length uc, .int .i64 P, .slice po Ps.length pcap, .slice co t[i].2.2.2.2.length ccap]) := hA7
        have oP7 := own_le G5.size (own_kept k7 (by decide) oP)
        have oC7 := own_kept k7 (by decide) (own_below oC5 bP)
        have oU7 := own_kept k7 (by decide) (own_below oU5 bP)
        have B7 := below_set (below_trans B5 bP) g (i * 5 + 3) (.slice po Ps.length pcap) hgb
        have G7 := gb_set (gb_below G5 bP) (i * 5 + 3) (.slice po Ps.length pcap)
        generalize w6.setCell ⟨g, i * 5 + 3, none⟩ (.slice po Ps.length pcap) = w7 at hA7 oP7 oC7 oU7 B7 G7 k7 ⊢
        have c3 := hA7.cell i 3 hil (by decide) _ (by rw [set_getD rs i _ hrsl]; rfl)
        have PI0 : PrI w.heap.size W0.heap.size w (.slice po Ps.length pcap) Ps prow 0 w7 := ⟨prow, hp2, hpl, oP7, fun j h hj => by omega, fun j hj => rfl⟩
        clear y1 y2 hA5 oP oC5 oU5 bP k7 cp B5 G5 oP7
        have hsR := hid hsep
        have hnoR := hid hno
        have hrestR := hid hrest
        have hgW : w.heap.size ≤ W0.heap.size := hb.size
        clear hsep hno hrest
        go_wp2_with fail
        go_loopw [46] (fun K wx => ∃ (k : Nat), (k : Int) ≤ Ps.length ∧ K = .int .i64 k ∧ PrI w.heap.size W0.heap.size w (.slice po Ps.length pcap) Ps prow k wx ∧ OwA w.heap.size g t.length cap wx (rs.set i [.string nm, .slice uo t[i].2.1.length uc, .int .i64 P, .slice po Ps.length pcap, .slice co t[i].2.2.2.2.length ccap]) ∧ wx.ownsRow W0.heap.size 28 1 (.slice uo t[i].2.1.length uc) t[i].2.1.length (t[i].2.1.map (Value.int .u32)) ∧ wx.ownsRow W0.heap.size 28 1 (.slice co t[i].2.2.2.2.length ccap) t[i].2.2.2.2.length (t[i].2.2.2.2.map (Value.int .u32)) ∧ W0.grownBy wx (some g) ∧ Below w.heap.size w wx) (fun K _ => (Ps.length - intOf K).toNat)
        case atStart => exact ⟨0, by omega, rfl, PI0, hA7, oU7, oC7, G7, B7⟩
        case round =>
          clear PI0 hA7 oU7 oC7 G7 B7 c3
          obtain ⟨k, hk, rfl, hPI, hA8, oU8, oC8, G8, B8⟩ := hrel
          by_cases hlk : (k : Int) < Ps.length
          · have hkl : k < Ps.length := by omega
            obtain ⟨prs, z1, z2, z3, z4, z5⟩ := hPI
            obtain ⟨gP, cP, hgP⟩ := own_some z3 (by omega)
            simp only [Value.slice.injEq] at hgP
            obtain ⟨rfl, -, rfl⟩ := hgP
            obtain ⟨vd, hpr, rd⟩ := hp3 k hkl
            have hpk := z5 k (Nat.le_refl _)
            rw [hpr] at hpk
            obtain ⟨da, dq, rfl⟩ := rd_slice rd
            have cd := fun W (g : Below w.heap.size w W) => w_pclone8 _ _ W (rd.below g) (s4 _ (List.getElem_mem hkl))
            have c3 := hA8.cell i 3 hil (by decide) _ (by rw [set_getD rs i _ hrsl]; rfl)
            have hip := idx_prop gP Ps.length pcap k hkl
            have hold : prs.flatten[k * 2 + 1]? = some (.slice da Ps[k].2.length dq) := by rw [flat_get prs 2 k 1 z2 (by omega) (by decide), hpk]; rfl
            have cD := own_cell z3 (k * 2 + 1) _ hold
            have hne : gP ≠ g := by
              intro e
              subst e
              rcases hA8.2.2.2 with ⟨hh, _⟩ | ⟨g', c', cur, hh, _, x1, _⟩
              · simp at hh
              · rcases z3.2 with ⟨hh2, _⟩ | ⟨g2', c2', cur2, hh2, _, x2, _⟩
                · simp at hh2
                · simp at hh hh2
                  obtain ⟨rfl, -⟩ := hh
                  obtain ⟨rfl, -⟩ := hh2
                  rw [x1] at x2
                  simp at x2
            have HS : Hid (∀ W, Below wr.heap.size wr W → W.cell? ⟨g, i * 5 + 3, none⟩ = some (.slice (some ⟨gP, 0, none⟩) Ps.length pcap)) := fun W q => below_cell q c3
            have hrd : Hid (Below wr.heap.size wr wr.drew) := below_drewN (Below.refl _ _) 1
            have hbd : Hid (Below w.heap.size w wr.drew) := below_drewN B8 1
            have CD := hid cd
            have T1 : Hid (∀ qD, Below wr.heap.size wr qD → qD.ownsRow W0.heap.size 101 2 (.slice (some ⟨gP, 0, none⟩) Ps.length pcap) Ps.length prs.flatten) := fun qD q => own_kept (T := 5) (Kept.below q) (by decide) z3
            have T2 : Hid (∀ qD, Below wr.heap.size wr qD → qD.cell? ⟨gP, k * 2 + 1, none⟩ = some (.slice da Ps[k].2.length dq)) := fun qD q => below_cell q cD
            have T3 : Hid (∀ qD, Below wr.heap.size wr qD → qD.frozen? ⟨gP, k * 2 + 1, none⟩ = false) := fun qD q => (T1.out qD q).frozenAt (k * 2 + 1)
            have T4 : Hid (∀ qD, Below wr.heap.size wr qD → ∀ u, (qD.setCell ⟨gP, k * 2 + 1, none⟩ u).cell? ⟨g, i * 5 + 3, none⟩ = some (.slice (some ⟨gP, 0, none⟩) Ps.length pcap)) := fun qD q u => by
              rw [World.cell?_setCell_far _ _ _ _ (by exact hne)]
              exact HS.out _ q
            have Z3 := hid z3
            clear cd z3 hold
            go_wp2_with fail
            go_region_with (go_at_call 52; refine (CD.out _ (by with_reducible exact hbd.out)).mono ?_; rintro e qD ⟨vD, rfl, oD, bD'⟩; obtain ⟨dd, dcap, rfl⟩ := own_form oD; have RD : Hid (Below wr.heap.size wr qD) := below_trans hrd.out bD'; have y0 := HS.out qD RD.out; have y1 := T2.out qD RD.out; have y2 := T3.out qD RD.out; have OD := hid oD; clear oD bD')
            all_goals (
              go_wp2_with fail
              have bD := RD.out
              have z3' := T1.out qD bD
              obtain ⟨w8, hw8⟩ : ∃ w8, qD.setCell ⟨gP, k * 2 + 1, none⟩ (.slice dd Ps[k].2.length dcap) = w8 := ⟨_, rfl⟩
              have gr : qD.grownBy w8 (some gP) := by rw [← hw8]; exact (z3'.stored (k * 2 + 1) _).2
              have kp : Kept 101 qD w8 := Kept.own z3' gr
              have hgP8 : W0.heap.size ≤ gP := (z3'.lt gP rfl).1
              have hset := z3'.stored (k * 2 + 1) (.slice dd Ps[k].2.length dcap)
              rw [flat_set prs 2 k 1 _ z2 (by omega) (by decide), hpk, hw8] at hset
              have PI9 : PrI w.heap.size W0.heap.size w (.slice (some ⟨gP, 0, none⟩) Ps.length pcap) Ps prow (k + 1) w8 := by
                refine ⟨prs.set k [.string (strOfNums Ps[k].1), .slice dd Ps[k].2.length dcap], by simpa using z1, fun r hr => ?_, hset.1, fun j hj hjk => ?_, fun j hj => ?_⟩
                · rcases List.mem_or_eq_of_mem_set hr with hr | rfl
                  · exact z2 r hr
                  · rfl
                · by_cases e : j = k
                  · subst e
                    rw [set_getD prs j _ (by omega)]
                    exact ⟨_, rfl, own_kept kp (by decide) (own_le (Nat.le_trans G8.size hrd.out.size) OD.out)⟩
                  · rw [List.getD_eq_getElem?_getD, List.getElem?_set_ne (fun e2 => e e2.symm), ← List.getD_eq_getElem?_getD]
                    exact propO_apt (by decide) _ _ _ _ kp (propO_below bD _ _ (z4 j hj (by omega)))
                · rw [List.getD_eq_getElem?_getD, List.getElem?_set_ne (by omega), ← List.getD_eq_getElem?_getD]
                  exact z5 j (by omega)
              have hA9 := (hA8.below bD).kept kp (by decide)
              have oU9 := own_kept kp (by decide) (own_below oU8 bD)
              have oC9 := own_kept kp (by decide) (own_below oC8 bD)
              have G9 : W0.grownBy w8 (some g) := by rw [← hw8]; exact gb_new (gb_below G8 bD) hgP8 _ _
              have B9 : Below w.heap.size w w8 := by rw [← hw8]; exact below_set (below_trans B8 bD) gP _ _ (by omega)
              rw [hw8]
              go_roundw
              case rel => exact ⟨k + 1, by omega, by go_num, PI9, hA9, oU9, oC9, G9, B9⟩
              case measure => simp [intOf]; omega)
          · have hkp : k = Ps.length := by omega
            subst hkp
            obtain ⟨prs, z1, z2, z3, z4, z5⟩ := hPI
            have kN : Kept 91 W0 wr := ⟨some g, G8, fun q hq => by
              cases hq
              obtain ⟨_, _, o⟩ := HA.out
              rcases o.2 with ⟨hh, _⟩ | ⟨g', c', cur, hh, _, x1, _⟩
              · simp at hh
              · simp at hh
                obtain ⟨rfl, -⟩ := hh
                exact ⟨cur, _, x1⟩⟩
            have hN9 : NdI w.heap.size g cap t rows (i + 1) wr := by
              refine ⟨_, hA8, fun j hj hji => ?_, ?_, fun j hj => ?_⟩
              · by_cases e : j = i
                · subst e
                  rw [set_getD rs j _ hrsl]
                  exact ⟨_, _, _, by rw [hnm, hP], own_le hgW oU8, by rw [hPs]; exact ⟨prs, z1, z2, own_le hgW z3, fun m hm => propO_le hgW _ _ (z4 m hm hm)⟩, own_le hgW oC8⟩
                · rw [List.getD_eq_getElem?_getD, List.getElem?_set_ne (fun e2 => e e2.symm), ← List.getD_eq_getElem?_getD]
                  exact nodO_apt (by decide) (by decide) (by decide) _ _ _ _ kN (hnoR.out j hj (by omega))
              · have hl1 : ∀ q, q < rs.length → ((rs.set i [Value.string nm, .slice uo t[i].2.1.length uc, .int .i64 P, .slice po Ps.length pcap, .slice co t[i].2.2.2.2.length ccap]).take (i + 1)) = rs.take i ++ [[Value.string nm, .slice uo t[i].2.1.length uc, .int .i64 P, .slice po Ps.length pcap, .slice co t[i].2.2.2.2.length ccap]] := by
                  intro q hq
                  rw [List.take_succ_eq_append_getElem (by simpa using hrsl), List.take_set_of_le (Nat.le_refl _)]
                  simp
                rw [hl1 i hrsl]
                refine sep_snoc hsR.out fun j q hj hq hq2 => ?_
                have hji : j < i := by simp at hj; omega
                have e1 : (rs.take i).getD j [] = rs.getD j [] := by rw [List.getD_eq_getElem?_getD, List.getElem?_take, if_pos hji, ← List.getD_eq_getElem?_getD]
                rw [e1] at hq
                obtain ⟨vu9, vp9, vc9, hv9, -, op9, -⟩ := hnoR.out j (by omega) hji
                obtain ⟨cs9, o9⟩ := op9.row
                rw [hv9] at hq
                have a1 := (o9.lt q (by simpa using hq)).2
                have a2 := (z3.lt q (by simpa using hq2)).1
                omega
              · rw [List.getD_eq_getElem?_getD, List.getElem?_set_ne (by omega), ← List.getD_eq_getElem?_getD]
                exact hrestR.out j (by omega)
            go_wp2_with fail
            go_roundw
            case rel => exact ⟨i + 1, by omega, by go_num, hN9, B8⟩
            case measure => simp [intOf]; omega
      · go_wp2_with fail
        go_ret
        have hit : i = t.length := by omega
        subst hit
        obtain ⟨rs, ⟨a1, a2, a3⟩, hno, hsep, hrest⟩ := hN
        rw [List.take_of_length_le (by omega)] at hsep
        exact ⟨_, rfl, ⟨rs, a2, a1, a3, fun j hj => hno j hj hj, hsep⟩, hb⟩

end Go.Proofs.Ytfljcfpcokimcaa
