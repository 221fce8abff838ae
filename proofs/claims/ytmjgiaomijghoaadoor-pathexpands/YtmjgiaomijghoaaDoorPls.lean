/-
  strings.Split at a slash: the pieces of a text of at most 256 bytes, as a new row of texts.
-/
import Derived.Test.YtmjgiaomijghoaaDoorPlc
import Derived.Test.YtmjgiaomijghoaaDoorSd
import Derived.Test.YtmjgiaomijghoaaDoorPs3
import Derived.Deep.OwnRows
namespace Go.Proofs.YtmjgiaomijghoaaDoor
open Go.ChangeShapes Go.WideShapes Go.ChangeAt Go.RowKit
set_option linter.unusedVariables false
set_option linter.unusedSimpArgs false

/-- the block g holds these texts -/
def SBk (e : TypeId) (w : World) (g : Nat) (xs : List ByteArray) : Prop := w.heap[g]? = some (.cells (xs.map Value.string).toArray e (0, 0))
theorem sbk_made (w : World) (e : TypeId) (n : Nat) : SBk e (w.alloc (.cells (madeCells #[.string ⟨#[]⟩] n) e)) w.heap.size (List.replicate n ⟨#[]⟩) := by
  unfold SBk
  rw [heap_alloc_new]
  congr 2
  apply Array.ext
  · simp [madeCells]
  · intro i h1 h2
    simp [madeCells, Nat.mod_one]
theorem sbk_set {P : Program} {w : World} {e : TypeId} {g n : Nat} {xs : List ByteArray} (hg : SBk e w g xs) {t : TypeId} (ht : P.underlying t = some (.slice (P.elem t))) (hs : ∀ w, (sizeOf (P.elem t)).run P w = .ok 1 w)
    (hl : n = xs.length) (i : Nat) (h1 : i < n) :
    (∀ w', (Instr.indexAt t (.slice (some ⟨g, 0, none⟩) n n) (.int .i64 i)).run P w' = .ok (.pointer (some ⟨g, i, none⟩)) w') ∧ w.cell? ⟨g, i, none⟩ = some (.string (xs.getD i ⟨#[]⟩)) ∧ w.frozen? ⟨g, i, none⟩ = false ∧
      ∀ y, SBk e (w.setCell ⟨g, i, none⟩ (.string y)) g (xs.set i y) := by
  unfold SBk at hg
  subst hl
  refine ⟨fun w' => ?_, ?_, ?_, fun y => ?_⟩
  · rw [run_indexAt_slice (h := ht), if_pos ⟨by omega, by omega⟩, hs]
    simp only [Result.andThen, Nat.mul_one]
    congr 3
    unfold Addr.add
    split
    · rename_i hz; rw [Int.toNat_natCast] at hz; rw [hz]
    · simp
  · simp [World.cell?, hg, List.getD_eq_getElem?_getD, List.getElem?_eq_getElem h1]
  · simp [World.frozen?, hg]
  · unfold SBk
    rw [Lib.heap_setCell_same (i := i) hg]
    simp [List.map_set]
theorem sbk_read {w : World} {e : TypeId} {g : Nat} {ps rs : List ByteArray} (hg : SBk e w g (ps ++ rs)) (h0 : 0 < ps.length) (hm : (ps ++ rs).length ≤ maxLen) (hp : ∀ p ∈ ps, p.size ≤ maxLen) : SlR 1 strR w (.slice (some ⟨g, 0, none⟩) ps.length (ps ++ rs).length) ps := by
  unfold SBk at hg
  refine ⟨ps.map (fun p => [.string p]), Or.inr ⟨g, 0, _, by simp, by simpa using h0, by simp, hm, fun i hi => ?_⟩, by simp, fun i hi => ?_⟩
  · have hi2 : i < ps.length := by simpa using hi
    have hrow : (ps.map (fun p => [Value.string p])).getD i [] = [.string ps[i]] := by simp [List.getD_eq_getElem?_getD, List.getElem?_eq_getElem hi2]
    rw [hrow]
    refine ⟨rfl, fun j hj => ?_⟩
    have : j = 0 := by omega
    subst this
    rw [Nat.mul_one, Nat.add_zero, Nat.zero_add]
    simp only [World.cell?, hg, List.map_append, List.getElem?_toArray, List.getElem?_cons_zero]
    rw [List.getElem?_append_left (by simpa using hi2), List.getElem?_map, List.getElem?_eq_getElem hi2]
    rfl
  · have hrow : (ps.map (fun p => [Value.string p])).getD i [] = [.string ps[i]] := by simp [List.getD_eq_getElem?_getD, List.getElem?_eq_getElem hi]
    rw [hrow]
    exact ⟨rfl, hp _ (List.getElem_mem hi)⟩
theorem run_cut_all {P : Program} {t : TypeId} (ht : P.underlying t = some (.slice (P.elem t))) (g n i : Nat) (h : i ≤ n) (hs : ∀ w, (sizeOf (P.elem t)).run P w = .ok 1 w) (w : World) :
    (Instr.slice t (.slice (some ⟨g, 0, none⟩) n n) none (some (.int .i64 (i : Int))) none).run P w = .ok (.slice (some ⟨g, 0, none⟩) i n) w := by
  rw [run_slice_h w t (some ⟨g, 0, none⟩) n n ht .i64 (i : Int) (by omega) (by omega), hs]
  simp [Result.andThen, sliced, Addr.add]
theorem infoStr7 : (Tryd.prog.info? 9).map (fun i => (i.zero, i.size, i.bytes)) = some (some (.string ⟨#[]⟩), 1, 16) := by kernel_rfl
theorem count_L (l : List UInt8) : l.count 47 = (l.map fun c => (c.toNat : Int)).count 47 := by
  induction l with
  | nil => rfl
  | cons a l ih =>
    simp only [List.map_cons, List.count_cons, ih]
    congr 1
    by_cases h : a = 47
    · subst h; rfl
    · have h2 : ¬ ((a.toNat : Int) = 47) := fun e => h (UInt8.toNat_inj.1 (by
        have : ((47 : UInt8).toNat : Int) = 47 := by decide
        omega))
      simp [h, h2]

theorem uS7 : Tryd.prog.underlying 43 = some (.slice (Tryd.prog.elem 43)) := by kernel_rfl
theorem zS7 : ∀ w, (sizeOf (Tryd.prog.elem 43)).run Tryd.prog w = .ok 1 w := fun w => by
  have h : Tryd.prog.elem 43 = 9 := by kernel_rfl
  rw [h]
  exact Tryd.sizeOf9 w
theorem spl_free7 (l : List Int) (h : ∀ x ∈ l, ¬ x = 47) : spl 47 [] l = [l] := by
  have := spl_skip 47 l [] h []
  rw [List.append_nil, List.nil_append] at this
  rw [this]
  rfl
theorem spl_hit7 (a b : List Int) (h : ∀ x ∈ a, ¬ x = 47) : spl 47 [] (a ++ 47 :: b) = a :: spl 47 [] b := by
  rw [spl_skip 47 a _ h, List.nil_append, spl, if_pos rfl]

set_option maxHeartbeats 4000000 in
set_option maxRecDepth 100000 in
theorem w_gsplit (s : ByteArray) (w : World) (hs : s.size ≤ 256) :
    Calls Tryd.prog 37 #[.string s, .string ⟨#[47]⟩, .int .i64 0, .int .i64 (-1)] w fun e w' => ∃ v ps, e = .returned v ∧ SlR 1 strR w' v ps ∧ ps.map L = spl 47 [] (L s) ∧ (∀ p ∈ ps, p.size ≤ 256) ∧ Below w.heap.size w w' := by
  obtain ⟨n, hn⟩ : ∃ n : Nat, s.data.toList.count 47 = n := ⟨_, rfl⟩
  have hnL : (L s).count 47 = n := by rw [← hn, count_L]; rfl
  have hnl : (n : Int) ≤ s.size := by
    have := List.count_le_length (a := (47 : UInt8)) (l := s.data.toList)
    rw [hn, ← Lib.size_eq] at this
    omega
  have hmin : min ((n : Int) + 1) ((s.size : Int) + 1) = ((n + 1 : Nat) : Int) := by omega
  have cc := w_cnt47 s w
  rw [hn] at cc
  have hmk := run_make_row' (P := Tryd.prog) 43 9 (.string ⟨#[]⟩) 16 Tryd.underlying43 infoStr7 rfl .i64 .i64 (n + 1) (by omega) (by omega) w
  have hbk := sbk_made w 9 (n + 1)
  have hb0 := box_below w (.cells (madeCells #[.string ⟨#[]⟩] (n + 1)) 9)
  obtain ⟨w1, hw1⟩ : ∃ w1, w.alloc (.cells (madeCells #[.string ⟨#[]⟩] (n + 1)) 9) = w1 := ⟨_, rfl⟩
  rw [hw1] at hmk hbk hb0
  rw [show ((n + 1 : Nat) : Int) = (n : Int) + 1 by omega] at hmk
  clear hn hw1
  go_enter Tryd.func37, Tryd.ntmps37
  go_wp2_with (go_at_call 55; refine cc.mono ?_; rintro e w2 ⟨rfl, hw2⟩; obtain rfl := hw2.symm)
  go_loopw [0, 10] (fun S I wx => ∃ (t : ByteArray) (ps rs : List ByteArray), S = .string t ∧ I = .int .i64 ps.length ∧ SBk 9 wx w.heap.size (ps ++ rs) ∧ ((ps ++ rs).length : Int) = n + 1 ∧ Hid (spl 47 [] (L s) = ps.map L ++ spl 47 [] (L t)) ∧ ((L t).count 47 + ps.length : Int) = n ∧ Hid (∀ p ∈ ps, p.size ≤ 256) ∧ (t.size : Int) ≤ 256 ∧ Below w.heap.size w wx) (fun _ I _ => (n - intOf I).toNat)
  case atStart => exact ⟨s, [], List.replicate (n + 1) ⟨#[]⟩, rfl, rfl, hbk, by simp, hid (by simp), by simp [hnL], hid (by simp), by omega, hb0⟩
  case round =>
    obtain ⟨t, ps, rs, rfl, rfl, hk, hlen, hin, hcnt, hps, ht, hb⟩ := hrel
    have hlen2 := hlen
    rw [List.length_append] at hlen2
    obtain ⟨r1, c1, f1, hst⟩ := sbk_set (n := n + 1) hk uS7 zS7 (by omega) ps.length (by omega)
    by_cases hlt : (ps.length : Int) < n
    · have cx := fun w => w_six47 t w
      have hlb : ∀ y, Below w.heap.size w (wr.setCell ⟨w.heap.size, ps.length, none⟩ (.string y)) := fun y => below_set hb _ _ _ (Nat.le_refl _)
      have Hst := hid hst
      have Hlb := hid hlb
      clear hst hlb
      go_wp2_with (go_at_call 35; refine (cx _).mono ?_; rintro e w2 ⟨i, rfl, hi, rfl⟩; refine Hid.out ?_)
      rcases hi with ⟨rfl, h2⟩ | ⟨k, rfl, h2, h3, h4⟩
      · exfalso
        have : (L t).count 47 = 0 := List.count_eq_zero.2 fun hm => h2 _ hm rfl
        omega
      · rw [L_len] at h2
        have z0 : (0 : Int) ≤ k := by omega
        have z1 : (k : Int) ≤ t.size := by omega
        have z2 : (0 : Int) ≤ (k : Int) + 1 := by omega
        have z3 : (k : Int) + 1 ≤ t.size := by omega
        have hA : L (t.extract 0 k) = (L t).take k := by rw [L_extract t 0 k (by omega)]; simp
        have hB := L_from t (k + 1)
        have hsz : (t.extract 0 k).size ≤ 256 := by rw [← L_len, hA, List.length_take, L_len]; omega
        have hsz2 : (t.extract (k + 1) t.size).size ≤ 256 := by rw [← L_len, hB, List.length_drop, L_len]; omega
        have hin2 : Hid (spl 47 [] (L s) = (ps ++ [t.extract 0 k]).map L ++ spl 47 [] (L (t.extract (k + 1) t.size))) := by
          show _ = _
          rw [hin.out, h3, spl_hit7 _ _ h4, List.map_append, List.map_cons, hA, hB]
          simp
        have hcnt2 : ((L (t.extract (k + 1) t.size)).count 47 + (ps ++ [t.extract 0 k]).length : Int) = n := by
          have e1 : (L t).count 47 = 1 + (L (t.extract (k + 1) t.size)).count 47 := by
            conv => lhs; rw [h3]
            rw [List.count_append, List.count_cons_self, hB, List.count_eq_zero.2 (fun hm => h4 _ hm rfl)]
            omega
          rw [List.length_append, List.length_singleton]
          omega
        have hps2 : Hid (∀ p ∈ ps ++ [t.extract 0 k], p.size ≤ 256) := by
          intro p hp
          rw [List.mem_append, List.mem_singleton] at hp
          rcases hp with hp | rfl
          · exact hps.out p hp
          · exact hsz
        obtain ⟨r, rs', rfl⟩ : ∃ r rs', rs = r :: rs' := by
          cases rs with
          | nil => simp at hlen2; omega
          | cons r rs' => exact ⟨r, rs', rfl⟩
        have hst2 := Hst.out (t.extract 0 k)
        rw [List.set_append_right _ _ (Nat.le_refl _), Nat.sub_self, List.set_cons_zero] at hst2
        have Hst2 := hid hst2
        have Hcnt2 := hid hcnt2
        have Hsz := hid hsz
        have Hsz2 := hid hsz2
        clear hst2 hcnt2 hcnt h3 h4 hA hB hsz hsz2
        refine hid ?_
        go_wp2_with fail
        go_roundw
        case rel => exact ⟨_, ps ++ [t.extract 0 k], rs', rfl, by simp, by simpa using Hst2.out, by simp at hlen ⊢ <;> omega, hin2, Hcnt2.out, hps2, by have := Hsz2.out; omega, Hlb.out _⟩
        case measure => simp [intOf] <;> omega
    · have hfree : ∀ x ∈ L t, ¬ x = 47 := fun x hx e => by
        have := List.count_pos_iff.2 (e ▸ hx)
        omega
      have hspl : Hid (spl 47 [] (L s) = (ps ++ [t]).map L) := by
        show _ = _
        rw [hin.out, spl_free7 _ hfree, List.map_append, List.map_cons, List.map_nil]
      have hps2 : Hid (∀ p ∈ ps ++ [t], p.size ≤ 256) := by
        intro p hp
        rw [List.mem_append, List.mem_singleton] at hp
        rcases hp with hp | rfl
        · exact hps.out p hp
        · omega
      obtain ⟨r, rfl⟩ : ∃ r, rs = [r] := by
        cases rs with
        | nil => simp at hlen2; omega
        | cons r rs' =>
          cases rs' with
          | nil => exact ⟨r, rfl⟩
          | cons a b => simp at hlen2; omega
      have hst2 := hst t
      rw [List.set_append_right _ _ (Nat.le_refl _), Nat.sub_self, List.set_cons_zero] at hst2
      have Hst2 := hid hst2
      have Hlb := hid (below_set hb w.heap.size ps.length (.string t) (Nat.le_refl _))
      have hcut := fun W => run_cut_all (P := Tryd.prog) uS7 w.heap.size (n + 1) (ps.length + 1) (by omega) zS7 W
      rw [show ((ps.length + 1 : Nat) : Int) = (ps.length : Int) + 1 by omega] at hcut
      have hrd := sbk_read (rs := []) (by rw [List.append_nil]; exact hst2) (by simp) (by simp at hlen ⊢; unfold maxLen; omega) (fun p hp => by have := hps2.out p hp; unfold maxLen; omega)
      rw [List.append_nil, List.length_append, List.length_singleton, show ps.length + 1 = n + 1 by simp at hlen; omega] at hrd
      have Hrd := hid hrd
      have hpn : ps.length + 1 = n + 1 := by simp at hlen; omega
      clear hrd
      clear hst hst2 hfree hin hps
      go_wp2_with fail
      go_ret
      exact ⟨_, rfl, ps ++ [t], Hrd.out, hspl.out.symm, hps2.out, Hlb.out⟩

set_option maxHeartbeats 1000000 in
set_option maxRecDepth 100000 in
theorem w_split (s : ByteArray) (w : World) (hs : s.size ≤ 256) :
    Calls Tryd.prog 19 #[.string s, .string ⟨#[47]⟩] w fun e w' => ∃ v ps, e = .returned v ∧ SlR 1 strR w' v ps ∧ ps.map L = spl 47 [] (L s) ∧ (∀ p ∈ ps, p.size ≤ 256) ∧ Below w.heap.size w w' := by
  go_enter Tryd.func19, Tryd.ntmps19
  go_wp2_with (go_at_call 37; refine (w_gsplit s _ hs).mono ?_; rintro e w1 ⟨v, ps, rfl, h1, h2, h3, h4⟩)
  go_ret
  exact ⟨v, ps, rfl, h1, h2, h3, h4⟩
end Go.Proofs.YtmjgiaomijghoaaDoor
