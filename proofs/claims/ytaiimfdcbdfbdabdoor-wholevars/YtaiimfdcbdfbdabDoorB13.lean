/-
  Texts of one proof, laid one behind the other: Rv8 Va6 Va7.
-/
import Derived.Test.YtaiimfdcbdfbdabDoorB12
namespace Go.Proofs.YtaiimfdcbdfbdabDoor
open Go.ChangeShapes Go.WideShapes Go.ChangeAt Go.RowKit
set_option linter.unusedVariables false
set_option linter.unusedSimpArgs false

/-
  Decode of the document's answer for layer 19 (of at most 1048576 bytes).
-/
def eqI (f : Nat) (eq : Option Nat) : Int := match eq with | none => -1 | some e => (f : Int) + e
theorem vaDe_none {b : List Int} (h : vaX b [] none [] = none) : vaDe b = ([], 15) := by unfold vaDe; rw [h]
theorem vaDe_some {b : List Int} {l : List Stt} (h : vaX b [] none [] = some l) : vaDe b = if vaG (-1) l then (l, 0) else ([], 15) := by unfold vaDe; rw [h]
theorem nums_size (l : List Int) : (strOfNums l).size = l.length := by simp [strOfNums, ByteArray.size]

set_option maxHeartbeats 4000000 in
set_option maxRecDepth 10000 in
theorem w_rdecode19 (v : Value) (b : List Int) (w : World) (h : Rd .u8 w v b) (hb : bytesL b) (hz : b.length ≤ 1048576) :
    Calls Tryd.prog 27 #[v] w fun e w' => ∃ v', e = .returned (.tuple #[v', .int .i64 (vaDe b).2]) ∧ OwT w.heap.size w' v' (vaDe b).1 ∧ Below w.heap.size w w' := by
  have hlen := rd_len h uB (P := Tryd.prog)
  obtain ⟨i4, hi4, hz4, hs4, hb4⟩ := info_st
  have HV := hid h
  go_enter Tryd.func27, Tryd.ntmps27
  go_wp2_with fail
  go_loopw [4, 5, 6, 7] (fun O F E I wx => ∃ (k f : Nat) (eq : Option Nat) (out : List Stt), k ≤ b.length ∧ I = .int .i64 k ∧ F = .int .i64 f ∧ E = .int .i64 (eqI f eq) ∧ f ≤ k ∧ (∀ e, eq = some e → f + e < k) ∧ OwT w.heap.size wx O out ∧ (∀ p ∈ out, gS p) ∧ out.length ≤ k ∧ Hid (vaX b [] none [] = vaX (b.drop k) ((b.take k).drop f) eq out) ∧ Below w.heap.size w wx) (fun _ _ _ I _ => (b.length - intOf I).toNat)
  case atStart => exact ⟨0, 0, none, [], by omega, rfl, rfl, rfl, by omega, (fun e h => by cases h), owt_nil _ _, (fun p hp => by cases hp), by simp, hid rfl, Below.refl _ _⟩
  case round =>
    obtain ⟨k, f, eq, out, hk, rfl, rfl, rfl, hfk, he, ho, hgS, hol, hm, hg⟩ := hrel
    by_cases hlt : (k : Int) < b.length
    · have hkk : k < b.length := by omega
      obtain ⟨ad, c, q1, q2, q3, q4, q5⟩ := mem_at (h.below hg) hb (k : Int) (by omega) hlt
      have hc : b[k] = c := by rw [← q5, List.getD_eq_getElem?_getD]; simp [hkk]
      have hd : b.drop k = c :: b.drop (k + 1) := by rw [List.drop_eq_getElem_cons hkk, hc]
      have hcu : (b.take (k + 1)).drop f = (b.take k).drop f ++ [c] := by
        rw [List.take_succ_eq_append_getElem hkk, hc, List.drop_append_of_le_length (by rw [List.length_take]; omega)]
      have hcl : ((b.take k).drop f).length = k - f := by rw [List.length_drop, List.length_take]; omega
      have hm2 := hm.out
      rw [hd] at hm2
      by_cases c0 : c = 0
      · subst c0
        simp only [vaX, if_true] at hm2
        cases eq with
        | none =>
          simp only at hm2
          have hR := hid (vaDe_none hm2)
          rw [show eqI f none = -1 from rfl]
          clear hm hm2 hd hcu hcl hc q5 he ho hgS
          go_wp2_with fail
          go_ret2
          exact ⟨.slice none 0 0, by rw [hR.out]; rfl, by rw [hR.out]; exact owt_nil _ _, hg⟩
        | some e =>
          simp only at hm2
          have hek := he e rfl
          rw [show eqI f (some e) = (f : Int) + e from rfl]
          have hwf : IntKind.i64.wrap ((f : Int) + e + 1) = (f : Int) + e + 1 := by rw [IntKind.wrap_i64]; omega
          obtain ⟨vc1, rc1, sc1, -, -⟩ := rd_cutI HV.out uB zB (f : Int) ((f : Int) + e) (by omega) (by omega) (by omega)
          obtain ⟨vc2, rc2, sc2, -, -⟩ := rd_cutI HV.out uB zB ((f : Int) + e + 1) (k : Int) (by omega) (by omega) (by omega)
          have e1 : (b.drop (f : Int).toNat).take ((f : Int) + e - f).toNat = ((b.take k).drop f).take e := by
            rw [show (f : Int).toNat = f from rfl, show ((f : Int) + e - f).toNat = e by omega, List.drop_take, List.take_take, Nat.min_eq_left (by omega)]
          have e2 : (b.drop ((f : Int) + e + 1).toNat).take ((k : Int) - ((f : Int) + e + 1)).toNat = ((b.take k).drop f).drop (e + 1) := by
            rw [show ((f : Int) + e + 1).toNat = f + e + 1 by omega, show ((k : Int) - ((f : Int) + e + 1)).toNat = k - (f + e + 1) by omega, List.drop_drop, List.drop_take]
            rfl
          rw [e1] at rc1
          rw [e2] at rc2
          have hNs : (strOfNums (((b.take k).drop f).take e)).size ≤ maxLen := by rw [nums_size, List.length_take, hcl]; unfold maxLen; omega
          have hVs : (strOfNums (((b.take k).drop f).drop (e + 1))).size ≤ maxLen := by rw [nums_size, List.length_drop, hcl]; unfold maxLen; omega
          have cv1 := fun W (g : Below w.heap.size w W) => rd_strT (rc1.below g)
          have cv2 := fun W (g : Below w.heap.size w W) => rd_strT (rc2.below g)
          obtain ⟨N, hN⟩ : ∃ N, strOfNums (((b.take k).drop f).take e) = N := ⟨_, rfl⟩
          obtain ⟨V, hVe⟩ : ∃ V, strOfNums (((b.take k).drop f).drop (e + 1)) = V := ⟨_, rfl⟩
          rw [hN, hVe] at hm2
          rw [hN] at hNs
          rw [hVe] at hVs
          simp only [hN] at cv1
          simp only [hVe] at cv2
          have hm3 : Hid (vaX b [] none [] = vaX (b.drop (k + 1)) ((b.take (k + 1)).drop (k + 1)) none (out ++ [(N, V)])) := by
            show _ = _
            rw [hm2, List.drop_of_length_le (show (b.take (k + 1)).length ≤ k + 1 by rw [List.length_take]; omega)]
          have hgS2 : ∀ p ∈ out ++ [(N, V)], gS p := by
            intro p hp
            rcases List.mem_append.1 hp with hp | hp
            · exact hgS p hp
            · rw [List.mem_singleton.1 hp]; exact ⟨hNs, hVs⟩
          have HS : Hid (∀ W, Below w.heap.size w W → ((convert 22 9 vc1).run Tryd.prog W = .ok (.string N) W ∧ (convert 22 9 vc2).run Tryd.prog W = .ok (.string V) W)) := fun W g => ⟨cv1 W g, cv2 W g⟩
          have bdr : Hid (Below w.heap.size w wr.drew) := below_drewN hg 1
          have BX := below_trans bdr.out (box_below wr.drew (.cells #[.string N, .string V] 39))
          have k3 : OwT w.heap.size (wr.drew.alloc (.cells #[.string N, .string V] 39)) _ out := own_belowT (own_belowT ho (below_drewN (Below.refl _ _) 1)) (box_below wr.drew _)
          unfold OwT at k3
          clear hm hm2 hd hcu hcl hc q5 he ho hgS cv1 cv2 rc1 rc2 e1 e2 hN hVe hNs hVs
          go_upto_region 11 with fail
          refine wp_region_held_drew (S := fun W => (convert 22 9 vc1).run Tryd.prog W = .ok (.string N) W ∧ (convert 22 9 vc2).run Tryd.prog W = .ok (.string V) W) (by kernel_rfl) (HS.out _ bdr.out) (fun hHeld => ?_)
          refine wpAnyH_take (i := 0) (v := ?v1) rfl (by kernel_rfl) (by kernel_rfl) (by kernel_rfl) (fun _ _ _ h => h) (Or.inl ⟨by kernel_rfl, ?h1⟩) hHeld ?r1
          case h1 => intro W hSw; (try dsimp only at hSw); obtain ⟨z1, z2⟩ := hSw; go_simp; try with_reducible rfl
          simp only [Act.put, List.setIfInBounds_toArray, List.set_cons_zero, List.set_cons_succ]
          refine wpAnyH_take (i := 1) (v := ?v2) rfl (by kernel_rfl) (by kernel_rfl) (by kernel_rfl) (fun _ _ _ h => h) (Or.inl ⟨by kernel_rfl, ?h2⟩) hHeld ?r2
          case h2 => intro W hSw; (try dsimp only at hSw); obtain ⟨z1, z2⟩ := hSw; go_simp; try with_reducible rfl
          simp only [Act.put, List.setIfInBounds_toArray, List.set_cons_zero, List.set_cons_succ]
          refine wpAnyH_take (i := 2) (v := ?v3) rfl (by kernel_rfl) (by kernel_rfl) (by kernel_rfl) (fun _ _ _ h => h) (Or.inl ⟨by kernel_rfl, ?h3⟩) hHeld ?r3
          case h3 => intro W hSw; (try dsimp only at hSw); obtain ⟨z1, z2⟩ := hSw; go_simp; try with_reducible rfl
          simp only [Act.put, List.setIfInBounds_toArray, List.set_cons_zero, List.set_cons_succ]
          refine wpAnyH_take (i := 3) (v := ?v4) rfl (by kernel_rfl) (by kernel_rfl) (by kernel_rfl) (fun _ _ _ h => h) (Or.inl ⟨by kernel_rfl, ?h4⟩) hHeld ?r4
          case h4 => intro W hSw; (try dsimp only at hSw); obtain ⟨z1, z2⟩ := hSw; go_simp; try with_reducible rfl
          simp only [Act.put, List.setIfInBounds_toArray, List.set_cons_zero, List.set_cons_succ]
          refine wpAnyH_take (i := 4) (v := ?v5) rfl (by kernel_rfl) (by kernel_rfl) (by kernel_rfl) (fun _ _ _ h => h) (Or.inl ⟨by kernel_rfl, ?h5⟩) hHeld ?r5
          case h5 => intro W hSw; (try dsimp only at hSw); obtain ⟨z1, z2⟩ := hSw; go_simp; try with_reducible rfl
          simp only [Act.put, List.setIfInBounds_toArray, List.set_cons_zero, List.set_cons_succ]
          refine wpAnyH_take (i := 5) (v := ?v6) rfl (by kernel_rfl) (by kernel_rfl) (by kernel_rfl) (fun _ _ _ h => h) (Or.inl ⟨by kernel_rfl, ?h6⟩) hHeld ?r6
          case h6 => intro W hSw; (try dsimp only at hSw); obtain ⟨z1, z2⟩ := hSw; go_simp; try with_reducible rfl
          simp only [Act.put, List.setIfInBounds_toArray, List.set_cons_zero, List.set_cons_succ]
          refine wpAnyH_take (i := 6) (v := ?v7) rfl (by kernel_rfl) (by kernel_rfl) (by kernel_rfl) (fun _ _ _ h => h) (Or.inl ⟨by kernel_rfl, ?h7⟩) hHeld ?r7
          case h7 => intro W hSw; (try dsimp only at hSw); obtain ⟨z1, z2⟩ := hSw; go_simp; try with_reducible rfl
          simp only [Act.put, List.setIfInBounds_toArray, List.set_cons_zero, List.set_cons_succ]
          refine wpAnyH_take (i := 7) (v := ?v8) rfl (by kernel_rfl) (by kernel_rfl) (by kernel_rfl) (fun _ _ _ h => h) (Or.inl ⟨by kernel_rfl, ?h8⟩) hHeld ?r8
          case h8 => intro W hSw; (try dsimp only at hSw); obtain ⟨z1, z2⟩ := hSw; go_simp; try with_reducible rfl
          simp only [Act.put, List.setIfInBounds_toArray, List.set_cons_zero, List.set_cons_succ]
          refine wpAnyH_take (i := 8) (v := ?v9) rfl (by kernel_rfl) (by kernel_rfl) (by kernel_rfl) (fun _ _ _ h => h) (Or.inl ⟨by kernel_rfl, ?h9⟩) hHeld ?r9
          case h9 => intro W hSw; (try dsimp only at hSw); obtain ⟨z1, z2⟩ := hSw; go_simp; try with_reducible rfl
          simp only [Act.put, List.setIfInBounds_toArray, List.set_cons_zero, List.set_cons_succ]
          refine wpAnyH_take (i := 9) (v := ?v10) rfl (by kernel_rfl) (by kernel_rfl) (by kernel_rfl) (fun _ _ _ h => h) (Or.inl ⟨by kernel_rfl, ?h10⟩) hHeld ?r10
          case h10 => intro W hSw; (try dsimp only at hSw); obtain ⟨z1, z2⟩ := hSw; go_simp; try with_reducible rfl
          simp only [Act.put, List.setIfInBounds_toArray, List.set_cons_zero, List.set_cons_succ]
          refine wpAnyH_take (i := 10) (v := ?v11) rfl (by kernel_rfl) (by kernel_rfl) (by kernel_rfl) (fun _ _ _ h => h) (Or.inl ⟨by kernel_rfl, ?h11⟩) hHeld ?r11
          case h11 => intro W hSw; (try dsimp only at hSw); obtain ⟨z1, z2⟩ := hSw; go_simp; try with_reducible rfl
          simp only [Act.put, List.setIfInBounds_toArray, List.set_cons_zero, List.set_cons_succ]
          refine wpAnyH_take (i := 11) (v := ?v12) rfl (by kernel_rfl) (by kernel_rfl) (by kernel_rfl) (fun _ _ _ h => h) (Or.inl ⟨by kernel_rfl, ?h12⟩) hHeld ?r12
          case h12 => intro W hSw; (try dsimp only at hSw); obtain ⟨z1, z2⟩ := hSw; go_simp; try with_reducible rfl
          simp only [Act.put, List.setIfInBounds_toArray, List.set_cons_zero, List.set_cons_succ]
          refine wpAnyH_take (i := 12) (v := ?v13) rfl (by kernel_rfl) (by kernel_rfl) (by kernel_rfl) (fun _ _ _ h => h) (Or.inl ⟨by kernel_rfl, ?h13⟩) hHeld ?r13
          case h13 => intro W hSw; (try dsimp only at hSw); obtain ⟨z1, z2⟩ := hSw; go_simp; try with_reducible rfl
          simp only [Act.put, List.setIfInBounds_toArray, List.set_cons_zero, List.set_cons_succ]
          refine wpAnyH_ready (rs := [13]) (by kernel_rfl) (by simp) ?_
          refine AllReadyH.cons rfl (fun K hK => ?_) AllReadyH.nil
          go_simp
          refine hK.out _ _ (HS.out _ BX) (fun hHeld => ?_)
          clear hK K
          (try simp only [Act.put, List.setIfInBounds_toArray, List.set_cons_zero, List.set_cons_succ])
          refine wpAnyH_ready (rs := [14]) (by kernel_rfl) (by simp) ?_
          refine AllReadyH.cons rfl (fun K hK => ?_) AllReadyH.nil
          refine step_append_rows rfl _ _ 23 rfl w.heap.size 39 i4 _ 2 32 Tryd.underlying23 hi4 hz4 hs4 hb4 rfl (by decide) _ out.length _ rfl k3 _ [[Value.string N, Value.string V]] rfl (slc_one wr.drew [Value.string N, Value.string V] 39 2 rfl) (fun r hr => by rw [List.mem_singleton] at hr; subst hr; exact st_one (N, V)) (by unfold maxLen; simp only [List.length_singleton]; omega) (by simp only [List.length_singleton]; omega) BX.size ?_; intro v7 w7 o7 g7; have B7 : Hid (Below w.heap.size w w7) := below_grown BX g7 (fun k hk => (k3.lt k hk).1)
          refine hK.out _ _ (HS.out _ B7.out) (fun hHeld => ?_)
          clear hK K
          (try simp only [Act.put, List.setIfInBounds_toArray, List.set_cons_zero, List.set_cons_succ])
          refine wpAnyH_ready (rs := [15]) (by kernel_rfl) (by simp) ?_
          refine AllReadyH.cons rfl (fun K hK => ?_) AllReadyH.nil
          go_simp
          refine hK.out _ _ (HS.out _ B7.out) (fun hHeld => ?_)
          clear hK K
          (try simp only [Act.put, List.setIfInBounds_toArray, List.set_cons_zero, List.set_cons_succ])
          refine wpAnyH_done (by kernel_rfl) ?_ _
          go_wp2_with fail
          go_roundw
          case rel => exact ⟨k + 1, k + 1, none, out ++ [(N, V)], by omega, by go_num, by go_num, rfl, by omega, (fun e h => by cases h), (by unfold OwT; simpa [stC] using o7), hgS2, by simp; omega, hm3, B7.out⟩
          case measure => simp [intOf]; omega
      · simp only [vaX, if_neg c0] at hm2
        rw [← hcu] at hm2
        by_cases c1 : c = 61
        · cases eq with
          | none =>
            rw [if_pos ⟨c1, rfl⟩, hcl] at hm2
            have hm3 := hid hm2
            have hq1 : (c == 61) = true := by simpa using c1
            have hei : ((k : Int)) = eqI f (some (k - f)) := by simp only [eqI]; omega
            have HE := hid hei
            rw [show eqI f none = -1 from rfl]
            clear hm hm2 hd hcu hcl hc q5 c1 hei
            go_wp2_with fail
            go_roundw
            case rel => exact ⟨k + 1, f, some (k - f), out, by omega, by go_num, rfl, by rw [← HE.out], by omega, (fun e h => by injection h with h; omega), ho, hgS, by omega, hm3, hg⟩
            case measure => simp [intOf]; omega
          | some e =>
            rw [if_neg (fun z => by cases z.2)] at hm2
            have hm3 := hid hm2
            have hek := he e rfl
            have hq1 : (c == 61) = true := by simpa using c1
            have HE : Hid (eqI f (some e) = (f : Int) + e) := rfl
            rw [show eqI f (some e) = (f : Int) + e from rfl]
            clear hm hm2 hd hcu hcl hc q5 c1 he
            go_wp2_with fail
            go_roundw
            case rel => exact ⟨k + 1, f, some e, out, by omega, by go_num, rfl, rfl, by omega, (fun e h => by injection h with h; omega), ho, hgS, by omega, hm3, hg⟩
            case measure => simp [intOf]; omega
        · rw [if_neg (fun z => c1 z.1)] at hm2
          have hm3 := hid hm2
          obtain ⟨E, hEe⟩ : ∃ E, eqI f eq = E := ⟨_, rfl⟩
          have HE := hid hEe
          have he2 := hid he
          rw [hEe]
          clear hm hm2 hd hcu hcl hc q5 he hEe
          go_wp2_with fail
          go_roundw
          case rel => exact ⟨k + 1, f, eq, out, by omega, by go_num, rfl, by rw [HE.out], by omega, (fun e h => by have := he2.out e h; omega), ho, hgS, by omega, hm3, hg⟩
          case measure => simp [intOf]; omega
    · have hkb : k = b.length := by omega
      have hm2 := hm.out
      rw [List.drop_of_length_le (show b.length ≤ k by omega), List.take_of_length_le (show b.length ≤ k by omega)] at hm2
      simp only [vaX] at hm2
      have cR := fun v w r => w_rright v out w r
      obtain ⟨E, hEe⟩ : ∃ E, eqI f eq = E := ⟨_, rfl⟩
      rw [hEe]
      by_cases hf : f = b.length
      · rw [List.drop_of_length_le (by omega), if_pos rfl] at hm2
        have hq : ((f : Int) != (b.length : Int)) = false := by rw [hf]; simp
        have hR := vaDe_some hm2
        cases hG : vaG (-1) out
        · rw [hG] at hR
          simp only [Bool.false_eq_true, if_false] at hR
          have HR := hid hR
          simp only [hG] at cR
          clear hm hm2 hR hEe hkb hf
          go_wp2_with (go_at_call 37; refine (cR _ _ (ho.read hgS)).mono ?_; rintro e w8 ⟨rfl, b8⟩)
          go_ret2
          exact ⟨.slice none 0 0, by rw [HR.out]; rfl, by rw [HR.out]; exact owt_nil _ _, below_trans hg b8⟩
        · rw [hG] at hR
          simp only [if_true] at hR
          have HR := hid hR
          simp only [hG] at cR
          clear hm hm2 hR hEe hkb hf
          go_wp2_with (go_at_call 37; refine (cR _ _ (ho.read hgS)).mono ?_; rintro e w8 ⟨rfl, b8⟩)
          go_ret2
          refine ⟨_, ?_, (by rw [HR.out]; exact own_belowT ho b8), below_trans hg b8⟩
          rw [HR.out]
          rfl
      · have hne : ¬ b.drop f = [] := by
          intro hn
          have := congrArg List.length hn
          rw [List.length_drop] at this
          simp only [List.length_nil] at this
          omega
        rw [if_neg hne] at hm2
        have HR := hid (vaDe_none hm2)
        have hq : ((f : Int) != (b.length : Int)) = true := by simp; omega
        clear hm hm2 hEe hkb hf hne cR
        go_wp2_with fail
        go_ret2
        exact ⟨.slice none 0 0, by rw [HR.out]; rfl, by rw [HR.out]; exact owt_nil _ _, hg⟩

/-
  The first setting of bytes, as the landed package vars cuts it off.
-/
set_option maxRecDepth 100000

theorem set2q {w : World} {b : Nat} {z0 z1 : Value} {T : TypeId} (h : Stands w b #[z0, z1] T) (a0 a1 : Value) :
    Stands ((w.setCell ⟨b, 0, none⟩ a0).setCell ⟨b, 1, none⟩ a1) b #[a0, a1] T ∧ ∀ Q : World → Prop, (∀ u u', Kept T u u' → Q u → Q u') → Q w → Q ((w.setCell ⟨b, 0, none⟩ a0).setCell ⟨b, 1, none⟩ a1) := by
  have h0 := h.set 0 a0
  have h1 := h0.set 1 a1
  exact ⟨by simpa only [List.setIfInBounds_toArray, List.set_cons_zero, List.set_cons_succ] using h1, fun Q hQ q => hQ _ _ (set_kept h0 1 a1) (hQ _ _ (set_kept h 0 a0) q)⟩

/-- what the first setting of bytes is -/
def CutS (w : World) (xs : List Int) (N V : ByteArray) (v2 : Value) (f : Bool) : Prop :=
  N.size ≤ xs.length ∧ V.size ≤ xs.length ∧ ((f = false ∧ (¬ xs = [] → ∀ out, vaX xs [] none out = none)) ∨ (f = true ∧ ∃ r, (∀ out, vaX xs [] none out = vaX r [] none (out ++ [(N, V)])) ∧ Rd .u8 w v2 r ∧ r.length < xs.length ∧ bytesL r))

set_option maxHeartbeats 4000000 in
set_option maxRecDepth 100000 in
theorem w_pcut19 (v : Value) (xs : List Int) (wo w : World) (h : Rd .u8 wo v xs) (hwo : Below wo.heap.size wo w) (hB : bytesL xs) (hz : xs.length ≤ 1048576) :
    Calls Tryd.prog 44 #[v] w fun e w' => ∃ N V v2 f, e = .returned (.tuple #[.agg #[.string N, .string V], v2, .bool f]) ∧ CutS wo xs N V v2 f ∧ Below w.heap.size w w' := by
  have s0 := stands_new w #[.string ⟨#[]⟩, .string ⟨#[]⟩] 39
  have bw := box_below w (.cells #[.string ⟨#[]⟩, .string ⟨#[]⟩] 39)
  obtain ⟨qa, qq, rfl⟩ := rd_slice h
  go_enter Tryd.func44, Tryd.ntmps44
  go_upto_region 1 with fail
  generalize w.alloc (.cells #[.string ⟨#[]⟩, .string ⟨#[]⟩] 39) = W0 at s0 bw ⊢
  have hw0 := below_trans hwo bw
  go_wp2_with (go_at_call 62; refine (w_pbcut _ _ xs 0 wo _ h (below_trans hw0 (box_below W0 _)) hB (rd_one W0 0 5) (by decide) (by decide) hz).mono ?_; rintro e w1 ⟨v1, v2, f, rfl, hc, b1'⟩; have b1 := below_trans (box_below W0 _) b1'; refine Hid.out ?_)
  have B1 := below_trans hw0 b1
  rcases hc with ⟨rfl, c1, c2, rfl⟩ | ⟨rfl, a, b, rfl, c1, c2, c3⟩
  · obtain ⟨ra, rq, rfl⟩ := rd_slice c2
    have HC := hid c1
    refine hid ?_
    clear c1
    go_upto_region 3 with (first | (go_at_call 62; refine (w_pbcut _ _ xs 61 wo _ c2 (below_trans B1 (box_below w1 _)) hB (rd_one w1 61 5) (by decide) (by decide) hz).mono ?_; rintro e w2 ⟨v3, v4, f2, rfl, hc2, b2'⟩; have b2 := below_trans b1 (below_trans (box_below w1 _) b2'); clear hc2) | fail)
    have SZ := s0.below b2
    have zz0 := SZ.cell 0 _ rfl
    have zz1 := SZ.cell 1 _ rfl
    have zf := SZ.free
    go_wp2_with fail
    obtain ⟨g1, g2⟩ := set2q (s0.below b2) (.string ⟨#[]⟩) (.string ⟨#[]⟩)
    have J7 := below_set (below_set (below_trans bw b2) w.heap.size 0 (.string ⟨#[]⟩) (Nat.le_refl _)) w.heap.size 1 (.string ⟨#[]⟩) (Nat.le_refl _)
    (try simp only [Exit.inBlock, Exit.then])
    refine bodyPost_ret (res_row3 rfl _ _ w.heap.size 39 _ (0, 0) _ rfl g1 Tryd.underlying39 rfl (show _ = some 2 by kernel_rfl)) rfl ?_
    exact ⟨⟨#[]⟩, ⟨#[]⟩, _, _, rfl, ⟨Nat.zero_le _, Nat.zero_le _, Or.inl ⟨rfl, fun hn out => va_noend xs [] none out HC.out (fun z => hn z.1)⟩⟩, J7⟩
  · obtain ⟨ra, rq, rfl⟩ := rd_slice c2
    have hBa : bytesL a := fun x hx => hB x (by simp [hx])
    have hBb : bytesL b := fun x hx => hB x (by simp [hx])
    have hza : a.length ≤ 1048576 := by simp at hz; omega
    have HC := hid c1
    have HL : Hid ((a ++ 0 :: b).length = a.length + b.length + 1) := by show _ = _; simp; omega
    refine hid ?_
    clear c1
    go_upto_region 3 with (first | (go_at_call 62; refine (w_pbcut _ _ a 61 wo _ c2 (below_trans B1 (box_below w1 _)) hBa (rd_one w1 61 5) (by decide) (by decide) hza).mono ?_; rintro e w2 ⟨v3, v4, f2, rfl, hc2, b2'⟩; have b2 := below_trans b1 (below_trans (box_below w1 _) b2')) | fail)
    have SZ := s0.below b2
    have zz0 := SZ.cell 0 _ rfl
    have zz1 := SZ.cell 1 _ rfl
    have zf := SZ.free
    rcases hc2 with ⟨rfl, d1, d2, rfl⟩ | ⟨rfl, n, u, rfl, d1, d2, d3⟩
    · have HD := hid d1
      clear d1
      go_wp2_with fail
      obtain ⟨g1, g2⟩ := set2q (s0.below b2) (.string ⟨#[]⟩) (.string ⟨#[]⟩)
      have J7 := below_set (below_set (below_trans bw b2) w.heap.size 0 (.string ⟨#[]⟩) (Nat.le_refl _)) w.heap.size 1 (.string ⟨#[]⟩) (Nat.le_refl _)
      (try simp only [Exit.inBlock, Exit.then])
      refine bodyPost_ret (res_row3 rfl _ _ w.heap.size 39 _ (0, 0) _ rfl g1 Tryd.underlying39 rfl (show _ = some 2 by kernel_rfl)) rfl ?_
      exact ⟨⟨#[]⟩, ⟨#[]⟩, _, _, rfl, ⟨Nat.zero_le _, Nat.zero_le _, Or.inl ⟨rfl, fun hn out => va_nopart a b out HC.out HD.out⟩⟩, J7⟩
    · have HD := hid d1
      clear d1
      have B2 := below_trans hw0 b2
      have k1 := rd_str (P := Tryd.prog) (d2.below B2) Tryd.underlying22 Tryd.underlying5 Tryd.underlying9
      have k2 := rd_str (P := Tryd.prog) (d3.below B2) Tryd.underlying22 Tryd.underlying5 Tryd.underlying9
      have HN := hid (va_both n u b)
      have hBn : bytesL n := fun x hx => hBa x (by simp [hx])
      have hBu : bytesL u := fun x hx => hBa x (by simp [hx])
      have s1 := nums_size n
      have s2 := nums_size u
      obtain ⟨N, hN⟩ : ∃ N, strOfNums n = N := ⟨_, rfl⟩
      obtain ⟨V, hV⟩ : ∃ N, strOfNums u = N := ⟨_, rfl⟩
      rw [hN, hV] at HN
      rw [hN] at k1 s1
      rw [hV] at k2 s2
      clear hN hV
      go_wp2_with fail
      obtain ⟨g1, g2⟩ := set2q (s0.below b2) (.string N) (.string V)
      have J7 := below_set (below_set (below_trans bw b2) w.heap.size 0 (.string N) (Nat.le_refl _)) w.heap.size 1 (.string V) (Nat.le_refl _)
      (try simp only [Exit.inBlock, Exit.then])
      refine bodyPost_ret (res_row3 rfl _ _ w.heap.size 39 _ (0, 0) _ rfl g1 Tryd.underlying39 rfl (show _ = some 2 by kernel_rfl)) rfl ?_
      exact ⟨_, _, _, _, rfl, ⟨by rw [HL.out, s1]; simp; omega, by rw [HL.out, s2]; simp; omega, Or.inr ⟨rfl, b, fun out => HN.out out hBn hBu HC.out HD.out, c3, by rw [HL.out]; omega, hBb⟩⟩, J7⟩

/-
  Encode and Decode of the landed package vars.
-/
set_option maxRecDepth 100000

set_option maxHeartbeats 2000000 in
set_option maxRecDepth 100000 in
theorem w_pencode19 (v : Value) (l : List Stt) (w : World) (hT : Tab w) (h : SlR 2 stR w v l) :
    Calls Tryd.prog 20 #[v] w fun e w' => ∃ v', e = .returned (.tuple #[v', .int .i64 (vaEn l).2]) ∧ Rd .u8 w' v' (vaEn l).1 ∧ Below w.heap.size w w' := by
  have cR := w_pright19 v l w hT h
  have hlen := slr_len h uSt (P := Tryd.prog)
  unfold vaEn
  cases hr : vaG (-1) l
  · rw [hr] at cR
    simp only [Bool.false_eq_true, if_false]
    clear hr
    go_enter Tryd.func20, Tryd.ntmps20
    go_wp2_with (go_at_call 29; refine cR.mono ?_; rintro e w1 ⟨rfl, b1⟩)
    go_ret2
    exact ⟨_, rfl, Rd_nil, b1⟩
  · rw [hr] at cR
    simp only [if_true]
    have h9 := va_nine l (-1) hr (by decide)
    have hsz := va_gs (by decide) hr
    obtain ⟨i0, hi, hz0, hz1, hz2⟩ := info_parts infoU8
    have b61 := fun W : World => box_below W (.cells #[.int .u8 61] 5)
    have b00 := fun W : World => box_below W (.cells #[.int .u8 0] 5)
    have r61 := fun W : World => rd_one (k := .u8) W 61 5
    have r00 := fun W : World => rd_one (k := .u8) W 0 5
    have hB9 : ∀ k, Hid ((vaB (l.take k)).length ≤ 142 * 9) := fun k => by
      show _ ≤ _
      have h1 := va_blen (l.take k) (fun p hp => hsz p (List.mem_of_mem_take hp))
      have h2 := List.length_take_le' k l
      omega
    clear hr
    go_enter Tryd.func20, Tryd.ntmps20
    go_wp2_with (go_at_call 29; refine cR.mono ?_; rintro e w1 ⟨rfl, b1⟩)
    go_loopw [4, 12] (fun O I wx => ∃ k : Nat, k ≤ l.length ∧ I = .int .i64 k ∧ Own8 w.heap.size wx O (vaB (l.take k)) ∧ Below w.heap.size w wx) (fun _ I _ => (l.length - intOf I).toNat)
    case atStart => exact ⟨0, by omega, rfl, World.ownsRow_nil _ _ _ _, b1⟩
    case round =>
      obtain ⟨k, hk, rfl, ho0, hg0⟩ := hrel
      by_cases hlt : (k : Int) < l.length
      · have hkk : k < l.length := by omega
        obtain ⟨zb, zo, A, V, z1, z2', z3', z4, z5, z6⟩ := st_at h k hkk
        have z2 := below_cell hg0 z2'
        have z3 := below_cell hg0 z3'
        have hAV := hsz (A, V) (by rw [← z4]; exact List.getElem_mem hkk)
        have hns : Hid (vaB (l.take (k + 1)) = vaB (l.take k) ++ LB A ++ [61] ++ LB V ++ [0]) := by
          show _ = _
          rw [List.take_succ_eq_append_getElem hkk, z4, vaB_app, vaB_one]
          simp only [List.append_assoc]
          rfl
        have hRl := (hB9 k).out
        obtain ⟨R, hR⟩ : ∃ R, vaB (l.take k) = R := ⟨_, rfl⟩
        rw [hR] at ho0 hns hRl
        obtain ⟨a1, a2⟩ := hAV
        simp only at a1 a2
        have la : (LB A).length ≤ 12 := by rw [LB_len]; exact a1
        have lv : (LB V).length ≤ 128 := by rw [LB_len]; exact a2
        have bx := box_below wr (.cells #[.string A, .string V] 39)
        have s0 := stands_new wr #[.string A, .string V] 39
        have x0 := s0.cell 0 _ rfl
        have x1 := s0.cell 1 _ rfl
        have ho := own_below ho0 bx
        have hg := below_trans hg0 bx
        clear hR z4
        go_wp2_with (first
          | (at_builtin; refine wpList_append_rd (k := .u8) rfl _ _ 22 rfl w.heap.size 5 i0 1 Tryd.underlying22 hi hz0 hz1 hz2 v4 (R ++ LB A ++ [61] ++ LB V) rfl (own_below o4 (b00 w4)) _ [0] rfl (r00 w4) (by unfold maxLen; simp only [List.length_append, List.length_cons, List.length_nil]; omega) (by simp only [List.length_append, List.length_cons, List.length_nil]; omega) (by rw [size_al]; have := h4.size; omega) ?_; intro v5 w5 o5 g5; have h5 := below_grown (below_trans h4 (b00 w4)) g5 (fun k hk => (o4.lt k hk).1))
          | (at_builtin; refine wpList_append_rds rfl _ _ 22 9 rfl w.heap.size 5 i0 Tryd.underlying22 Tryd.underlying9 hi hz0 hz1 hz2 v3 (R ++ LB A ++ [61]) rfl o3 V rfl (by unfold maxLen; simp only [List.length_append, List.length_cons, List.length_nil]; omega) (by simp only [List.length_append, List.length_cons, List.length_nil]; omega) h3.size ?_; intro v4 w4 o4 g4; have h4 := below_grown h3 g4 (fun k hk => (o3.lt k hk).1))
          | (at_builtin; refine wpList_append_rd (k := .u8) rfl _ _ 22 rfl w.heap.size 5 i0 1 Tryd.underlying22 hi hz0 hz1 hz2 v2 (R ++ LB A) rfl (own_below o2 (b61 w2)) _ [61] rfl (r61 w2) (by unfold maxLen; simp only [List.length_append, List.length_cons, List.length_nil]; omega) (by simp only [List.length_append, List.length_cons, List.length_nil]; omega) (by rw [size_al]; have := h2.size; omega) ?_; intro v3 w3 o3 g3; have h3 := below_grown (below_trans h2 (b61 w2)) g3 (fun k hk => (o2.lt k hk).1); have s3 := (s2.below (b61 w2)).grown g3 (stands_apart (s2.below (b61 w2)) (own_below o2 (b61 w2)) (by decide)); have y3 := s3.cell 1 _ rfl)
          | (at_builtin; refine wpList_append_rds rfl _ _ 22 9 rfl w.heap.size 5 i0 Tryd.underlying22 Tryd.underlying9 hi hz0 hz1 hz2 _ R rfl ho A rfl (by unfold maxLen; omega) (by omega) hg.size ?_; intro v2 w2 o2 g2; have h2 := below_grown hg g2 (fun k hk => (ho.lt k hk).1); have s2 := s0.grown g2 (stands_apart s0 ho (by decide))))
        go_roundw
        case rel => exact ⟨k + 1, by omega, by go_num, by rw [hns.out]; exact o5, h5⟩
        case measure => simp [intOf]; omega
      · have hTk : l.take k = l := List.take_of_length_le (by omega)
        rw [hTk] at ho0
        have ro := (Rd_own ho0).1
        have hlo := rd_len ro uB (P := Tryd.prog)
        clear hTk
        by_cases hbig : (248 : Int) < (vaB l).length
        · have hx : 248 < (vaB l).length := by omega
          go_wp2_with fail
          go_ret2
          exact ⟨_, rfl, Rd_nil, hg0⟩
        · have hx : ¬ 248 < (vaB l).length := by omega
          go_wp2_with fail
          go_ret2
          exact ⟨_, rfl, ro, hg0⟩

theorem vaG_app : ∀ (a b : List Stt) (last : Int), vaG last (a ++ b) = (vaG last a && vaG (vaE last a) b)
  | [], b, last => by simp [vaG, vaE]
  | (n, u) :: a, b, last => by
    have := vaG_app a b (vaF n)
    simp only [List.cons_append, vaG, vaE, this, Bool.and_assoc]
theorem vaX_pre : ∀ (r cur : List Int) (eq : Option Nat) (out l : List Stt), vaX r cur eq out = some l → ∃ m, l = out ++ m
  | [], cur, eq, out, l, h => by
    simp only [vaX] at h
    split at h
    · injection h with h; exact ⟨[], by simp [h]⟩
    · cases h
  | b :: r, cur, eq, out, l, h => by
    simp only [vaX] at h
    split at h
    · cases eq with
      | none => simp at h
      | some e =>
        simp only at h
        obtain ⟨m, hm⟩ := vaX_pre r [] none _ l h
        exact ⟨_, by rw [hm, List.append_assoc]⟩
    · exact vaX_pre r _ _ out l h
theorem vaDe_bad {b r : List Int} {out : List Stt} {A V : ByteArray} (h : vaX b [] none [] = vaX r [] none (out ++ [(A, V)])) (hf : fwF (vaE (-1) out) A V = false) : vaDe b = ([], 15) := by
  cases hx : vaX r [] none (out ++ [(A, V)]) with
  | none => exact vaDe_none (h.trans hx)
  | some l =>
    rw [vaDe_some (h.trans hx)]
    obtain ⟨m, rfl⟩ := vaX_pre _ _ _ _ _ hx
    have : vaG (-1) (out ++ [(A, V)] ++ m) = false := by
      rw [List.append_assoc, vaG_app, List.singleton_append, vaG_cons, hf, Bool.false_and, Bool.and_false]
    rw [this]
    rfl
theorem va_step {out : List Stt} {A V : ByteArray} (hg : vaG (-1) out = true) (hf : fwF (vaE (-1) out) A V = true) : vaG (-1) (out ++ [(A, V)]) = true ∧ vaE (-1) (out ++ [(A, V)]) = vaF A := by
  simp only [fwF, kpF, Bool.and_eq_true, decide_eq_true_eq] at hf
  exact va_snoc out (-1) A V hg hf.1 hf.2.1 hf.2.2
theorem vaE_bd {out : List Stt} (hg : vaG (-1) out = true) : -1 ≤ vaE (-1) out ∧ vaE (-1) out < 9 := by
  have h1 : ∀ (l : List Stt) (last : Int), last < 9 → vaE last l < 9 := by
    intro l
    induction l with
    | nil => intro last h; exact h
    | cons p l ih => intro last h; obtain ⟨n, u⟩ := p; exact ih _ (va_lt n).1
  have h2 : ∀ (l : List Stt) (last : Int), -1 ≤ last → -1 ≤ vaE last l := by
    intro l
    induction l with
    | nil => intro last h; exact h
    | cons p l ih => intro last h; obtain ⟨n, u⟩ := p; exact ih _ (va_lt n).2
  exact ⟨h2 _ _ (by decide), h1 _ _ (by decide)⟩

end Go.Proofs.YtaiimfdcbdfbdabDoor
