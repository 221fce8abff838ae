/-
  Decode of the document's answer for layer 19 (of at most 1048576 bytes).
-/
import Derived.Test.YtaiimfdcbdfbdaaDoorRv7
import Derived.Test.YtaiimfdcbdfbdaaDoorOw2
namespace Go.Proofs.YtaiimfdcbdfbdaaDoor
open Go.ChangeShapes Go.WideShapes Go.ChangeAt Go.RowKit
set_option linter.unusedVariables false
set_option linter.unusedSimpArgs false

def eqI (f : Nat) (eq : Option Nat) : Int := match eq with | none => -1 | some e => (f : Int) + e
theorem vaDe_none {b : List Int} (h : vaX b [] none [] = none) : vaDe b = ([], 15) := by unfold vaDe; rw [h]
theorem vaDe_some {b : List Int} {l : List Stt} (h : vaX b [] none [] = some l) : vaDe b = if vaG (-1) l then (l, 0) else ([], 15) := by unfold vaDe; rw [h]
theorem nums_size (l : List Int) : (strOfNums l).size = l.length := by simp [strOfNums, ByteArray.size]

set_option maxHeartbeats 4000000 in
set_option maxRecDepth 10000 in
theorem w_rdecode19 (v : Value) (b : List Int) (w : World) (h : Rd .u8 w v b) (hb : bytesL b) (hz : b.length ≤ 1048576) :
    Calls Tryd.prog 27 #[v] w fun e w' => ∃ v', e = .returned (.tuple #[v', .int .i64 (vaDe b).2]) ∧ OwT w.heap.size w' v' (vaDe b).1 ∧ Below w.heap.size w w' := by
  have hlen := rd_len h uB (P := Tryd.prog)
  obtain ⟨i4, hi4, hz4, hs4, hb4⟩ := info_st
  have HV := hid h
  go_enter Tryd.func27, Tryd.ntmps27
  go_wp2_with fail
  go_loopw [4, 5, 6, 7] (fun O F E I wx => ∃ (k f : Nat) (eq : Option Nat) (out : List Stt), k ≤ b.length ∧ I = .int .i64 k ∧ F = .int .i64 f ∧ E = .int .i64 (eqI f eq) ∧ f ≤ k ∧ (∀ e, eq = some e → f + e < k) ∧ OwT w.heap.size wx O out ∧ (∀ p ∈ out, gS p) ∧ out.length ≤ k ∧ Hid (vaX b [] none [] = vaX (b.drop k) ((b.take k).drop f) eq out) ∧ Below w.heap.size w wx) (fun _ _ _ I _ => (b.length - intOf I).toNat)
  case atStart => exact ⟨0, 0, none, [], by omega, rfl, rfl, rfl, by omega, (fun e h => by cases h), owt_nil _ _, (fun p hp => by cases hp), by simp, hid rfl, Below.refl _ _⟩
  case round =>
    obtain ⟨k, f, eq, out, hk, rfl, rfl, rfl, hfk, he, ho, hgS, hol, hm, hg⟩ := hrel
    by_cases hlt : (k : Int) < b.length
    · have hkk : k < b.length := by omega
      obtain ⟨ad, c, q1, q2, q3, q4, q5⟩ := mem_at (h.below hg) hb (k : Int) (by omega) hlt
      have hc : b[k] = c := by rw [← q5, List.getD_eq_getElem?_getD]; simp [hkk]
      have hd : b.drop k = c :: b.drop (k + 1) := by rw [List.drop_eq_getElem_cons hkk, hc]
      have hcu : (b.take (k + 1)).drop f = (b.take k).drop f ++ [c] := by
        rw [List.take_succ_eq_append_getElem hkk, hc, List.drop_append_of_le_length (by rw [List.length_take]; omega)]
      have hcl : ((b.take k).drop f).length = k - f := by rw [List.length_drop, List.length_take]; omega
      have hm2 := hm.out
      rw [hd] at hm2
      by_cases c0 : c = 0
      · subst c0
        simp only [vaX, if_true] at hm2
        cases eq with
        | none =>
          simp only at hm2
          have hR := hid (vaDe_none hm2)
          rw [show eqI f none = -1 from rfl]
          clear hm hm2 hd hcu hcl hc q5 he ho hgS
          go_wp2_with fail
          go_ret2
          exact ⟨.slice none 0 0, by rw [hR.out]; rfl, by rw [hR.out]; exact owt_nil _ _, hg⟩
        | some e =>
          simp only at hm2
          have hek := he e rfl
          rw [show eqI f (some e) = (f : Int) + e from rfl]
          have hwf : IntKind.i64.wrap ((f : Int) + e + 1) = (f : Int) + e + 1 := by rw [IntKind.wrap_i64]; omega
          obtain ⟨vc1, rc1, sc1, -, -⟩ := rd_cutI HV.out uB zB (f : Int) ((f : Int) + e) (by omega) (by omega) (by omega)
          obtain ⟨vc2, rc2, sc2, -, -⟩ := rd_cutI HV.out uB zB ((f : Int) + e + 1) (k : Int) (by omega) (by omega) (by omega)
          have e1 : (b.drop (f : Int).toNat).take ((f : Int) + e - f).toNat = ((b.take k).drop f).take e := by
            rw [show (f : Int).toNat = f from rfl, show ((f : Int) + e - f).toNat = e by omega, List.drop_take, List.take_take, Nat.min_eq_left (by omega)]
          have e2 : (b.drop ((f : Int) + e + 1).toNat).take ((k : Int) - ((f : Int) + e + 1)).toNat = ((b.take k).drop f).drop (e + 1) := by
            rw [show ((f : Int) + e + 1).toNat = f + e + 1 by omega, show ((k : Int) - ((f : Int) + e + 1)).toNat = k - (f + e + 1) by omega, List.drop_drop, List.drop_take]
            rfl
          rw [e1] at rc1
          rw [e2] at rc2
          have hNs : (strOfNums (((b.take k).drop f).take e)).size ≤ maxLen := by rw [nums_size, List.length_take, hcl]; unfold maxLen; omega
          have hVs : (strOfNums (((b.take k).drop f).drop (e + 1))).size ≤ maxLen := by rw [nums_size, List.length_drop, hcl]; unfold maxLen; omega
          have cv1 := fun W (g : Below w.heap.size w W) => rd_strT (rc1.below g)
          have cv2 := fun W (g : Below w.heap.size w W) => rd_strT (rc2.below g)
          obtain ⟨N, hN⟩ : ∃ N, strOfNums (((b.take k).drop f).take e) = N := ⟨_, rfl⟩
          obtain ⟨V, hVe⟩ : ∃ V, strOfNums (((b.take k).drop f).drop (e + 1)) = V := ⟨_, rfl⟩
          rw [hN, hVe] at hm2
          rw [hN] at hNs
          rw [hVe] at hVs
          simp only [hN] at cv1
          simp only [hVe] at cv2
          have hm3 : Hid (vaX b [] none [] = vaX (b.drop (k + 1)) ((b.take (k + 1)).drop (k + 1)) none (out ++ [(N, V)])) := by
            show _ = _
            rw [hm2, List.drop_of_length_le (show (b.take (k + 1)).length ≤ k + 1 by rw [List.length_take]; omega)]
          have hgS2 : ∀ p ∈ out ++ [(N, V)], gS p := by
            intro p hp
            rcases List.mem_append.1 hp with hp | hp
            · exact hgS p hp
            · rw [List.mem_singleton.1 hp]; exact ⟨hNs, hVs⟩
          have HS : Hid (∀ W, Below w.heap.size w W → ((convert 39 9 vc1).run Tryd.prog W = .ok (.string N) W ∧ (convert 39 9 vc2).run Tryd.prog W = .ok (.string V) W)) := fun W g => ⟨cv1 W g, cv2 W g⟩
          have bdr : Hid (Below w.heap.size w wr.drew) := below_drewN hg 1
          have BX := below_trans bdr.out (box_below wr.drew (.cells #[.string N, .string V] 46))
          have k3 : OwT w.heap.size (wr.drew.alloc (.cells #[.string N, .string V] 46)) _ out := own_belowT (own_belowT ho (below_drewN (Below.refl _ _) 1)) (box_below wr.drew _)
          unfold OwT at k3
          clear hm hm2 hd hcu hcl hc q5 he ho hgS cv1 cv2 rc1 rc2 e1 e2 hN hVe hNs hVs
          go_upto_region 11 with fail
          refine wp_region_held_drew (S := fun W => (convert 39 9 vc1).run Tryd.prog W = .ok (.string N) W ∧ (convert 39 9 vc2).run Tryd.prog W = .ok (.string V) W) (by kernel_rfl) (HS.out _ bdr.out) (fun hHeld => ?_)
          refine wpAnyH_take (i := 0) (v := ?v1) rfl (by kernel_rfl) (by kernel_rfl) (by kernel_rfl) (fun _ _ _ h => h) (Or.inl ⟨by kernel_rfl, ?h1⟩) hHeld ?r1
          case h1 => intro W hSw; (try dsimp only at hSw); obtain ⟨z1, z2⟩ := hSw; go_simp; try with_reducible rfl
          simp only [Act.put, List.setIfInBounds_toArray, List.set_cons_zero, List.set_cons_succ]
          refine wpAnyH_take (i := 1) (v := ?v2) rfl (by kernel_rfl) (by kernel_rfl) (by kernel_rfl) (fun _ _ _ h => h) (Or.inl ⟨by kernel_rfl, ?h2⟩) hHeld ?r2
          case h2 => intro W hSw; (try dsimp only at hSw); obtain ⟨z1, z2⟩ := hSw; go_simp; try with_reducible rfl
          simp only [Act.put, List.setIfInBounds_toArray, List.set_cons_zero, List.set_cons_succ]
          refine wpAnyH_take (i := 2) (v := ?v3) rfl (by kernel_rfl) (by kernel_rfl) (by kernel_rfl) (fun _ _ _ h => h) (Or.inl ⟨by kernel_rfl, ?h3⟩) hHeld ?r3
          case h3 => intro W hSw; (try dsimp only at hSw); obtain ⟨z1, z2⟩ := hSw; go_simp; try with_reducible rfl
          simp only [Act.put, List.setIfInBounds_toArray, List.set_cons_zero, List.set_cons_succ]
          refine wpAnyH_take (i := 3) (v := ?v4) rfl (by kernel_rfl) (by kernel_rfl) (by kernel_rfl) (fun _ _ _ h => h) (Or.inl ⟨by kernel_rfl, ?h4⟩) hHeld ?r4
          case h4 => intro W hSw; (try dsimp only at hSw); obtain ⟨z1, z2⟩ := hSw; go_simp; try with_reducible rfl
          simp only [Act.put, List.setIfInBounds_toArray, List.set_cons_zero, List.set_cons_succ]
          refine wpAnyH_take (i := 4) (v := ?v5) rfl (by kernel_rfl) (by kernel_rfl) (by kernel_rfl) (fun _ _ _ h => h) (Or.inl ⟨by kernel_rfl, ?h5⟩) hHeld ?r5
          case h5 => intro W hSw; (try dsimp only at hSw); obtain ⟨z1, z2⟩ := hSw; go_simp; try with_reducible rfl
          simp only [Act.put, List.setIfInBounds_toArray, List.set_cons_zero, List.set_cons_succ]
          refine wpAnyH_take (i := 5) (v := ?v6) rfl (by kernel_rfl) (by kernel_rfl) (by kernel_rfl) (fun _ _ _ h => h) (Or.inl ⟨by kernel_rfl, ?h6⟩) hHeld ?r6
          case h6 => intro W hSw; (try dsimp only at hSw); obtain ⟨z1, z2⟩ := hSw; go_simp; try with_reducible rfl
          simp only [Act.put, List.setIfInBounds_toArray, List.set_cons_zero, List.set_cons_succ]
          refine wpAnyH_take (i := 6) (v := ?v7) rfl (by kernel_rfl) (by kernel_rfl) (by kernel_rfl) (fun _ _ _ h => h) (Or.inl ⟨by kernel_rfl, ?h7⟩) hHeld ?r7
          case h7 => intro W hSw; (try dsimp only at hSw); obtain ⟨z1, z2⟩ := hSw; go_simp; try with_reducible rfl
          simp only [Act.put, List.setIfInBounds_toArray, List.set_cons_zero, List.set_cons_succ]
          refine wpAnyH_take (i := 7) (v := ?v8) rfl (by kernel_rfl) (by kernel_rfl) (by kernel_rfl) (fun _ _ _ h => h) (Or.inl ⟨by kernel_rfl, ?h8⟩) hHeld ?r8
          case h8 => intro W hSw; (try dsimp only at hSw); obtain ⟨z1, z2⟩ := hSw; go_simp; try with_reducible rfl
          simp only [Act.put, List.setIfInBounds_toArray, List.set_cons_zero, List.set_cons_succ]
          refine wpAnyH_take (i := 8) (v := ?v9) rfl (by kernel_rfl) (by kernel_rfl) (by kernel_rfl) (fun _ _ _ h => h) (Or.inl ⟨by kernel_rfl, ?h9⟩) hHeld ?r9
          case h9 => intro W hSw; (try dsimp only at hSw); obtain ⟨z1, z2⟩ := hSw; go_simp; try with_reducible rfl
          simp only [Act.put, List.setIfInBounds_toArray, List.set_cons_zero, List.set_cons_succ]
          refine wpAnyH_take (i := 9) (v := ?v10) rfl (by kernel_rfl) (by kernel_rfl) (by kernel_rfl) (fun _ _ _ h => h) (Or.inl ⟨by kernel_rfl, ?h10⟩) hHeld ?r10
          case h10 => intro W hSw; (try dsimp only at hSw); obtain ⟨z1, z2⟩ := hSw; go_simp; try with_reducible rfl
          simp only [Act.put, List.setIfInBounds_toArray, List.set_cons_zero, List.set_cons_succ]
          refine wpAnyH_take (i := 10) (v := ?v11) rfl (by kernel_rfl) (by kernel_rfl) (by kernel_rfl) (fun _ _ _ h => h) (Or.inl ⟨by kernel_rfl, ?h11⟩) hHeld ?r11
          case h11 => intro W hSw; (try dsimp only at hSw); obtain ⟨z1, z2⟩ := hSw; go_simp; try with_reducible rfl
          simp only [Act.put, List.setIfInBounds_toArray, List.set_cons_zero, List.set_cons_succ]
          refine wpAnyH_take (i := 11) (v := ?v12) rfl (by kernel_rfl) (by kernel_rfl) (by kernel_rfl) (fun _ _ _ h => h) (Or.inl ⟨by kernel_rfl, ?h12⟩) hHeld ?r12
          case h12 => intro W hSw; (try dsimp only at hSw); obtain ⟨z1, z2⟩ := hSw; go_simp; try with_reducible rfl
          simp only [Act.put, List.setIfInBounds_toArray, List.set_cons_zero, List.set_cons_succ]
          refine wpAnyH_take (i := 12) (v := ?v13) rfl (by kernel_rfl) (by kernel_rfl) (by kernel_rfl) (fun _ _ _ h => h) (Or.inl ⟨by kernel_rfl, ?h13⟩) hHeld ?r13
          case h13 => intro W hSw; (try dsimp only at hSw); obtain ⟨z1, z2⟩ := hSw; go_simp; try with_reducible rfl
          simp only [Act.put, List.setIfInBounds_toArray, List.set_cons_zero, List.set_cons_succ]
          refine wpAnyH_ready (rs := [13]) (by kernel_rfl) (by simp) ?_
          refine AllReadyH.cons rfl (fun K hK => ?_) AllReadyH.nil
          go_simp
          refine hK.out _ _ (HS.out _ BX) (fun hHeld => ?_)
          clear hK K
          (try simp only [Act.put, List.setIfInBounds_toArray, List.set_cons_zero, List.set_cons_succ])
          refine wpAnyH_ready (rs := [14]) (by kernel_rfl) (by simp) ?_
          refine AllReadyH.cons rfl (fun K hK => ?_) AllReadyH.nil
          refine step_append_rows rfl _ _ 30 rfl w.heap.size 46 i4 _ 2 32 Tryd.underlying30 hi4 hz4 hs4 hb4 rfl (by decide) _ out.length _ rfl k3 _ [[Value.string N, Value.string V]] rfl (slc_one wr.drew [Value.string N, Value.string V] 46 2 rfl) (fun r hr => by rw [List.mem_singleton] at hr; subst hr; exact st_one (N, V)) (by unfold maxLen; simp only [List.length_singleton]; omega) (by simp only [List.length_singleton]; omega) BX.size ?_; intro v7 w7 o7 g7; have B7 : Hid (Below w.heap.size w w7) := below_grown BX g7 (fun k hk => (k3.lt k hk).1)
          refine hK.out _ _ (HS.out _ B7.out) (fun hHeld => ?_)
          clear hK K
          (try simp only [Act.put, List.setIfInBounds_toArray, List.set_cons_zero, List.set_cons_succ])
          refine wpAnyH_ready (rs := [15]) (by kernel_rfl) (by simp) ?_
          refine AllReadyH.cons rfl (fun K hK => ?_) AllReadyH.nil
          go_simp
          refine hK.out _ _ (HS.out _ B7.out) (fun hHeld => ?_)
          clear hK K
          (try simp only [Act.put, List.setIfInBounds_toArray, List.set_cons_zero, List.set_cons_succ])
          refine wpAnyH_done (by kernel_rfl) ?_ _
          go_wp2_with fail
          go_roundw
          case rel => exact ⟨k + 1, k + 1, none, out ++ [(N, V)], by omega, by go_num, by go_num, rfl, by omega, (fun e h => by cases h), (by unfold OwT; simpa [stC] using o7), hgS2, by simp; omega, hm3, B7.out⟩
          case measure => simp [intOf]; omega
      · simp only [vaX, if_neg c0] at hm2
        rw [← hcu] at hm2
        by_cases c1 : c = 61
        · cases eq with
          | none =>
            rw [if_pos ⟨c1, rfl⟩, hcl] at hm2
            have hm3 := hid hm2
            have hq1 : (c == 61) = true := by simpa using c1
            have hei : ((k : Int)) = eqI f (some (k - f)) := by simp only [eqI]; omega
            have HE := hid hei
            rw [show eqI f none = -1 from rfl]
            clear hm hm2 hd hcu hcl hc q5 c1 hei
            go_wp2_with fail
            go_roundw
            case rel => exact ⟨k + 1, f, some (k - f), out, by omega, by go_num, rfl, by rw [← HE.out], by omega, (fun e h => by injection h with h; omega), ho, hgS, by omega, hm3, hg⟩
            case measure => simp [intOf]; omega
          | some e =>
            rw [if_neg (fun z => by cases z.2)] at hm2
            have hm3 := hid hm2
            have hek := he e rfl
            have hq1 : (c == 61) = true := by simpa using c1
            have HE : Hid (eqI f (some e) = (f : Int) + e) := rfl
            rw [show eqI f (some e) = (f : Int) + e from rfl]
            clear hm hm2 hd hcu hcl hc q5 c1 he
            go_wp2_with fail
            go_roundw
            case rel => exact ⟨k + 1, f, some e, out, by omega, by go_num, rfl, rfl, by omega, (fun e h => by injection h with h; omega), ho, hgS, by omega, hm3, hg⟩
            case measure => simp [intOf]; omega
        · rw [if_neg (fun z => c1 z.1)] at hm2
          have hm3 := hid hm2
          obtain ⟨E, hEe⟩ : ∃ E, eqI f eq = E := ⟨_, rfl⟩
          have HE := hid hEe
          have he2 := hid he
          rw [hEe]
          clear hm hm2 hd hcu hcl hc q5 he hEe
          go_wp2_with fail
          go_roundw
          case rel => exact ⟨k + 1, f, eq, out, by omega, by go_num, rfl, by rw [HE.out], by omega, (fun e h => by have := he2.out e h; omega), ho, hgS, by omega, hm3, hg⟩
          case measure => simp [intOf]; omega
    · have hkb : k = b.length := by omega
      have hm2 := hm.out
      rw [List.drop_of_length_le (show b.length ≤ k by omega), List.take_of_length_le (show b.length ≤ k by omega)] at hm2
      simp only [vaX] at hm2
      have cR := fun v w r => w_rright v out w r
      obtain ⟨E, hEe⟩ : ∃ E, eqI f eq = E := ⟨_, rfl⟩
      rw [hEe]
      by_cases hf : f = b.length
      · rw [List.drop_of_length_le (by omega), if_pos rfl] at hm2
        have hq : ((f : Int) != (b.length : Int)) = false := by rw [hf]; simp
        have hR := vaDe_some hm2
        cases hG : vaG (-1) out
        · rw [hG] at hR
          simp only [Bool.false_eq_true, if_false] at hR
          have HR := hid hR
          simp only [hG] at cR
          clear hm hm2 hR hEe hkb hf
          go_wp2_with (go_at_call 23; refine (cR _ _ (ho.read hgS)).mono ?_; rintro e w8 ⟨rfl, b8⟩)
          go_ret2
          exact ⟨.slice none 0 0, by rw [HR.out]; rfl, by rw [HR.out]; exact owt_nil _ _, below_trans hg b8⟩
        · rw [hG] at hR
          simp only [if_true] at hR
          have HR := hid hR
          simp only [hG] at cR
          clear hm hm2 hR hEe hkb hf
          go_wp2_with (go_at_call 23; refine (cR _ _ (ho.read hgS)).mono ?_; rintro e w8 ⟨rfl, b8⟩)
          go_ret2
          refine ⟨_, ?_, (by rw [HR.out]; exact own_belowT ho b8), below_trans hg b8⟩
          rw [HR.out]
          rfl
      · have hne : ¬ b.drop f = [] := by
          intro hn
          have := congrArg List.length hn
          rw [List.length_drop] at this
          simp only [List.length_nil] at this
          omega
        rw [if_neg hne] at hm2
        have HR := hid (vaDe_none hm2)
        have hq : ((f : Int) != (b.length : Int)) = true := by simp; omega
        clear hm hm2 hEe hkb hf hne cR
        go_wp2_with fail
        go_ret2
        exact ⟨.slice none 0 0, by rw [HR.out]; rfl, by rw [HR.out]; exact owt_nil _ _, hg⟩
end Go.Proofs.YtaiimfdcbdfbdaaDoor
