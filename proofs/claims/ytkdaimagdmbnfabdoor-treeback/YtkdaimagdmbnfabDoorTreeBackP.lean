/-
  The steps of a device's path lead to it, unless one of them has no unit address and an elder brother of its name.
-/
import Derived.Test.YtkdaimagdmbnfabDoorRows
import Derived.WalkKit
import Derived.ProofKit
import Derived.OpenShut
import Derived.ShutString
import Derived.ChangeOld
import Derived.Below
import Derived.Carry
import Derived.SizedLaws
import Derived.Deep.DeepHandedRow
import Derived.SevenTiedAt
import Derived.Test.YtkdaimagdmbnfabDoorCards
import Derived.Test.YtkdaimagdmbnfabDoorTie
import Derived.Test.YtkdaimagdmbnfabDoorB5
namespace Go.Proofs.YtkdaimagdmbnfabDoor.treeBack
open Go.ChangeShapes Go.WideShapes Go.ChangeAt Go.RowKit
open Go.ChangeMaps (open_string shut_string)
set_option linter.unusedVariables false

theorem own : ownKnob Tryd.prog.godebug = none := by kernel_rfl
theorem laidOut : laidOutB Tryd.prog = true := by kernel_rfl

set_option maxHeartbeats 4000000 in
set_option maxRecDepth 100000 in
theorem walk (v0 : Value) (x0 : List Nd) (a1 : Int) (w : World) (hT : Tab w) (r0 : RdT w v0 x0) (g0 : ∀ x ∈ x0, goodN x) (z0 : x0.length * 96 ≤ 140737488351232) (w1 : (Lit.int .i64 a1).wf = true) :
    Calls Tryd.prog 4 #[v0, .int .i64 a1] w fun e w' => e = .returned (.bool true) ∧ Below w.heap.size w w' := by
  have hg : goodT x0 := g0
  have e0 : strOfNums ([] : List Int) = ⟨#[]⟩ := by decide +kernel
  have q0 : ((⟨#[]⟩ : ByteArray).toList == (⟨#[]⟩ : ByteArray).toList) = true := by decide +kernel
  have c1 := fun w hT h => w_p8path v0 x0 a1 w hT h hg z0 w1
  have her := pth_err (t := x0) (n := a1)
  by_cases hE0 : (pthF x0 a1).2 = 0
  · have hw : wrgF x0 a1 = 0 := by
      by_cases g : wrgF x0 a1 = 0
      · exact g
      · exfalso
        unfold pthF at hE0
        rw [if_pos g] at hE0
        exact g hE0
    obtain ⟨hf, hn0, hn⟩ := wrg_ok hw
    obtain ⟨n, rfl⟩ : ∃ m : Nat, a1 = (m : Int) := ⟨a1.toNat, by omega⟩
    have hm : n < x0.length := by simpa using hn
    have hP : pthF x0 (n : Int) = shpF (stF x0 n n) := by
      unfold pthF
      rw [if_neg (by simpa using hw)]
      simp
    have hst := st_ok hf n hm
    have hcl : ∀ x ∈ stF x0 n n, cells x.2.1 := fun x hx => by
      obtain ⟨_, y, hy, _, h2, _⟩ := hst x hx
      rw [h2]
      exact hg.cel y hy
    have hbl : ∀ x ∈ stF x0 n n, bytesL x.1 ∧ bytesL x.2.2 := fun x hx => by
      obtain ⟨_, y, hy, h1, _, h3⟩ := hst x hx
      rw [h1, h3]
      exact ⟨(hg.byt y hy).1, fun c hc => by simp at hc⟩
    rw [hP] at hE0
    have hbk := shp_back (stF x0 n n) hcl hE0
    have hby := shp_bytes (stF x0 n n) hbl hcl
    have hlen := st_len hf n hm
    have hla8 : ¬ n = 0 → ∃ l, stF x0 n n = l ++ [(x0[n].1, x0[n].2.1, [])] := fun h0 => st_last hf hm h0
    have hfb := fin_back hf n hm x0.length (by omega)
    have hpr := fun (k : Nat) (h : k < x0.length) (h0 : ¬ k = 0) => frm_at hf h h0
    simp only [hP] at c1
    obtain ⟨A, E, hA⟩ : ∃ A E, shpF (stF x0 n n) = (A, E) := ⟨_, _, rfl⟩
    simp only [hA] at c1 hbk hby hE0
    subst hE0
    have hLA : L (strOfNums A) = A := LB_nums _ hby
    have hA256 : A.length ≤ 256 := by
      by_cases g : 256 < A.length
      · have h1 := (par_long A).2 g
        rw [hbk] at h1
        cases h1
      · omega
    have c2 := fun w => w_rpath (strOfNums A) w (by rw [← L_size, hLA]; unfold maxLen; omega)
    simp only [hLA, hbk] at c2
    obtain ⟨S, hS⟩ : ∃ S, strOfNums A = S := ⟨_, rfl⟩
    simp only [hS] at c1 c2
    obtain ⟨ST, hST⟩ : ∃ l, stF x0 n n = l := ⟨_, rfl⟩
    simp only [hST] at c2 hbl hlen hla8 hfb
    have c3 := fun vl w hT h hl => w_p8find v0 vl x0 ST w hT h hg z0 hl hbl
    have hFT : finF x0 ST 0 = some n → finT x0 ST = ((n : Int), 0) := fun h => by
      unfold finT
      rw [if_neg (by rw [hf]; simp), h]
    clear hA hLA hby hbk hst hcl hP her hS hST hn0 hn hw
    go_enter Tryd.func4, Tryd.ntmps4
    go_wp2_with (go_at_call 5; refine (w_alive8 _ hT).mono ?_; rintro e q1 ⟨rfl, b1⟩; have hT1 := hT.below b1; have t1 := r0.below b1)
    go_wp2_with (go_at_call 7; refine (c1 _ hT1 t1).mono ?_; rintro e q2 ⟨rfl, b2⟩; have hT2 := hT1.below b2; have t2 := t1.below b2)
    go_loopw [7] (fun I wx => ∃ (a f : Nat), (a : Int) < x0.length ∧ (a : Int) ≤ f ∧ I = .int .i64 a ∧ Hid (noE x0 f a → noE x0 x0.length n) ∧ Dr q2 wx) (fun I _ => (intOf I).toNat)
    case atStart => exact ⟨n, x0.length, by omega, by omega, rfl, hid (fun h => h), dr_refl _⟩
    case round =>
      obtain ⟨a, f, ha, hfa, rfl, hno, hb⟩ := hrel
      have hax : a < x0.length := by omega
      by_cases hlt : (0 : Int) < a
      · obtain ⟨hp1, hp2, hp3, hp4, hp5⟩ := hpr a hax (by omega)
        obtain ⟨p, hp⟩ : ∃ p : Nat, x0[a].2.2.1 = (p : Int) := ⟨x0[a].2.2.1.toNat, by omega⟩
        have hpa : p < a := by omega
        go_wp2_with fail
        go_loopw [8] (fun K wx => ∃ k : Nat, (k : Int) ≤ a ∧ K = .int .i64 k ∧ Hid (∀ j (hj : j < k) (hx : j < x0.length), ¬ (x0[j].2.2.1 = x0[a].2.2.1 ∧ x0[j].1 = x0[a].1 ∧ x0[a].2.1 = [])) ∧ Dr q2 wx) (fun K _ => (a - intOf K).toNat)
        case atStart => exact ⟨0, by omega, rfl, hid (fun j hj => by omega), hb⟩
        case round =>
          obtain ⟨k, hk, rfl, hnk, hb2⟩ := hrel
          obtain ⟨ba, oa, na, ua, pa, ca, ra, fa0, fa1, fa2, fa3, fa4, ea, hua, hpa1, hca⟩ := nod_at (t2.below (dr_below hb2)) a hax
          by_cases hka : (k : Int) < a
          · have hkx : k < x0.length := by omega
            obtain ⟨bk, ok, nk, uk, pk, ck, rk, fk0, fk1, fk2, fk3, fk4, ek, huk, hpk, hck⟩ := nod_at (t2.below (dr_below hb2)) k hkx
            have hlu := rd_len hua uU (P := Tryd.prog)
            have hq := str_ne_L nk na _ _ (hg.byt _ (List.getElem_mem hkx)).1 (hg.byt _ (List.getElem_mem hax)).1 ek ea
            rw [hp] at fa2
            obtain ⟨X, hX⟩ : ∃ X, x0[k].2.2.1 = X := ⟨_, rfl⟩
            rw [hX] at fk2
            have more : ¬ (X = (p : Int) ∧ x0[k].1 = x0[a].1 ∧ x0[a].2.1 = []) → Hid (∀ j (hj : j < k + 1) (hx : j < x0.length), ¬ (x0[j].2.2.1 = x0[a].2.2.1 ∧ x0[j].1 = x0[a].1 ∧ x0[a].2.1 = [])) := by
              intro g
              show ∀ j (hj : j < k + 1) (hx : j < x0.length), _
              intro j hj hx
              by_cases e : j = k
              · subst e
                rw [hX, hp]
                exact g
              · exact hnk.out j (by omega) hx
            by_cases h1 : X = (p : Int)
            · have y1 : (X == (p : Int)) = true := by simpa using h1
              by_cases h2 : x0[k].1 = x0[a].1
              · rw [decide_eq_true h2] at hq
                by_cases h3 : x0[a].2.1 = []
                · have y3 : ((x0[a].2.1.length : Int) == 0) = true := by rw [h3]; rfl
                  clear more h1 h2 h3 hnk
                  go_wp2_with fail
                  go_quiet (fail)
                  go_wp2_with fail
                  go_ret
                  exact ⟨rfl, below_trans (below_trans b1 b2) (dr_below (dr_more hb2 _))⟩
                · have y3 : ((x0[a].2.1.length : Int) == 0) = false := by
                    rw [beq_eq_false_iff_ne]
                    intro e
                    exact h3 (List.eq_nil_of_length_eq_zero (by omega))
                  have hm2 := more (fun g => h3 g.2.2)
                  clear more h1 h2 h3 hnk
                  go_wp2_with fail
                  go_quiet (fail)
                  go_wp2_with fail
                  go_roundw
                  case rel => exact ⟨k + 1, by omega, by go_num, hm2, dr_more hb2 _⟩
                  case measure => simp [intOf]; omega
              · rw [decide_eq_false h2] at hq
                have hm2 := more (fun g => h2 g.2.1)
                clear more h1 h2 hnk
                go_wp2_with fail
                go_quiet (fail)
                go_wp2_with fail
                go_roundw
                case rel => exact ⟨k + 1, by omega, by go_num, hm2, dr_more hb2 _⟩
                case measure => simp [intOf]; omega
            · have y1 : (X == (p : Int)) = false := by simpa using h1
              have hm2 := more (fun g => h1 g.1)
              clear more h1 hnk
              go_wp2_with fail
              go_quiet (fail)
              go_wp2_with fail
              go_roundw
              case rel => exact ⟨k + 1, by omega, by go_num, hm2, dr_more hb2 _⟩
              case measure => simp [intOf]; omega
          · have hno2 : Hid (noE x0 (f - 1) p → noE x0 x0.length n) := by
              show _ → _
              intro h
              apply hno.out
              obtain ⟨f', rfl⟩ : ∃ f', f = f' + 1 := ⟨f - 1, by omega⟩
              refine Or.inr ⟨?_, ?_⟩
              · rintro ⟨x, hx, hx2, j, y, hj, hy, hy2, hy3⟩
                rw [List.getElem?_eq_getElem hax] at hx
                obtain rfl := Option.some.inj hx
                have hjx : j < x0.length := by omega
                rw [List.getElem?_eq_getElem hjx] at hy
                obtain rfl := Option.some.inj hy
                exact hnk.out j (by omega) hjx ⟨hy2, hy3, hx2⟩
              · intro x hx
                rw [List.getElem?_eq_getElem hax] at hx
                obtain rfl := Option.some.inj hx
                rw [hp]
                simpa using h
            rw [hp] at fa2
            clear hno hnk
            go_wp2_with fail
            go_roundw
            case rel => exact ⟨p, f - 1, by omega, by omega, rfl, hno2, hb2⟩
            case measure => simp [intOf]; omega
      · have ha0 : a = 0 := by omega
        subst ha0
        have hfin := hfb (hno.out (by cases f <;> simp [noE]))
        simp only [hFT hfin] at c3
        have hT3 := hT2.below (dr_below hb)
        have t3 := t2.below (dr_below hb)
        have hlx := slr_len t3 uN (P := Tryd.prog)
        clear hFT hfb hno hpr
        by_cases hn0 : n = 0
        · subst hn0
          go_wp2_with (go_at_call 8; refine (c2 _).mono ?_; rintro e q4 ⟨u4, rfl, r4, b4⟩; have hT4 := hT3.below b4; have t4 := t3.below b4; have hl4 := slr_len r4 uP (P := Tryd.prog))
          go_wp2_with (go_at_call 9; refine (c3 u4 _ hT4 t4 r4).mono ?_; rintro e q5 ⟨rfl, b5⟩)
          have y2 : (ST.length : Int) ≤ (x0.length : Int) := by omega
          go_quiet (fail)
          go_wp2_with fail
          go_ret
          exact ⟨by simp, below_trans (below_trans (below_trans (below_trans b1 b2) (dr_below hb)) b4) (by first | exact b5 | exact below_drewN b5 _)⟩
        · obtain ⟨l, hl⟩ := hla8 hn0
          have y0 : ((n : Int) == 0) = false := by simpa using hn0
          have hl1 : l.length < ST.length := by rw [hl]; simp
          have hl2 : ((ST.length : Int) - 1) = ((l.length : Nat) : Int) := by rw [hl]; simp
          have hl3 : ST[l.length] = (x0[n].1, x0[n].2.1, []) := by
            subst hl
            simp
          go_wp2_with (go_at_call 8; refine (c2 _).mono ?_; rintro e q4 ⟨u4, rfl, r4, b4⟩; have hT4 := hT3.below b4; have t4 := t3.below b4; have hl4 := slr_len r4 uP (P := Tryd.prog))
          go_wp2_with (go_at_call 9; refine (c3 u4 _ hT4 t4 r4).mono ?_; rintro e q5 ⟨rfl, b5⟩)
          have t5 := t4.below b5
          have r5 := r4.below b5 (stpR_below b5)
          obtain ⟨bs, os, ns, ar, ao, an, acap, rs, fs0, fs1, fs2, es, es2, hus⟩ := stp_at r5 l.length hl1
          obtain ⟨bn, on, nn, un, pn, cn, rn, fn0, fn1, fn2, fn3, fn4, en, hun, hpn, hcn⟩ := nod_at t5 n hm
          rw [hl3] at hus
          have y2 : (ST.length : Int) ≤ (x0.length : Int) := by omega
          have cs := fun W (g : Below q5.heap.size q5 W) => w_r3sameQ _ _ _ _ W (hus.below g) (hun.below g)
          simp only [decide_true] at cs
          obtain ⟨una, unc, rfl⟩ := rd_slice hun
          have HS : Hid (∀ W, Below q5.heap.size q5 W → (W.cell? ⟨bs, os + 1, none⟩ = some (.slice ao an acap) ∧ W.cell? ⟨bn, on + 1, none⟩ = some (.slice una x0[n].2.1.length unc))) := fun W g => ⟨below_cell g fs1, below_cell g fn1⟩
          have hrd : Hid (Below q5.heap.size q5 q5.drew) := below_drewN (Below.refl _ _) 1
          have CS := hid cs
          have HB := hid hb
          have rs' : ∀ w', (Instr.indexAt 36 u4 (.int .i64 ((ST.length : Int) - 1))).run Tryd.prog w' = .ok (.pointer (some ⟨bs, os, none⟩)) w' := by rw [hl2]; exact rs
          have hw64 : IntKind.i64.wrap ((ST.length : Int) - 1) = (ST.length : Int) - 1 := wrapI _ (by omega) (by omega)
          clear cs hb fs0 fs1 fs2 fn0 fn1 fn2 fn3 fn4 hus hun hpn hcn es es2 en hl3 hl hl2 hl1 rs r4 r5 t5 t4 hT4 hT3 t3
          go_region_held (fun W => W.cell? ⟨bs, os + 1, none⟩ = some (.slice ao an acap) ∧ W.cell? ⟨bn, on + 1, none⟩ = some (.slice una x0[n].2.1.length unc)) (exact HS.out _ (by first | with_reducible exact hrd.out | with_reducible exact R6.out))
            (first
              | (go_at_call 10; refine (CS.out _ hrd.out).mono ?_; rintro e q6 ⟨rfl, d6⟩; have R6 : Hid (Below q5.heap.size q5 q6) := below_trans hrd.out (dr_below d6)))
          go_wp2_with fail
          go_ret
          exact ⟨by simp, below_trans (below_trans (below_trans (below_trans (below_trans b1 b2) (dr_below HB.out)) b4) b5) R6.out⟩
  · have hA0 : (pthF x0 a1).1 = [] := by
      rcases her with h | h
      · exact absurd h hE0
      · exact h
    obtain ⟨A, E, hA⟩ : ∃ A E, pthF x0 a1 = (A, E) := ⟨_, _, rfl⟩
    simp only [hA] at c1 hA0 hE0
    subst hA0
    simp only [e0] at c1
    have qE : (E == 0) = false := by simpa using hE0
    have qN : (E != 0) = true := by simpa using hE0
    clear hA her
    go_enter Tryd.func4, Tryd.ntmps4
    go_wp2_with (go_at_call 5; refine (w_alive8 _ hT).mono ?_; rintro e q1 ⟨rfl, b1⟩; have hT1 := hT.below b1; have t1 := r0.below b1)
    go_wp2_with (go_at_call 7; refine (c1 _ hT1 t1).mono ?_; rintro e q2 ⟨rfl, b2⟩)
    go_ret
    exact ⟨by simp, below_trans b1 b2⟩

set_option maxRecDepth 100000 in
/-- what the walk gives, for every argument and every world that holds what is listed -/
theorem contract (H : Type) (enc : TypeId × Value → H) (W : World) (base : Nat) (args : Array Value) (ds gs : List (DataW H)) (before : List MemPlace)
    (hval0 : ∀ (j : Nat) t v, Tryd.f4.params[j]? = some t → args[j]? = some v → Value.okWide Tryd.prog W .any base t v)
    (hW : DataW.Whole enc Tryd.prog Tryd.f4.params.toList Rows.treeBackSpec.vars false W args.toList ds gs before)
    (hsz0 : (DataW.weightsEach Tryd.prog (Tryd.f4.params.toList ++ Rows.treeBackSpec.plain.varTypes Tryd.prog) (ds ++ gs)).all (· ≤ reachBytes) = true)
    (hL : laidMetH Tryd.prog Rows.treeBackRow.laid W) :
    Calls Tryd.prog 4 args W fun e W' => ∃ v, e = .returned v ∧ Rows.treeBackSpec.post enc Tryd.prog Tryd.f4 false true false false W args v W' := by
  have hval : ∀ (j : Nat) t v, Tryd.f4.params[j]? = some t → args[j]? = some v → Value.okWide Tryd.prog W .any base t v := hval0
  have hsz : (DataW.weightsEach Tryd.prog (Tryd.f4.params.toList ++ Rows.treeBackSpec.plain.varTypes Tryd.prog) (ds ++ gs)).all (· ≤ reachBytes) = true := hsz0
  have hT : Tab W := tab_of_laid hL
  have hW' := hW
  obtain ⟨p, q, hA0, hV, rfl, hfz, hnd⟩ := hW
  have hA : DataW.TrodAll enc Tryd.prog W 0 (fun _ => true) true Tryd.f4.params.toList args.toList ds p := hA0
  rw [Tryd.params4] at hA hval hsz
  obtain ⟨v0, vs0, d0, ds0, p0, q0, hargs, rfl, rfl, h0, r0⟩ := trodAll_cons hA
  obtain ⟨v1, vs1, d1, ds1, p1, q1, rfl, rfl, rfl, h1, r1⟩ := trodAll_cons r0
  obtain ⟨rfl, rfl, rfl⟩ := trodAll_nil r1
  obtain rfl : args = #[v0, v1] := by cases args; simp_all
  obtain ⟨rfl, rfl⟩ := trodVars_none hV
  obtain ⟨s0, l0, c0, rfl⟩ := okWide_slice Tryd.underlying22 (hval 0 22 v0 rfl rfl)
  have k0 := h0
  have lt0 : ∀ x ∈ p0, x.block < W.heap.size := by obtain ⟨m, hm⟩ := k0; exact DataW.trod_lt m _ _ _ hm
  obtain ⟨x0, r100, g0, z0⟩ := nod_open h0 (fun n hn => by simpa using List.all_eq_true.1 hsz n (DataW.weights_mem_each (j := 0) (t := 22) (d := d0) rfl rfl n hn))
  obtain ⟨a1, rfl, rfl, rfl, w1⟩ := open_int Tryd.underlying3 (hval 1 3 v1 rfl rfl) h1
  clear hA0 hval0 hsz0
  refine (walk (.slice s0 l0 c0) x0 a1 W hT r100 g0 z0 w1).mono fun e W' ⟨he, bel⟩ => ?_
  subst he
  exact ⟨_, rfl, _, _, _, [], _, [], hW', trodAll_mk1 (shut_bool Tryd.underlying4 _), (trodAll_cons_mk (Below.trod laidOut (by kernel_rfl) (of_decide_eq_true (by kernel_rfl)) k0 bel lt0) (trodAll_cons_mk (shut_int Tryd.underlying3 w1) trodAll_mk0)), rfl, bel.frame _, fun h => by cases h⟩

/-- a world for the witness: the settled one, the listed blocks as their initialisers lay them -/
def layBlock (b : Nat × Array Value) : Obj → Obj
  | .cells _ t frozen => .cells b.2 t frozen
  | o => o
noncomputable def laidWorld (os : Os) : World :=
  { World.holding Tryd.prog os ⟨#[], #[], []⟩ with heap := laidBlocks.foldl (fun h b => h.modify b.1 (layBlock b)) (World.holding Tryd.prog os ⟨#[], #[], []⟩).heap }
theorem laid_met (os : Os) : laidMet Tryd.prog Rows.treeBackRow.laid ((laidWorld os).forCall (fun _ _ => 0) ⟨#[], #[.slice none 0 0, .int .i64 0], []⟩).memory :=
  laidMet_of_run' 8 (by kernel_rfl) (by kernel_rfl)
theorem reads (os : Os) {H : Type} (enc : TypeId × Value → H) : ∃ places, DataW.whole enc Tryd.prog ((laidWorld os).forCall (fun _ _ => 0) ⟨#[], #[.slice none 0 0, .int .i64 0], []⟩).memory Tryd.f4.params.toList Rows.treeBackSpec.vars false #[.slice none 0 0, .int .i64 0].toList 8 = some ([.nil, .lit (.int .i64 0)], [], places) :=
  ⟨[], by kernel_rfl⟩

set_option maxRecDepth 100000 in
theorem lifted (os : Os) (started : os.Started) (H : Type) (enc : TypeId × Value → H) (F : Stop.Interp) :
    ReturnsInHanded {} Tryd.checked os 4 .any ((OpenSpec.ofChange Rows.treeBackSpec).preRow enc Tryd.prog Tryd.f4 Rows.treeBackRow.domain false Rows.treeBackRow.laid) (((OpenSpec.ofChange Rows.treeBackSpec).at F).post enc Tryd.prog Tryd.f4 false true false false) := by
  obtain ⟨places, hx⟩ := reads os enc
  refine returnsInHanded_of_row (C := Tryd.checked) (s := OpenSpec.ofChange Rows.treeBackSpec) own started (by kernel_rfl) Tryd.func4
    (witness_row_at (enc := enc) (C := Tryd.checked) false (laidWorld os) #[.slice none 0 0, .int .i64 0] rfl (by kernel_rfl) (by kernel_rfl) (by kernel_rfl)
      (OpenSpec.preRow_of_cond 8 hx (by kernel_rfl) (fun k hk => by cases hk) (by kernel_rfl) (laid_met os))) ?_
  intro W base args ds gs before hval hW _ hcnd hsz hL _ _
  exact contract H enc W base args ds gs before hval hW hsz hL

theorem said : Rows.TreeBackSaid :=
  OpenClaim.holds_of_cond 4 Tryd.f4 rfl rfl rfl rfl rfl rfl rfl ⟨rfl, rfl, rfl, rfl, rfl⟩ rfl rfl rfl rfl rfl (by kernel_rfl) Tryd.func4 (by kernel_rfl)
    (of_decide_eq_true (by kernel_rfl)) (by unfold Func.isWrapper; first | (rw [if_pos (by decide +kernel)]; kernel_rfl) | (rw [if_neg (by decide +kernel)]; exact ⟨rfl, rfl⟩))
    (fun os started H enc _ F => by rw [OpenClaim.pre_eq_preRow]; exact lifted os started H enc F)

theorem plain (f : FuncId) (fn : Func) (hf : Tryd.pinned.checked.prog.funcNamed "tinder/tinderlaw08.TreeBack" = some f) (hfn : Tryd.pinned.checked.prog.funcs[f]? = some fn) :
    false = Tryd.pinned.checked.prog.looks [] ∧ ∀ (j : Nat) t, fn.params[j]? = some t → Tryd.pinned.checked.prog.wantsStandIn t = false := by
  obtain rfl : f = 4 := Option.some.inj ((show Tryd.prog.funcNamed "tinder/tinderlaw08.TreeBack" = some 4 by kernel_rfl).symm.trans hf) |>.symm
  obtain rfl : fn = Tryd.f4 := (Option.some.inj (Tryd.func4.symm.trans hfn)).symm
  refine ⟨by kernel_rfl, fun j t ht => ?_⟩
  rw [Tryd.params4] at ht
  rcases j with _ | _ | j
  · obtain rfl : t = 22 := by simpa using ht.symm
    exact (show Tryd.prog.wantsStandIn 22 = false by kernel_rfl)
  · obtain rfl : t = 3 := by simpa using ht.symm
    exact (show Tryd.prog.wantsStandIn 3 = false by kernel_rfl)
  · simp at ht

theorem card : Rows.TreeBackCardSaid :=
  Claim7.holds_tied_plain_at .later [] _ _ _ _ said (fun _ h => by cases h) (by kernel_rfl) (fun _ h => by cases h) treeBack_row_tie rfl ⟨rfl, rfl⟩ (by kernel_rfl) rfl plain (by kernel_rfl)
end Go.Proofs.YtkdaimagdmbnfabDoor.treeBack
namespace Go.Proofs.YtkdaimagdmbnfabDoor
theorem treeBack_holds : Rows.TreeBackCardSaid := treeBack.card
#print axioms treeBack_holds
end Go.Proofs.YtkdaimagdmbnfabDoor
