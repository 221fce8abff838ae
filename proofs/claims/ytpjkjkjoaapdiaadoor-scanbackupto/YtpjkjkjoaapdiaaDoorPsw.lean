/-
  How much text tokens hold: what is cut of a text is no longer than it, and what is shown is at most five times as long. No Go text in sight.
-/
import Derived.Test.YtpjkjkjoaapdiaaDoorPsc
namespace Go.Proofs.YtpjkjkjoaapdiaaDoor
set_option linter.unusedVariables false
set_option linter.unusedSimpArgs false

/-- tokens and their letters -/
def wt : List Tk → Nat
  | [] => 0
  | x :: r => x.2.1.length + 1 + wt r
theorem wt_app (a b : List Tk) : wt (a ++ b) = wt a + wt b := by
  induction a with
  | nil => simp [wt]
  | cons x a ih => simp [wt, ih]; omega
theorem wt_len (l : List Tk) : l.length ≤ wt l := by
  induction l with
  | nil => simp
  | cons x l ih => simp [wt]; omega
theorem wt_mem {x : Tk} : ∀ {l : List Tk}, x ∈ l → x.2.1.length + 1 ≤ wt l
  | y :: l, h => by
    simp only [wt]
    rcases List.mem_cons.1 h with rfl | h
    · omega
    · have := wt_mem h
      omega
/-- letters that wait -/
def pot : Sc → Nat
  | .wrd w _ => w.length
  | .sho t _ => t.length
  | .qt _ t _ => t.length
  | .qq _ t _ => t.length
  | .hx _ t h _ => t.length + h.length
  | _ => 0
theorem hexG_len : ∀ (l : List Int) (o : Option Int) (b : List Int), hexG o l = some b → b.length ≤ l.length
  | [], none, b, h => by simp [hexG] at h; subst h; simp
  | [], some _, b, h => by simp [hexG] at h
  | c :: r, none, b, h => by
    simp only [hexG] at h
    split at h
    · have := hexG_len r none b h
      simp; omega
    · split at h
      · cases h
      · have := hexG_len r _ b h
        simp; omega
  | c :: r, some n, b, h => by
    simp only [hexG] at h
    split at h
    · have := hexG_len r (some n) b h
      simp; omega
    · split at h
      · cases h
      · simp only [Option.map_eq_some_iff] at h
        obtain ⟨b', h1, rfl⟩ := h
        have := hexG_len r _ b' h1
        simp; omega
theorem step_wt (i c : Int) (s : Sc) (out : List Tk) : wt (step i c s out).2 + pot (step i c s out).1 ≤ wt out + pot s + 1 := by
  cases s with
  | btw => simp only [step]; split <;> simp [pot]
  | wrd w p =>
    simp only [step]
    split
    · unfold wend
      split
      · split <;> simp [pot] <;> omega
      · split
        · simp [pot]; omega
        · split
          · simp [pot]; omega
          · split
            · simp [pot]; omega
            · split
              · simp [pot]; omega
              · simp [pot, wt_app, wt]; omega
    · simp [pot]; omega
  | cmt => simp only [step]; split <;> simp [pot]
  | par => simp only [step]; split <;> simp [pot]
  | sho t p =>
    simp only [step]
    split
    · unfold fin; split <;> simp [pot, wt_app, wt] <;> omega
    · simp [pot]; omega
  | qt k t p => simp only [step]; split <;> simp [pot]; omega
  | qq k t p =>
    simp only [step]
    split
    · simp [pot]
    · split
      · unfold fin; split <;> simp [pot, wt_app, wt] <;> omega
      · simp [pot]; omega
  | hx k t h p =>
    simp only [step]
    split
    · split
      · simp [pot]; omega
      · rename_i b hb
        have := hexG_len h none b hb
        simp [pot]; omega
    · simp [pot]; omega
  | ert => simp [step, pot]
  | erl => simp [step, pot]
theorem run_wt (l : List Int) : ∀ (i : Int) (s : Sc) (out : List Tk), wt (run i l (s, out)).2 + pot (run i l (s, out)).1 ≤ wt out + pot s + l.length := by
  induction l with
  | nil => intro i s out; simp [run]
  | cons c l ih =>
    intro i s out
    have h1 := step_wt i c s out
    have h2 : wt (run (i + 1) l (step i c s out)).2 + pot (run (i + 1) l (step i c s out)).1 ≤ wt (step i c s out).2 + pot (step i c s out).1 + l.length := ih (i + 1) (step i c s out).1 (step i c s out).2
    show wt (run (i + 1) l (step i c s out)).2 + pot (run (i + 1) l (step i c s out)).1 ≤ _
    rw [List.length_cons]
    omega
theorem eof_wt (s : Sc) (out : List Tk) : wt (eof (s, out)).1 ≤ wt out + pot s + 1 := by
  cases s with
  | wrd w p =>
    simp only [eof]
    split
    · show wt out ≤ _
      omega
    · split
      · simp [wt]
      · simp [wt_app, wt, pot]; omega
  | qq k t p =>
    simp only [eof]
    split
    · simp [wt]
    · simp [wt_app, wt, pot]; omega
  | btw => simp [eof]; omega
  | cmt => simp [eof]; omega
  | _ => simp [eof, wt]
theorem cut_wt (X : List Int) : wt (cutF X).1 ≤ 4097 := by
  unfold cutF
  split
  · simp [wt]
  · have h1 : wt (run 0 X (.btw, [])).2 + pot (run 0 X (.btw, [])).1 ≤ 0 + 0 + X.length := run_wt X 0 .btw []
    have h2 := eof_wt (run 0 X (.btw, [])).1 (run 0 X (.btw, [])).2
    have e : eof ((run 0 X (.btw, [])).1, (run 0 X (.btw, [])).2) = eof (run 0 X (.btw, [])) := rfl
    rw [e] at h2
    omega
theorem esc_len (t : List Int) : (t.flatMap esc).length ≤ 5 * t.length := by
  induction t with
  | nil => simp
  | cons c t ih =>
    have : (esc c).length ≤ 5 := by unfold esc; split <;> simp
    simp only [List.flatMap_cons, List.length_append, List.length_cons]
    omega
theorem tokT_len (k : Int) (t : List Int) : (tokT k t).length ≤ 5 * t.length + 4 := by
  have := esc_len t
  unfold tokT
  split
  · omega
  · split <;> simp only [List.length_append, List.length_cons, List.length_nil] <;> omega
theorem shw_wt (l : List Tk) : (shwT (l.map fun x => (x.1, x.2.1))).length ≤ 5 * wt l := by
  induction l with
  | nil => simp [shwT, wt]
  | cons x l ih =>
    have := tokT_len x.1 x.2.1
    simp only [List.map_cons, shwT, wt, List.length_cons, List.length_append]
    omega
end Go.Proofs.YtpjkjkjoaapdiaaDoor
