/-
  What the laws of layer 18 ask of a writing, in one piece. No Go text in sight.
-/
import Derived.Test.YtlnlifijnijgmaaPn2
namespace Go.Proofs.Ytlnlifijnijgmaa
set_option linter.unusedVariables false
set_option linter.unusedSimpArgs false

theorem pln_cut (xs ds : List Int) (hl : xs.length = 512) (hb : bytesL xs) (hd : bytesL ds) (hs : ds.length ≤ 248) :
    ∃ R, plnF xs ds = (R, 0) ∧ R.length = 9 + ds.length ∧ (∀ n : Int, (aplF xs R n).length = 512 ∧ bytesL (aplF xs R n)) ∧ (∀ n : Int, (R.length : Int) ≤ n → ∃ k, rcvF (aplF xs R n) = (ds, k, true)) ∧
      ∀ n : Int, n < R.length → (rcvF (aplF xs R n)).1 = (rcvF xs).1 ∧ (rcvF (aplF xs R n)).2.2 = (rcvF xs).2.2 := by
  have hg := cnt_gen hb
  refine ⟨wrtF (bsF (cntF xs).1) (((cntF xs).2 + 1) % 256) ds, ?_, wrt_len _ _ _, fun n => ⟨?_, ?_⟩, fun n hn => ?_, fun n hn => cut_old hl hs n hn⟩
  · unfold plnF; rw [if_pos hl, if_neg (by omega)]
  · unfold aplF; rw [apl_len]; exact hl
  · exact apl_bytes _ _ hb (fun p hp => wrt_bytes (by omega) hd hs p (List.mem_of_mem_take hp))
  · rw [apl_pre _ _ _ hn]; exact cut_new hl hb hs
theorem pln_long (xs ds : List Int) (hl : xs.length = 512) (hs : (248 : Int) < ds.length) : plnF xs ds = ([], 3) := by unfold plnF; rw [if_pos hl, if_pos hs]
theorem pln_arg (xs ds : List Int) (hl : ¬ xs.length = 512) : plnF xs ds = ([], 1) := by unfold plnF; rw [if_neg hl]
end Go.Proofs.Ytlnlifijnijgmaa
