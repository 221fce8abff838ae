/-
  What a bound on the number of values and letters says of a slice's length.
-/
import Derived.Test.YtaiimfdcbdfbdaaDoorRows
namespace Go.Proofs.YtaiimfdcbdfbdaaDoor

theorem bk_pos {H : Type} : ∀ d : DataW H, 1 ≤ Rows.uptoBulk d
  | .lit (.string _) => by simp [Rows.uptoBulk]
  | .lit (.int _ _) => by simp [Rows.uptoBulk]
  | .lit (.bool _) => by simp [Rows.uptoBulk]
  | .lit (.float _ _) => by simp [Rows.uptoBulk]
  | .lit .nil => by simp [Rows.uptoBulk]
  | .nil => by simp [Rows.uptoBulk]
  | .ptr _ => by simp [Rows.uptoBulk]
  | .slice _ _ => by simp [Rows.uptoBulk]
  | .agg _ => by simp [Rows.uptoBulk]
  | .iface _ _ => by simp [Rows.uptoBulk]
  | .map _ => by simp [Rows.uptoBulk]
  | .held _ => by simp [Rows.uptoBulk]
theorem bk_len {H : Type} : ∀ l : List (DataW H), l.length ≤ Rows.uptoBulkAll l
  | [] => Nat.zero_le _
  | d :: r => by
    have h1 := bk_pos d
    have h2 := bk_len r
    simp only [Rows.uptoBulkAll, List.length_cons]
    omega
theorem bk_mem {H : Type} {d : DataW H} : ∀ {l : List (DataW H)}, d ∈ l → Rows.uptoBulk d ≤ Rows.uptoBulkAll l
  | x :: r, h => by
    simp only [Rows.uptoBulkAll]
    rcases List.mem_cons.1 h with rfl | h
    · omega
    · have := bk_mem h
      omega
theorem bk_slice {H : Type} (a b : List (DataW H)) : a.length + b.length ≤ Rows.uptoBulk (.slice a b) := by
  have h1 := bk_len a
  have h2 := bk_len b
  simp only [Rows.uptoBulk]
  omega
theorem bk_string {H : Type} (l : List UInt8) : l.length ≤ Rows.uptoBulk (DataW.lit (H := H) (.string l)) := by
  simp [Rows.uptoBulk]
end Go.Proofs.YtaiimfdcbdfbdaaDoor
