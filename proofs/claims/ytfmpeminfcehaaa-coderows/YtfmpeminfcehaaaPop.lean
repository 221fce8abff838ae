/-
  Instructions, as plain pairs.
-/
import Derived.Test.YtfmpeminfcehaaaPmm
namespace Go.Proofs.Ytfmpeminfcehaaa

/-- an instruction: kind, number -/
abbrev Opd := Int × Int
end Go.Proofs.Ytfmpeminfcehaaa
