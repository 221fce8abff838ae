/-
  The landed package vars, as the laws take it.
-/
import Derived.Test.YtaiimfdcbdfbdaaDoorVa8
namespace Go.Proofs.YtaiimfdcbdfbdaaDoor
end Go.Proofs.YtaiimfdcbdfbdaaDoor
