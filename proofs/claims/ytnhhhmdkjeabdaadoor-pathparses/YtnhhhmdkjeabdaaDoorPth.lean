/-
  Package path's Parse and Show, as the statements take them.
-/
import Derived.Test.YtnhhhmdkjeabdaaDoorPp2
import Derived.Test.YtnhhhmdkjeabdaaDoorPp4
import Derived.Test.YtnhhhmdkjeabdaaDoorRa4
import Derived.Test.YtnhhhmdkjeabdaaDoorRa5
import Derived.Test.YtnhhhmdkjeabdaaDoorPax
namespace Go.Proofs.YtnhhhmdkjeabdaaDoor
end Go.Proofs.YtnhhhmdkjeabdaaDoor
