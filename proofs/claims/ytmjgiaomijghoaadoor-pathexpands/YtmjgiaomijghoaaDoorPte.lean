/-
  Package path's Expand and Tail, as the statement takes them.
-/
import Derived.Test.YtmjgiaomijghoaaDoorPp5
import Derived.Test.YtmjgiaomijghoaaDoorPav
import Derived.Test.YtmjgiaomijghoaaDoorRa6
namespace Go.Proofs.YtmjgiaomijghoaaDoor
end Go.Proofs.YtmjgiaomijghoaaDoor
