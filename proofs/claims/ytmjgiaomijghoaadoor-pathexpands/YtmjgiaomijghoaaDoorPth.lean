/-
  Package path's Parse and Show, as the statements take them.
-/
import Derived.Test.YtmjgiaomijghoaaDoorPp2
import Derived.Test.YtmjgiaomijghoaaDoorPp4
import Derived.Test.YtmjgiaomijghoaaDoorRa4
import Derived.Test.YtmjgiaomijghoaaDoorRa5
import Derived.Test.YtmjgiaomijghoaaDoorPax
namespace Go.Proofs.YtmjgiaomijghoaaDoor
end Go.Proofs.YtmjgiaomijghoaaDoor
