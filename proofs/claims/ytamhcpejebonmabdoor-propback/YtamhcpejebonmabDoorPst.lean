/-
  All ten calls of package prop answer their plain functions.
-/
import Derived.Test.YtamhcpejebonmabDoorPs2
import Derived.Test.YtamhcpejebonmabDoorPs3
namespace Go.Proofs.YtamhcpejebonmabDoor
end Go.Proofs.YtamhcpejebonmabDoor
