/-
  All ten calls of package prop answer their plain functions.
-/
import Derived.Test.YtamhcpejebonmaaDoorPs2
import Derived.Test.YtamhcpejebonmaaDoorPs3
namespace Go.Proofs.YtamhcpejebonmaaDoor
end Go.Proofs.YtamhcpejebonmaaDoor
