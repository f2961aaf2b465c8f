/-
  What stands between slashes: the document's answer ('Split') and the program's ('cut').
-/
import Derived.Test.YtcjkficpiedpfabDoorRtList
namespace Go.Proofs.YtcjkficpiedpfabDoor.Route
open Go.RowKit

end Go.Proofs.YtcjkficpiedpfabDoor.Route
