/- The reference's signs. -/
import Derived.Test.YtimpgdkeiopboaaGreatDoorMreff
import Derived.Test.YtimpgdkeiopboaaGreatDoorMdyf
namespace Go.Proofs.YtimpgdkeiopboaaGreatDoor
open Go.RowKit

end Go.Proofs.YtimpgdkeiopboaaGreatDoor
