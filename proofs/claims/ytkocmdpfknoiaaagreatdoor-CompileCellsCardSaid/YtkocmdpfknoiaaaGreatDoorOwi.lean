/- Lists of ints that are appended to. -/
import Derived.Test.YtkocmdpfknoiaaaGreatDoorRib
import Derived.Deep.AppendLies
namespace Go.Proofs.YtkocmdpfknoiaaaGreatDoor
open Go Go.RowKit

end Go.Proofs.YtkocmdpfknoiaaaGreatDoor
