/- The fixed-point machine: what is wrong with an instruction, by the reference. -/
import Derived.Test.YtkocmdpfknoiaaaGreatDoorKdd
namespace Go.Proofs.YtkocmdpfknoiaaaGreatDoor
open Go Go.RowKit

end Go.Proofs.YtkocmdpfknoiaaaGreatDoor
