/- The reference's signs. -/
import Derived.Test.YtimpgdkeiopboaaDoorMreff
import Derived.Test.YtimpgdkeiopboaaDoorMdyf
namespace Go.Proofs.YtimpgdkeiopboaaDoor
open Go.RowKit

end Go.Proofs.YtimpgdkeiopboaaDoor
