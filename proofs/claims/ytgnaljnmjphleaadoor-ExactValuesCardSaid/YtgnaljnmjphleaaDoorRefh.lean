/- The reference's signs. -/
import Derived.Test.YtgnaljnmjphleaaDoorMreff
import Derived.Test.YtgnaljnmjphleaaDoorMdyf
namespace Go.Proofs.YtgnaljnmjphleaaDoor
open Go.RowKit

end Go.Proofs.YtgnaljnmjphleaaDoor
