/- Contract of block.Same, where both are equal. No law is claimed here. -/
import Derived.Test.YtghbgehmaejggaaDoorBlk5
namespace Go.Proofs.YtghbgehmaejggaaDoor
open Go.RowKit

end Go.Proofs.YtghbgehmaejggaaDoor
