/- The law package's awake: true. No law is claimed here. -/
import Derived.Test.YtghbgehmaejggaaDoorSealW2
import Derived.Lib.SlBytesConst
import Derived.Lib.SmallJoins
namespace Go.Proofs.YtghbgehmaejggaaDoor
open Go.RowKit

end Go.Proofs.YtghbgehmaejggaaDoor
