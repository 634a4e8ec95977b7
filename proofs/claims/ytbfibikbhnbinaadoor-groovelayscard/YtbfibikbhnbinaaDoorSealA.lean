/- The law package's awake: true. No law is claimed here. -/
import Derived.Test.YtbfibikbhnbinaaDoorSealW2
import Derived.Lib.SlBytesConst
import Derived.Lib.SmallJoins
namespace Go.Proofs.YtbfibikbhnbinaaDoor
open Go.RowKit

end Go.Proofs.YtbfibikbhnbinaaDoor
