/- The law package's awake: true. No law is claimed here. -/
import Derived.Test.YtkmjndmanpanbaaSealW2
import Derived.Lib.SlBytesConst
import Derived.Lib.SmallJoins
namespace Go.Proofs.Ytkmjndmanpanbaa
open Go.RowKit

end Go.Proofs.Ytkmjndmanpanbaa
