/- The law package's awake: true. No law is claimed here. -/
import Derived.Test.YtkgccoghdalniaaSealW2
import Derived.Lib.SlBytesConst
import Derived.Lib.SmallJoins
namespace Go.Proofs.Ytkgccoghdalniaa
open Go.RowKit

end Go.Proofs.Ytkgccoghdalniaa
