/- The law package's awake: true. No law is claimed here. -/
import Derived.Test.YtnkagonbkaecfaaSealW2
import Derived.Lib.SlBytesConst
import Derived.Lib.SmallJoins
namespace Go.Proofs.Ytnkagonbkaecfaa
open Go.RowKit

end Go.Proofs.Ytnkagonbkaecfaa
