/- Contracts of wire.Writer: Num, Bytes. -/
import Derived.Test.YtchdolcnhopmjaaWrA
import Derived.Test.YtchdolcnhopmjaaNumP
namespace Go.Proofs.Ytchdolcnhopmjaa
open Go.RowKit

end Go.Proofs.Ytchdolcnhopmjaa
