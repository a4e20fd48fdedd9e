/- careenlaw04: what the document fixes comes out. -/
import Derived.Test.YtpcfhpffbogjmaaRecL
import Derived.Test.YtpcfhpffbogjmaaFew
namespace Go.Proofs.Ytpcfhpffbogjmaa
open Go.RowKit

end Go.Proofs.Ytpcfhpffbogjmaa
