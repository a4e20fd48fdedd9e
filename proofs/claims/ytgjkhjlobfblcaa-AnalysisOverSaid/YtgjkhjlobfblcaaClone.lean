/- strings.Clone: the same text, in memory of its own. -/
import Derived.Test.YtgjkhjlobfblcaaBytes
namespace Go.Proofs.Ytgjkhjlobfblcaa
open Go.RowKit

end Go.Proofs.Ytgjkhjlobfblcaa
