/- careenlaw04: what the document fixes comes out. -/
import Derived.Test.YtpiaknmjepjglaaGreatRecL
import Derived.Test.YtpiaknmjepjglaaGreatFew
namespace Go.Proofs.YtpiaknmjepjglaaGreat
open Go.RowKit

end Go.Proofs.YtpiaknmjepjglaaGreat
