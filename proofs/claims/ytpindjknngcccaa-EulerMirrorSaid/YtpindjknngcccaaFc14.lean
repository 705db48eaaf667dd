/- The document's Same and Faces. -/
import Derived.Test.YtpindjknngcccaaFc12
import Derived.Test.YtpindjknngcccaaFc13
import Derived.Test.YtpindjknngcccaaFc8
namespace Go.Proofs.Ytpindjknngcccaa
open Go.RowKit
set_option linter.unusedSimpArgs false
set_option linter.unusedVariables false

end Go.Proofs.Ytpindjknngcccaa
