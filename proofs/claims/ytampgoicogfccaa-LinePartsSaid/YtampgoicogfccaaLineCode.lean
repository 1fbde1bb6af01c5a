/- The contracts of package line: Feed, Same, Print. -/
import Derived.Test.YtampgoicogfccaaLineOwn
import Derived.Test.YtampgoicogfccaaLineSameOwn
import Derived.Test.YtampgoicogfccaaLinePrintOwn
namespace Go.Proofs.Ytampgoicogfccaa.Ln
#print axioms feed_any
#print axioms same_any
#print axioms print_any
end Go.Proofs.Ytampgoicogfccaa.Ln
