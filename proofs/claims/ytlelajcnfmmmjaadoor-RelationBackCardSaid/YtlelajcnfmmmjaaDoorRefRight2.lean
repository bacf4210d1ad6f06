/- Right behind its refusals: the two loops and the text's length. -/
import Derived.Test.YtlelajcnfmmmjaaDoorRefRight
set_option maxRecDepth 100000
namespace Go.Proofs.YtlelajcnfmmmjaaDoor
open Go.RowKit
end Go.Proofs.YtlelajcnfmmmjaaDoor
