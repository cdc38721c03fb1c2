import Derived.Test.YtjlmboakeigmpaaDoorRatAll
import Derived.Test.YtjlmboakeigmpaaDoorLentAll
namespace Go.Proofs.YtjlmboakeigmpaaDoor
open Go.RowKit

end Go.Proofs.YtjlmboakeigmpaaDoor
