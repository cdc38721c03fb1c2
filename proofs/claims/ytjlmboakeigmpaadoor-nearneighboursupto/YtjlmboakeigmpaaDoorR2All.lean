import Derived.Test.YtjlmboakeigmpaaDoorLentAll
import Derived.Test.YtjlmboakeigmpaaDoorRefAll
namespace Go.Proofs.YtjlmboakeigmpaaDoor
open Go.RowKit

end Go.Proofs.YtjlmboakeigmpaaDoor

namespace Go.Proofs.YtjlmboakeigmpaaDoor
open Go.RowKit

end Go.Proofs.YtjlmboakeigmpaaDoor

namespace Go.Proofs.YtjlmboakeigmpaaDoor
open Go.RowKit

end Go.Proofs.YtjlmboakeigmpaaDoor

namespace Go.Proofs.YtjlmboakeigmpaaDoor
open Go.RowKit

end Go.Proofs.YtjlmboakeigmpaaDoor

namespace Go.Proofs.YtjlmboakeigmpaaDoor
open Go.RowKit

end Go.Proofs.YtjlmboakeigmpaaDoor
