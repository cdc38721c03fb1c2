import Derived.Test.YtjlmboakeigmpaaDoorChoose
import Derived.Test.YtjlmboakeigmpaaDoorNumAll
import Derived.Test.YtjlmboakeigmpaaDoorIsRef
namespace Go.Proofs.YtjlmboakeigmpaaDoor
open Go.RowKit

end Go.Proofs.YtjlmboakeigmpaaDoor
