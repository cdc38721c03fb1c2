import Derived.Test.YtjlmboakeigmpaaDoorChAll
import Derived.Test.YtjlmboakeigmpaaDoorNumAll
import Derived.Test.YtjlmboakeigmpaaDoorTwoAll
namespace Go.Proofs.YtjlmboakeigmpaaDoor
open Go.RowKit

end Go.Proofs.YtjlmboakeigmpaaDoor
