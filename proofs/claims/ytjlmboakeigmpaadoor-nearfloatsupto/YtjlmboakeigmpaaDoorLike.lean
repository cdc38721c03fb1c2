import Derived.Test.YtjlmboakeigmpaaDoorNumAll
namespace Go.Proofs.YtjlmboakeigmpaaDoor
open Go.RowKit
end Go.Proofs.YtjlmboakeigmpaaDoor
