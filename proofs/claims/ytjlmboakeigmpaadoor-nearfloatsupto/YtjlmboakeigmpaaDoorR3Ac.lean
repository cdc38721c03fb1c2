import Derived.Test.YtjlmboakeigmpaaDoorRatAll
namespace Go.Proofs.YtjlmboakeigmpaaDoor
def absR (r : Rat) : Rat := if r.num < 0 then -r else r
end Go.Proofs.YtjlmboakeigmpaaDoor
