import Derived.Test.YtbkkfpfddebakaaDoorRatAll
namespace Go.Proofs.YtbkkfpfddebakaaDoor
def absR (r : Rat) : Rat := if r.num < 0 then -r else r
end Go.Proofs.YtbkkfpfddebakaaDoor
