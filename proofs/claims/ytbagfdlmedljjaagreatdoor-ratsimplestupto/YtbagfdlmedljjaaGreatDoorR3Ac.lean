import Derived.Test.YtbagfdlmedljjaaGreatDoorRatAll
namespace Go.Proofs.YtbagfdlmedljjaaGreatDoor
def absR (r : Rat) : Rat := if r.num < 0 then -r else r
end Go.Proofs.YtbagfdlmedljjaaGreatDoor
