import Derived.Test.YtdfoiklcekhmpaaGreatDoorRatAll
namespace Go.Proofs.YtdfoiklcekhmpaaGreatDoor
def absR (r : Rat) : Rat := if r.num < 0 then -r else r
end Go.Proofs.YtdfoiklcekhmpaaGreatDoor
