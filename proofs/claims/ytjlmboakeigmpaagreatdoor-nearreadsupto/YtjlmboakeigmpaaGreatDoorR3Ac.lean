import Derived.Test.YtjlmboakeigmpaaGreatDoorRatAll
namespace Go.Proofs.YtjlmboakeigmpaaGreatDoor
def absR (r : Rat) : Rat := if r.num < 0 then -r else r
end Go.Proofs.YtjlmboakeigmpaaGreatDoor
