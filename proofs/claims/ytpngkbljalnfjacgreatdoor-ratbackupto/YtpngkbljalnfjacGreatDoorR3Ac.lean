import Derived.Test.YtpngkbljalnfjacGreatDoorRatAll
namespace Go.Proofs.YtpngkbljalnfjacGreatDoor
def absR (r : Rat) : Rat := if r.num < 0 then -r else r
end Go.Proofs.YtpngkbljalnfjacGreatDoor
