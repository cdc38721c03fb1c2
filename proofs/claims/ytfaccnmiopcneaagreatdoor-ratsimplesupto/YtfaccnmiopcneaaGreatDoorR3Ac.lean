import Derived.Test.YtfaccnmiopcneaaGreatDoorRatAll
namespace Go.Proofs.YtfaccnmiopcneaaGreatDoor
def absR (r : Rat) : Rat := if r.num < 0 then -r else r
end Go.Proofs.YtfaccnmiopcneaaGreatDoor
