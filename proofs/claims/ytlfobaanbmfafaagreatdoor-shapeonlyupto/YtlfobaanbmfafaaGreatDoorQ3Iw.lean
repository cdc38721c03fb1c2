import Derived.Test.YtlfobaanbmfafaaGreatDoorQAll
namespace Go.Proofs.YtlfobaanbmfafaaGreatDoor
open Go.RowKit

end Go.Proofs.YtlfobaanbmfafaaGreatDoor
