import Derived.Test.YtcpglhcdllegnaaGreatDoorR3M
namespace Go.Proofs.YtcpglhcdllegnaaGreatDoor
open Go.RowKit

end Go.Proofs.YtcpglhcdllegnaaGreatDoor
