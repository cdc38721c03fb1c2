import Derived.Test.YtpkfiomabiacaaaGreatDoorPqGAll
import Derived.Test.YtpkfiomabiacaaaGreatDoorGuardS
import Derived.Deep.RegionWith
namespace Go.Proofs.YtpkfiomabiacaaaGreatDoor
open Go.RowKit

end Go.Proofs.YtpkfiomabiacaaaGreatDoor
