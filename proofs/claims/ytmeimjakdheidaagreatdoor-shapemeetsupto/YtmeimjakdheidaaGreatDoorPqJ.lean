import Derived.Test.YtmeimjakdheidaaGreatDoorPqHAll
import Derived.Deep.RegionWith
namespace Go.Proofs.YtmeimjakdheidaaGreatDoor
open Go.RowKit
end Go.Proofs.YtmeimjakdheidaaGreatDoor
