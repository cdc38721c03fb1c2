import Derived.Test.YtdcocflnafcikaaGreatDoorPqGAll
import Derived.Deep.RegionWith
namespace Go.Proofs.YtdcocflnafcikaaGreatDoor
open Go.RowKit
end Go.Proofs.YtdcocflnafcikaaGreatDoor
