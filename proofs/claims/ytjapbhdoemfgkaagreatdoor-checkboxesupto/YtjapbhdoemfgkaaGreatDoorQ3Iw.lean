import Derived.Test.YtjapbhdoemfgkaaGreatDoorQAll
namespace Go.Proofs.YtjapbhdoemfgkaaGreatDoor
open Go.RowKit

end Go.Proofs.YtjapbhdoemfgkaaGreatDoor
