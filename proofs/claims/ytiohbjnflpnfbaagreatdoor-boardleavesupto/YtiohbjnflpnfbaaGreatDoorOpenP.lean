import Derived.Test.YtiohbjnflpnfbaaGreatDoorR3LiAll
namespace Go.Proofs.YtiohbjnflpnfbaaGreatDoor
open Go.ChangeShapes Go.WideShapes Go.ChangeAt Go.RowKit
section
variable {H:Type} {enc:TypeId × Value→H} {W:World}
end
end Go.Proofs.YtiohbjnflpnfbaaGreatDoor
