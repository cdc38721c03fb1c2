import Derived.Test.YtjiodidemimgmaaGreatDoorR3LiAll
namespace Go.Proofs.YtjiodidemimgmaaGreatDoor
open Go.ChangeShapes Go.WideShapes Go.ChangeAt Go.RowKit
section
variable {H:Type} {enc:TypeId × Value→H} {W:World}
end
end Go.Proofs.YtjiodidemimgmaaGreatDoor
