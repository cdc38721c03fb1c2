import Derived.Test.YtmpkgpilfcbdnaaGreatDoorR3LiAll
namespace Go.Proofs.YtmpkgpilfcbdnaaGreatDoor
open Go.ChangeShapes Go.WideShapes Go.ChangeAt Go.RowKit
section
variable {H:Type} {enc:TypeId × Value→H} {W:World}
end
end Go.Proofs.YtmpkgpilfcbdnaaGreatDoor
