import Derived.Test.YtcocjcjjlgcbcaaGreatDoorQAll
namespace Go.Proofs.YtcocjcjjlgcbcaaGreatDoor
open Go.RowKit

end Go.Proofs.YtcocjcjjlgcbcaaGreatDoor
