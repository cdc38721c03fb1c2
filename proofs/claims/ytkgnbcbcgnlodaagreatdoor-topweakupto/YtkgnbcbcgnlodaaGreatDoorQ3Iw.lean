import Derived.Test.YtkgnbcbcgnlodaaGreatDoorQAll
namespace Go.Proofs.YtkgnbcbcgnlodaaGreatDoor
open Go.RowKit

end Go.Proofs.YtkgnbcbcgnlodaaGreatDoor
