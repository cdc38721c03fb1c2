import Derived.Test.YtkgnbcbcgnlodaaGreatDoorPqF
import Derived.Test.YtkgnbcbcgnlodaaGreatDoorWdAll
namespace Go.Proofs.YtkgnbcbcgnlodaaGreatDoor
open Go.RowKit

end Go.Proofs.YtkgnbcbcgnlodaaGreatDoor

namespace Go.Proofs.YtkgnbcbcgnlodaaGreatDoor
open Go.RowKit

end Go.Proofs.YtkgnbcbcgnlodaaGreatDoor

namespace Go.Proofs.YtkgnbcbcgnlodaaGreatDoor
open Go.RowKit

end Go.Proofs.YtkgnbcbcgnlodaaGreatDoor
