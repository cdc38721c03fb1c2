import Derived.Test.YtbkkfpfddebakaaDoorChoose
import Derived.Test.YtbkkfpfddebakaaDoorNumAll
import Derived.Test.YtbkkfpfddebakaaDoorIsRef
namespace Go.Proofs.YtbkkfpfddebakaaDoor
open Go.RowKit

end Go.Proofs.YtbkkfpfddebakaaDoor
