import Derived.Test.YtnkpbjmfdfjeiaaGreatDoorQ3CAll
import Derived.Test.YtnkpbjmfdfjeiaaGreatDoorRatAll
import Derived.Test.YtnkpbjmfdfjeiaaGreatDoorLentAll
import Derived.Test.YtnkpbjmfdfjeiaaGreatDoorLawAll
import Derived.Test.YtnkpbjmfdfjeiaaGreatDoorQ3AAll
namespace Go.Proofs.YtnkpbjmfdfjeiaaGreatDoor
open Go.RowKit
theorem Tryz.errCompR:(Tryz.prog.info? 218).map (·.comparable) = some true:=by kernel_rfl
theorem Tryz.errSizeR:(Tryz.prog.info? 232).map (·.size) = some 1:=by kernel_rfl
theorem Num.le1 {w:World} (h:Num w none 0 0 0 0):Num w none 0 0 0 1:=by
 obtain ⟨xs,h1,h2,h3,h4,h5,h6⟩:=h
 exact ⟨xs,h1,h2,h3,h4,h5,by omega⟩
end Go.Proofs.YtnkpbjmfdfjeiaaGreatDoor
