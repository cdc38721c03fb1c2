import Derived.Test.YtmpkgpilfcbdnaaGreatDoorPqCAll
import Derived.Test.YtmpkgpilfcbdnaaGreatDoorBoSAll
namespace Go.Proofs.YtmpkgpilfcbdnaaGreatDoor
open Go.RowKit
theorem cs_lt_iff {r s:Rat}:cs r s < 0↔r < s:=by
 unfold cs
 rw [Int.sign_neg_iff,Rat.lt_iff]
 omega
theorem cs_gt_iff {r s:Rat}:0 < cs r s↔s < r:=by
 unfold cs
 rw [Int.sign_pos_iff,Rat.lt_iff]
 omega
end Go.Proofs.YtmpkgpilfcbdnaaGreatDoor
