import Derived.Test.YtklhilnobgieaaaGreatDoorPqDAll
import Derived.Test.YtklhilnobgieaaaGreatDoorWhEAll
import Derived.Test.YtklhilnobgieaaaGreatDoorCsAll
import Derived.Deep.RegionHeld3
import Derived.Deep.RegionWith
namespace Go.Proofs.YtklhilnobgieaaaGreatDoor
open Go.RowKit
theorem cs_same {r s:Rat} (h:r = s):0 = cs r s:=by
 subst h
 unfold cs
 rw [Int.sub_self]
 rfl
def Fv (d a:Nat) (D:Int) (r:Rat):Prop:=0 < D∧D < pw d∧∃ A,0≤A∧A < pw a∧Ov D A r
theorem pw_lt1 (K:Nat):pw K < pw (K + 1):=by have:=pw_succ K;have:=pw_pos K;omega
theorem Fv.list {X:Nat→Rat} {Z:Nat→Nat} {n K:Nat} (h:∀ i,i < n→SzR (X i) (Z i)) (hK:tot Z n≤K):∃ D,0 < D∧D < pw K∧∀ i,i < n→Fv K (K + 1) D (X i):=by
 have p1:=dprod_pos X n
 have p2:dprod X n < pw K:=Int.lt_of_lt_of_le (dprod_lt (Z:=Z) n h) (pw_mono hK)
 refine ⟨dprod X n,p1,p2,fun i hi=>⟨p1,p2,pw K,Int.le_of_lt (pw_pos K),pw_lt1 K,dprod_ov (Z:=Z) n (fun j hj=>⟨h j hj,by have:=tot_le (Z:=Z) hj;omega⟩) i hi⟩⟩
theorem Fv.ov {d a:Nat} {D:Int} {r:Rat} (h:Fv d a D r):Ov D (pw a) r:=by
 obtain ⟨h1,_,A,_,h4,h5⟩:=h
 exact h5.le (Int.le_of_lt h1) (Int.le_of_lt h4)
end Go.Proofs.YtklhilnobgieaaaGreatDoor
