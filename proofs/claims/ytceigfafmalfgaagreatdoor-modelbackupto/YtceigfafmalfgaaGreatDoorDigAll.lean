import Derived.Test.YtceigfafmalfgaaGreatDoorNumAll
import Derived.Test.YtceigfafmalfgaaGreatDoorSumAll
import Derived.RangeFuncNested
import Derived.RangeFuncBound
import Derived.RangeFuncCalls
import Derived.RangeFuncLeaves
import Derived.Shelf.Abstract
import Derived.Shelf.RegionOpen
import Derived.WalkKit
import Derived.OwnWalkIn
import Derived.TacticsInMore
import Derived.LoopNIn
import Derived.LoopIn
import Derived.Maps.AppendAt
import Derived.Shelf.RegionOpenPlain
import Derived.Laws.BytesArg
namespace Go.Proofs.YtceigfafmalfgaaGreatDoor
open Go.RowKit
end Go.Proofs.YtceigfafmalfgaaGreatDoor
namespace Go.Proofs.YtceigfafmalfgaaGreatDoor
open Go.RowKit Go.Shelf
variable {F:Fence} {n:Nat} {P:Program}
section loop
variable {g:Operand} {ps:Array Tmp} {assign body:Code} {a:Act} {gf:Nat} {lb:Array Value} {S Sp:List Int→Prop} {N B l dl:Nat} {w0 W1:World} {fn:FuncId}
 {I:List Int→World→Prop} {Ix:Code→List Int→World→Prop} {a₁:Int→Act}
end loop
end Go.Proofs.YtceigfafmalfgaaGreatDoor
namespace Go.Proofs.YtceigfafmalfgaaGreatDoor
open Go.RowKit Go.Shelf
attribute [local go_sem] Oper.semAt_some
end Go.Proofs.YtceigfafmalfgaaGreatDoor
namespace Go.Proofs.YtceigfafmalfgaaGreatDoor
open Go.RowKit
theorem cutR_low (us:List Int) (n:Nat) (d:Int) (j i:Nat) (h:i+j<n):lm (cutR us n d j).1 i=lm us i:=by
 induction j with
 | zero=>rfl
 | succ j ih=>simp only [cutR];rw [lm_set,if_neg (by omega),ih (by omega)]
theorem div_mul (t d P:Int):t/d*P*d+t%d*P=t*P:=by
 have h:t=t/d*d+t%d:=by rw [Int.mul_comm];exact (Int.mul_ediv_add_emod t d).symm
 have e:t/d*P*d=t/d*d*P:=Int.mul_right_comm _ _ _
 rw [e,← Int.add_mul,← h]
theorem cutR_val {us:List Int} {d:Int} (n:Nat) (hu:AllW us) (hd:0<d) (hn:n≤us.length) (j:Nat) (hj:j≤n) :
  (vS (cutR us n d j).1 n-vS us (n-j))*d+(cutR us n d j).2*pw (n-j)=vS us n-vS us (n-j):=by
 induction j with
 | zero=>simp [cutR]
 | succ j ih =>
  have ih:=ih (by omega)
  obtain ⟨h1,h2,h3,h4⟩:=cutR_ok (us:=us) n hu hd j
  have hl:=cutR_low us n d j (n-1-j) (by omega)
  simp only [cutR]
  generalize (cutR us n d j).1=U at *
  generalize (cutR us n d j).2=C at *
  rw [vS_set _ (by omega) (by omega),hl]
  obtain ⟨m,hm⟩:∃ m,n-j=m+1:=⟨n-j-1,by omega⟩
  have em:n-(j+1)=m:=by omega
  have em2:n-1-j=m:=by omega
  rw [hm] at ih
  rw [em,em2]
  simp only [vS] at ih
  rw [pw_succ] at ih
  have e1:=div_mul (C*18446744073709551616+lm us m) d (pw m)
  rw [Int.add_mul (C*18446744073709551616)] at e1
  have e2:C*(pw m*18446744073709551616)=C*18446744073709551616*pw m:=by rw [Int.mul_comm (pw m),Int.mul_assoc]
  rw [e2] at ih
  have e3:(vS U n+((C*18446744073709551616+lm us m)/d-lm us m)*pw m-vS us m)*d=(vS U n-(vS us m+lm us m*pw m))*d+(C*18446744073709551616+lm us m)/d*pw m*d:=by
   rw [← Int.add_mul]
   congr 1
   rw [Int.sub_mul]
   omega
  rw [e3]
  generalize (vS U n-(vS us m+lm us m*pw m))*d=A at *
  omega
theorem cutR_end {us:List Int} {d:Int} (hu:AllW us) (hd:0<d):AllW (cutR us us.length d us.length).1∧(cutR us us.length d us.length).1.length=us.length∧val (cutR us us.length d us.length).1=val us/d∧(cutR us us.length d us.length).2=val us%d:=by
 obtain ⟨h1,h2,h3,h4⟩:=cutR_ok (us:=us) us.length hu hd us.length
 have hv:=cutR_val us.length hu hd (Nat.le_refl _) us.length (Nat.le_refl _)
 rw [Nat.sub_self,pw_zero] at hv
 simp only [vS] at hv
 have e1:vS (cutR us us.length d us.length).1 us.length=val (cutR us us.length d us.length).1:=vS_long (by omega)
 have e2:vS us us.length=val us:=rfl
 rw [e1,e2] at hv
 obtain ⟨u1,u2⟩:=div_unique (x:=val us) (y:=d) (q:=val (cutR us us.length d us.length).1) (r:=(cutR us us.length d us.length).2) (by simp at hv;omega) h3 h4
 exact ⟨h1,h2,u1.symm,u2.symm⟩
end Go.Proofs.YtceigfafmalfgaaGreatDoor
namespace Go.Proofs.YtceigfafmalfgaaGreatDoor
open Go.RowKit Go.Shelf
attribute [local go_sem] Oper.semAt_some
end Go.Proofs.YtceigfafmalfgaaGreatDoor
namespace Go.Proofs.YtceigfafmalfgaaGreatDoor
open Go.RowKit Go.Shelf
end Go.Proofs.YtceigfafmalfgaaGreatDoor
namespace Go.Proofs.YtceigfafmalfgaaGreatDoor
open Go.RowKit Go.Shelf
attribute [local go_sem] Oper.semAt_some
end Go.Proofs.YtceigfafmalfgaaGreatDoor
