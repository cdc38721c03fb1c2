import Derived.Test.YtgdilnljjgdinaaGreatDoorSumAll
import Derived.RangeFuncNested
import Derived.RangeFuncBound
import Derived.RangeFuncCalls
import Derived.RangeFuncLeaves
import Derived.Shelf.Abstract
import Derived.Shelf.RegionOpen
import Derived.WalkKit
import Derived.OwnWalkIn
import Derived.TacticsInMore
import Derived.LoopNIn
import Derived.LoopIn
import Derived.Maps.AppendAt
import Derived.Test.YtgdilnljjgdinaaGreatDoorNumAll
import Derived.Shelf.RegionOpenPlain
import Derived.Laws.BytesArg
namespace Go.Proofs.YtgdilnljjgdinaaGreatDoor
open Go.RowKit Go.Shelf
structure Turns (p:Obj→Bool) (B:Nat) (W W':World):Prop where
 os:W'.os=W.os
 tape:W'.tape=W.tape
 output:W'.output=W.output
 size:W.heap.size≤W'.heap.size
 block:∀ (k:Nat) (o:Obj),W.heap[k]? = some o→(k<B∨p o=false)→W'.heap[k]? = some o
theorem Turns.below {p:Obj→Bool} {B:Nat} {W W':World} (h:Turns p B W W') {B':Nat} (hB:B'≤B) (hs:B'≤W.heap.size):Below B' W W' :=
 ⟨h.os,h.tape,h.output,h.size,fun k hk=>by
  have:k<W.heap.size:=by omega
  rw [h.block k _ (Array.getElem?_eq_getElem this) (.inl (by omega)),Array.getElem?_eq_getElem this]⟩
theorem Turns.of_below {p:Obj→Bool} {B:Nat} {W W':World} (h:Below W.heap.size W W'):Turns p B W W' :=
 ⟨h.os,h.tape,h.output,h.size,fun k _ hk _=>(h.block k (Array.getElem?_eq_some_iff.1 hk).1).trans hk⟩
theorem Turns.of_off {p:Obj→Bool} {B g:Nat} {W W':World} (h:Off g W W') (hg:B≤g) (hp:∀ o,W.heap[g]? = some o→p o=true):Turns p B W W' :=
 ⟨h.os,h.tape,h.output,by have:=h.size;omega,fun k o hk hc=>by
  by_cases e:k=g
  ·subst e
   rcases hc with hc|hc
   ·omega
   ·rw [hp o hk] at hc;cases hc
  ·exact (h.block k e).trans hk⟩
theorem Turns.imp {p q:Obj→Bool} {B B':Nat} {W W':World} (h:Turns p B W W') (hpq:∀ o,p o=true→q o=true) (hB:B'≤B):Turns q B' W W' :=
 ⟨h.os,h.tape,h.output,h.size,fun k o hk hc=>h.block k o hk (by
  rcases hc with hc|hc
  ·exact .inl (by omega)
  ·right
   cases e:p o with
   | false=>rfl
   | true=>rw [hpq o e] at hc;cases hc)⟩
theorem Turns.putObj {p:Obj→Bool} {B l:Nat} {W:World} {o:Obj} (o':Obj) (hl:W.heap[l]? = some o) (hp:p o=true) (hB:B≤l):Turns p B W (W.putObj l o') :=
 ⟨rfl,rfl,rfl,by simp,fun k o2 hk hc=>by
  by_cases e:k=l
  ·subst e
   rw [hl] at hk;cases hk
   rcases hc with hc|hc
   ·omega
   ·rw [hp] at hc;cases hc
  ·exact (World.putObj_heap_other e).trans hk⟩
theorem Turns.alloc (p:Obj→Bool) (B:Nat) (W:World) (o:Obj):Turns p B W (W.alloc o) :=
 ⟨rfl,rfl,rfl,by simp,fun k o' hk _=>(Below.heap_alloc W o k (Array.getElem?_eq_some_iff.1 hk).1).trans hk⟩
variable {F:Fence} {n:Nat} {P:Program}
section loop
variable {g:Operand} {ps:Array Tmp} {assign body:Code} {a:Act} {gf:Nat} {lb:Array Value} {S Sp:List Int→Prop} {N B l dl:Nat} {w0 W1:World} {fn:FuncId}
 {I:List Int→World→Prop} {Ix:Code→List Int→World→Prop} {a₁:Int→Act}
end loop
end Go.Proofs.YtgdilnljjgdinaaGreatDoor
namespace Go.Proofs.YtgdilnljjgdinaaGreatDoor
open Go.RowKit
end Go.Proofs.YtgdilnljjgdinaaGreatDoor
namespace Go.Proofs.YtgdilnljjgdinaaGreatDoor
open Go.RowKit Go.Shelf
attribute [local go_sem] Oper.semAt_some
end Go.Proofs.YtgdilnljjgdinaaGreatDoor
namespace Go.Proofs.YtgdilnljjgdinaaGreatDoor
open Go.RowKit
theorem cutR_low (us:List Int) (n:Nat) (d:Int) (j i:Nat) (h:i+j<n):lm (cutR us n d j).1 i=lm us i:=by
 induction j with
 | zero=>rfl
 | succ j ih=>simp only [cutR];rw [lm_set,if_neg (by omega),ih (by omega)]
theorem div_mul (t d P:Int):t/d*P*d+t%d*P=t*P:=by
 have h:t=t/d*d+t%d:=by rw [Int.mul_comm];exact (Int.mul_ediv_add_emod t d).symm
 have e:t/d*P*d=t/d*d*P:=Int.mul_right_comm _ _ _
 rw [e,← Int.add_mul,← h]
theorem cutR_val {us:List Int} {d:Int} (n:Nat) (hu:AllW us) (hd:0<d) (hn:n≤us.length) (j:Nat) (hj:j≤n) :
  (vS (cutR us n d j).1 n-vS us (n-j))*d+(cutR us n d j).2*pw (n-j)=vS us n-vS us (n-j):=by
 induction j with
 | zero=>simp [cutR]
 | succ j ih =>
  have ih:=ih (by omega)
  obtain ⟨h1,h2,h3,h4⟩:=cutR_ok (us:=us) n hu hd j
  have hl:=cutR_low us n d j (n-1-j) (by omega)
  simp only [cutR]
  generalize (cutR us n d j).1=U at *
  generalize (cutR us n d j).2=C at *
  rw [vS_set _ (by omega) (by omega),hl]
  obtain ⟨m,hm⟩:∃ m,n-j=m+1:=⟨n-j-1,by omega⟩
  have em:n-(j+1)=m:=by omega
  have em2:n-1-j=m:=by omega
  rw [hm] at ih
  rw [em,em2]
  simp only [vS] at ih
  rw [pw_succ] at ih
  have e1:=div_mul (C*18446744073709551616+lm us m) d (pw m)
  rw [Int.add_mul (C*18446744073709551616)] at e1
  have e2:C*(pw m*18446744073709551616)=C*18446744073709551616*pw m:=by rw [Int.mul_comm (pw m),Int.mul_assoc]
  rw [e2] at ih
  have e3:(vS U n+((C*18446744073709551616+lm us m)/d-lm us m)*pw m-vS us m)*d=(vS U n-(vS us m+lm us m*pw m))*d+(C*18446744073709551616+lm us m)/d*pw m*d:=by
   rw [← Int.add_mul]
   congr 1
   rw [Int.sub_mul]
   omega
  rw [e3]
  generalize (vS U n-(vS us m+lm us m*pw m))*d=A at *
  omega
theorem cutR_end {us:List Int} {d:Int} (hu:AllW us) (hd:0<d):AllW (cutR us us.length d us.length).1∧(cutR us us.length d us.length).1.length=us.length∧val (cutR us us.length d us.length).1=val us/d∧(cutR us us.length d us.length).2=val us%d:=by
 obtain ⟨h1,h2,h3,h4⟩:=cutR_ok (us:=us) us.length hu hd us.length
 have hv:=cutR_val us.length hu hd (Nat.le_refl _) us.length (Nat.le_refl _)
 rw [Nat.sub_self,pw_zero] at hv
 simp only [vS] at hv
 have e1:vS (cutR us us.length d us.length).1 us.length=val (cutR us us.length d us.length).1:=vS_long (by omega)
 have e2:vS us us.length=val us:=rfl
 rw [e1,e2] at hv
 obtain ⟨u1,u2⟩:=div_unique (x:=val us) (y:=d) (q:=val (cutR us us.length d us.length).1) (r:=(cutR us us.length d us.length).2) (by simp at hv;omega) h3 h4
 exact ⟨h1,h2,u1.symm,u2.symm⟩
end Go.Proofs.YtgdilnljjgdinaaGreatDoor
namespace Go.Proofs.YtgdilnljjgdinaaGreatDoor
open Go.RowKit Go.Shelf
attribute [local go_sem] Oper.semAt_some
end Go.Proofs.YtgdilnljjgdinaaGreatDoor
namespace Go.Proofs.YtgdilnljjgdinaaGreatDoor
open Go.RowKit Go.Shelf
end Go.Proofs.YtgdilnljjgdinaaGreatDoor
namespace Go.Proofs.YtgdilnljjgdinaaGreatDoor
open Go.RowKit Go.Shelf
attribute [local go_sem] Oper.semAt_some
theorem Tryz.infoU8:(Tryz.prog.info? 5).map (fun i=>(i.zero,i.size,i.bytes))=some (some (.int .u8 0),1,1):=by kernel_rfl
end Go.Proofs.YtgdilnljjgdinaaGreatDoor
