import Derived.Test.YtnkpbjmfdfjeiaaGreatDoorOpRAll
import Derived.Test.YtnkpbjmfdfjeiaaGreatDoorRatAll
import Derived.Deep.AppendLies
namespace Go.Proofs.YtnkpbjmfdfjeiaaGreatDoor
open Go.RowKit
theorem bel_a {w w1:World} {o:Obj} (h:Below w.heap.size w w1):Below w.heap.size w (w1.alloc o):=bel_tr h (bel_d0 _ _)
theorem row_cell {w:World} {g:Nat} {cur:Array Value} {e:TypeId} {vs:List Value} {q j:Nat} {u:Value} (hg:w.heap[g]? = some (.cells cur e (0,0))) (ht:cur.toList.take q = vs) (hj:vs[j]? = some u):w.cell? ⟨g,j,none⟩ = some u:=by
 have hlt:j < q:=by
  have h:=(List.getElem?_eq_some_iff.1 hj).1
  rw [← ht,List.length_take] at h
  omega
 have e1:cur[j]? = some u:=by
  rw [← ht,List.getElem?_take_of_lt hlt] at hj
  rw [← Array.getElem?_toList];exact hj
 simp [World.cell?,hg,e1]
theorem Tryz.infoRat:(Tryz.prog.info? 27).map (fun i=>(i.zero.map (fun z=>z.cells.size),i.size,i.bytes)) = some (some 3,3,56):=by kernel_rfl
theorem info3:∃ i z,Tryz.prog.info? 27 = some i∧i.zero = some z∧i.size = 3∧i.bytes = 56∧z.cells.size = 3:=by
 obtain ⟨i,hi,h⟩:=Option.map_eq_some_iff.1 Tryz.infoRat
 simp only [Prod.mk.injEq] at h
 obtain ⟨h1,h2,h3⟩:=h
 obtain ⟨z,hz,h4⟩:=Option.map_eq_some_iff.1 h1
 exact ⟨i,z,hi,hz,h2,h3,h4⟩
end Go.Proofs.YtnkpbjmfdfjeiaaGreatDoor
namespace Go.Proofs.YtnkpbjmfdfjeiaaGreatDoor
end Go.Proofs.YtnkpbjmfdfjeiaaGreatDoor
namespace Go.Proofs.YtnkpbjmfdfjeiaaGreatDoor
open Go.RowKit
end Go.Proofs.YtnkpbjmfdfjeiaaGreatDoor
