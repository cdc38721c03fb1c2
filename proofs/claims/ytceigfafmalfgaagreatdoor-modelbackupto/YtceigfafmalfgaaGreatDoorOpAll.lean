import Derived.Test.YtceigfafmalfgaaGreatDoorNumAll
import Derived.Test.YtceigfafmalfgaaGreatDoorCards
import Derived.Test.YtceigfafmalfgaaGreatDoorTie
import Derived.ProofKit
import Derived.OpenShut
import Derived.LaidMore
import Derived.Deep.DeepHandedRow
import Derived.Deep.DeepWitnessRowRef
import Derived.Test.YtceigfafmalfgaaGreatDoorRatAll
import Derived.Stop.LaidErr
import Derived.MakeChecks
import Derived.Shelf.Spec.TrailingZeros
namespace Go.Proofs.YtceigfafmalfgaaGreatDoor
open Go.ChangeShapes Go.WideShapes Go.ChangeAt Go.RowKit
theorem own:ownKnob Tryz.prog.godebug=none:=by kernel_rfl
theorem laidOut:laidOutB Tryz.prog=true:=by kernel_rfl
theorem cellsU64:Tryz.prog.cellsOf 57=1:=by kernel_rfl
theorem bulk_one {H:Type} (d:DataW H):1≤Rows.uptoBulk d:=by
 cases d with
 | lit l=>cases l <;> simp [Rows.uptoBulk]
 | nil=>simp [Rows.uptoBulk]
 | ptr d=>simp [Rows.uptoBulk]
 | slice elems spare=>simp [Rows.uptoBulk]
 | agg parts=>simp [Rows.uptoBulk]
 | iface t d=>simp [Rows.uptoBulk]
 | map entries=>simp [Rows.uptoBulk]
 | held h=>simp [Rows.uptoBulk]
theorem bulk_length {H:Type} (l:List (DataW H)):l.length≤Rows.uptoBulkAll l:=by
 induction l with
 | nil=>simp [Rows.uptoBulkAll]
 | cons x r ih=>have:=bulk_one x;simp only [Rows.uptoBulkAll,List.length_cons];omega
theorem bulk_slice {H:Type} (elems spare:List (DataW H)):elems.length+spare.length≤Rows.uptoBulk (.slice elems spare):=by
 have h1:=bulk_length elems
 have h2:=bulk_length spare
 simp only [Rows.uptoBulk]
 omega
theorem trod_blocks {H:Type} {enc:TypeId × Value→H} {W:World} {t:TypeId} {v:Value} {d:DataW H} {p:List MemPlace} (h:DataW.Trod enc Tryz.prog W 0 (fun _=>true) true t v d p):∀ x ∈ p,x.block<W.heap.size:=by
 obtain ⟨m,hm⟩:=h;exact DataW.trod_lt m _ _ _ hm
end Go.Proofs.YtceigfafmalfgaaGreatDoor
namespace Go.Proofs.YtceigfafmalfgaaGreatDoor
open Go.ChangeShapes Go.WideShapes Go.ChangeAt Go.RowKit
theorem cellsInt:Tryz.prog.cellsOf 25=2:=by kernel_rfl
theorem cellsBool:Tryz.prog.cellsOf 4=1:=by kernel_rfl
theorem cellsNatI:Tryz.prog.cellsOf 23=1:=by kernel_rfl
end Go.Proofs.YtceigfafmalfgaaGreatDoor
namespace Go.Proofs.YtceigfafmalfgaaGreatDoor
open Go.ChangeShapes Go.WideShapes Go.ChangeAt Go.RowKit
theorem cellsRat:Tryz.prog.cellsOf 27=3:=by kernel_rfl
end Go.Proofs.YtceigfafmalfgaaGreatDoor
namespace Go.Proofs.YtceigfafmalfgaaGreatDoor
open Go.ChangeShapes Go.WideShapes Go.ChangeAt Go.RowKit
end Go.Proofs.YtceigfafmalfgaaGreatDoor
namespace Go.Proofs.YtceigfafmalfgaaGreatDoor
open Go.ChangeShapes Go.WideShapes Go.ChangeAt Go.RowKit
theorem u8Cells:Tryz.prog.cellsOf 5=1:=by kernel_rfl
theorem tab_head {n:String} {tab:List Nat} {r:List (String × DataW Unit)} {W:World} {g:Nat} (hg:Tryz.prog.globalNamed n=some g) (ht:(Tryz.prog.globals[g]?).map (·.type)=some 191) (hl:tab.length=64)
  (h:laidMet Tryz.prog ((n,.agg (tab.map fun (k:Nat)=>.lit (.int .u8 (k:Int))))::r) W):TabAt g tab W∧g<W.heap.size:=by
 obtain ⟨ps,⟨g0,t0,cs0,f0,p0,q0,hg0,ht0,hv0,hd0,_,e0⟩,_,hrows⟩:=h
 obtain rfl:=Option.some.inj (hg.symm.trans hg0)
 obtain rfl:=Option.some.inj (ht.symm.trans ht0)
 obtain ⟨xs,m,rfl,hx,hlen,hn,hel⟩:=DataW.trod_array Tryz.underlying191 hd0
 have hmap:tab.map (fun (k:Nat)=>(DataW.lit (.int .u8 (k:Int)):DataW Unit))=xs.map (·.1):=by
  have:=congrArg Prod.fst hx
  simpa using this
 have hT:TabAt g tab W:=fun j hj=>by
  have hj':j<64:=by omega
  have e1:=hel j hj'
  rw [u8Cells,List.getElem?_eq_getElem (by omega)] at e1
  obtain ⟨z,hz1,hz2,_⟩:=DataW.trod_int Tryz.underlying5 e1
  have e2:=congrArg (fun l=>l[j]?) hmap
  simp only [List.getElem?_map,List.getElem?_eq_getElem hj,List.getElem?_eq_getElem (show j<xs.length by omega),Option.map_some,hz2] at e2
  have e3:(tab[j]:Int)=z:=by
   have:=Option.some.inj e2
   simp only [DataW.lit.injEq,Lit.int.injEq,true_and] at this
   exact this
  have e4:cs0.toList[j]? = some (.int .u8 z):=by
   have:=congrArg (fun l=>l[0]?) hz1
   simp only [Nat.mul_one] at this
   rw [List.getElem?_take_of_lt (by omega),List.getElem?_drop,Nat.add_zero] at this
   simpa using this
  have e5:=World.var?_cell hg hv0 j
  rw [e5]
  have e6:cs0[j]? = some (.int .u8 z):=by simpa using e4
  rw [e6,← e3]
  simp [List.getD,List.getElem?_eq_getElem hj]
 exact ⟨hT,World.block_lt_of_cell? _ _ (hT 0 (by omega))⟩
end Go.Proofs.YtceigfafmalfgaaGreatDoor
