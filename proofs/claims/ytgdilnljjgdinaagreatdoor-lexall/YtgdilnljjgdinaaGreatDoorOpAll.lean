import Derived.Test.YtgdilnljjgdinaaGreatDoorNumAll
import Derived.Test.YtgdilnljjgdinaaGreatDoorCards
import Derived.Test.YtgdilnljjgdinaaGreatDoorTie
import Derived.ProofKit
import Derived.OpenShut
import Derived.LaidMore
import Derived.Deep.DeepHandedRow
import Derived.Deep.DeepWitnessRowRef
import Derived.Test.YtgdilnljjgdinaaGreatDoorRatAll
import Derived.Stop.LaidErr
import Derived.MakeChecks
import Derived.Shelf.Spec.TrailingZeros
namespace Go.Proofs.YtgdilnljjgdinaaGreatDoor
open Go.ChangeShapes Go.WideShapes Go.ChangeAt Go.RowKit
theorem own:ownKnob Tryz.prog.godebug=none:=by kernel_rfl
theorem int_wf {x:Int} (h:(Lit.int .i64 x).wf=true):-9223372036854775808≤x∧x≤9223372036854775807:=by
 simp [Lit.wf,IntKind.min,IntKind.max,IntKind.signed,IntKind.bits] at h
 exact ⟨by omega,by omega⟩
end Go.Proofs.YtgdilnljjgdinaaGreatDoor
namespace Go.Proofs.YtgdilnljjgdinaaGreatDoor
open Go.ChangeShapes Go.WideShapes Go.ChangeAt Go.RowKit
end Go.Proofs.YtgdilnljjgdinaaGreatDoor
namespace Go.Proofs.YtgdilnljjgdinaaGreatDoor
open Go.ChangeShapes Go.WideShapes Go.ChangeAt Go.RowKit
end Go.Proofs.YtgdilnljjgdinaaGreatDoor
namespace Go.Proofs.YtgdilnljjgdinaaGreatDoor
open Go.ChangeShapes Go.WideShapes Go.ChangeAt Go.RowKit
theorem errStar : "*" ++ "errors.errorString" = "*errors.errorString" := by decide
theorem errRow (u : TypeId) (h : Tryz.prog.typeName? 3 u = some "*errors.errorString") : u = 249 :=
 typeName_ptr_named (nm := "errors.errorString") (by rw [errStar]; kernel_rfl) (by kernel_rfl) (by decide) u (by rw [errStar]; exact h)
theorem errCells:Tryz.prog.cellsOf 267=1:=by kernel_rfl
theorem strCells:Tryz.prog.cellsOf 9=1:=by kernel_rfl
theorem errs_head {n:String} {text:List UInt8} {r:List (String × DataW Unit)} {W:World} {g:Nat} (hg:Tryz.prog.globalNamed n=some g) (ht:(Tryz.prog.globals[g]?).map (·.type)=some 34)
  (h : laidMet Tryz.prog ((n, .iface "*errors.errorString" (.ptr (.agg [.lit (.string text)]))) :: r) W) : ∃ ev, Errs W g ev := by
 obtain ⟨a,s,h1,_⟩:=laid_sentinel h hg ht Tryz.underlying34 errRow Tryz.underlying249 Tryz.underlying267 rfl rfl Tryz.underlying9 errCells strCells
 exact ⟨_,World.var?_cell hg h1 0,a,rfl⟩
end Go.Proofs.YtgdilnljjgdinaaGreatDoor
namespace Go.Proofs.YtgdilnljjgdinaaGreatDoor
open Go.ChangeShapes Go.WideShapes Go.ChangeAt Go.RowKit
theorem u8Cells:Tryz.prog.cellsOf 5=1:=by kernel_rfl
theorem tab_head {n:String} {tab:List Nat} {r:List (String × DataW Unit)} {W:World} {g:Nat} (hg:Tryz.prog.globalNamed n=some g) (ht:(Tryz.prog.globals[g]?).map (·.type)=some 243) (hl:tab.length=64)
  (h:laidMet Tryz.prog ((n,.agg (tab.map fun (k:Nat)=>.lit (.int .u8 (k:Int))))::r) W):TabAt g tab W∧g<W.heap.size:=by
 obtain ⟨ps,⟨g0,t0,cs0,f0,p0,q0,hg0,ht0,hv0,hd0,_,e0⟩,_,hrows⟩:=h
 obtain rfl:=Option.some.inj (hg.symm.trans hg0)
 obtain rfl:=Option.some.inj (ht.symm.trans ht0)
 obtain ⟨xs,m,rfl,hx,hlen,hn,hel⟩:=DataW.trod_array Tryz.underlying243 hd0
 have hmap:tab.map (fun (k:Nat)=>(DataW.lit (.int .u8 (k:Int)):DataW Unit))=xs.map (·.1):=by
  have:=congrArg Prod.fst hx
  simpa using this
 have hT:TabAt g tab W:=fun j hj=>by
  have hj':j<64:=by omega
  have e1:=hel j hj'
  rw [u8Cells,List.getElem?_eq_getElem (by omega)] at e1
  obtain ⟨z,hz1,hz2,_⟩:=DataW.trod_int Tryz.underlying5 e1
  have e2:=congrArg (fun l=>l[j]?) hmap
  simp only [List.getElem?_map,List.getElem?_eq_getElem hj,List.getElem?_eq_getElem (show j<xs.length by omega),Option.map_some,hz2] at e2
  have e3:(tab[j]:Int)=z:=by
   have:=Option.some.inj e2
   simp only [DataW.lit.injEq,Lit.int.injEq,true_and] at this
   exact this
  have e4:cs0.toList[j]? = some (.int .u8 z):=by
   have:=congrArg (fun l=>l[0]?) hz1
   simp only [Nat.mul_one] at this
   rw [List.getElem?_take_of_lt (by omega),List.getElem?_drop,Nat.add_zero] at this
   simpa using this
  have e5:=World.var?_cell hg hv0 j
  rw [e5]
  have e6:cs0[j]? = some (.int .u8 z):=by simpa using e4
  rw [e6,← e3]
  simp [List.getD,List.getElem?_eq_getElem hj]
 exact ⟨hT,World.block_lt_of_cell? _ _ (hT 0 (by omega))⟩
end Go.Proofs.YtgdilnljjgdinaaGreatDoor
namespace Go.Proofs.YtgdilnljjgdinaaGreatDoor
open Go.RowKit
end Go.Proofs.YtgdilnljjgdinaaGreatDoor
