import Derived.Test.YtnokmjmefipplaaGreatDoorOpAll
import Derived.Test.YtnokmjmefipplaaGreatDoorPvFAll
import Derived.Test.YtnokmjmefipplaaGreatDoorQ3OAll
import Derived.Test.YtnokmjmefipplaaGreatDoorGuardS
import Derived.Test.YtnokmjmefipplaaGreatDoorQAll
namespace Go.Proofs.YtnokmjmefipplaaGreatDoor
open Go.ChangeShapes Go.WideShapes Go.ChangeAt Go.RowKit
def Err3 (w:World) (g:Nat) (a:Addr) (text:List UInt8):Prop :=
 w.cell? ⟨g,0,none⟩ = some (.iface 173 (.pointer (some a)))∧(∃ s,w.cell? a = some (.string s)∧s.data.toList = text)∧∃ c t,w.heap[a.block]? = some (.cells c t (0,0))
theorem Err3.errs {w:World} {g:Nat} {a:Addr} {text:List UInt8} (h:Err3 w g a text):Errs w g (.iface 173 (.pointer (some a))):=⟨h.1,a,rfl⟩
theorem aE2 {P:Program} {n nm:String} {text:List UInt8} {r:List (String × DataW Unit)} {W:World} {g:Nat} {ti tp te ts:TypeId} {ms:Array (String × TypeId)} {f:Field}
 (h:laidMet P ((n,.iface nm (.ptr (.agg [.lit (.string text)]))) :: r) W)
 (hg:P.globalNamed n = some g) (ht:(P.globals[g]?).map (·.type) = some ti) (hi:P.underlying ti = some (.interface ms)) (hrow:∀ u,P.typeName? 3 u = some nm→u = tp)
 (hp:P.underlying tp = some (.pointer te)) (he:P.underlying te = some (.struct #[f])) (hft:f.type = ts) (hfo:f.offset = 0) (hs:P.underlying ts = some .string) (hc:P.cellsOf te = 1) (hcs:P.cellsOf ts = 1) :
 ∃ (a:Addr) (s:ByteArray),W.var? P n = some #[.iface tp (.pointer (some a))]∧W.cell? a = some (.string s)∧s.data.toList = text∧∃ c t,W.heap[a.block]? = some (.cells c t (0,0)):=by
 obtain ⟨ps,⟨g0,t0,cs0,f0,p0,q0,hg0,ht0,hv0,hd0,_,e0⟩,_,hrows⟩:=h
 obtain rfl:=Option.some.inj (hg.symm.trans hg0)
 obtain rfl:=Option.some.inj (ht.symm.trans ht0)
 subst e0
 obtain ⟨l0⟩:=cs0
 have ok0:∀ u v,l0 = [.iface u v]→Value.okWide P W .any 0 u v:=fun u v e=>by
  subst e
  exact (hrows g 0 (by simp [MemPlace.row])).2 u v (by simpa using World.var?_cell hg0 hv0 0)
 obtain ⟨a0,s0,rfl,hc0,hs0,_,rfl⟩:=errorString_of_trod hi hrow hp he hft hfo hs hc hcs hd0 ok0
 exact ⟨a0,s0,hv0,hc0,hs0,(hrows a0.block a0.off (by simp [MemPlace.row])).1⟩
theorem fM {n:String} {text:List UInt8} {r:List (String × DataW Unit)} {W:World} {g:Nat} (hg:Tryz.prog.globalNamed n = some g) (ht:(Tryz.prog.globals[g]?).map (·.type) = some 38)
 (h : laidMet Tryz.prog ((n, .iface "*errors.errorString" (.ptr (.agg [.lit (.string text)]))) :: r) W) : ∃ a, Err3 W g a text := by
 obtain ⟨a,s,h1,h2,h3,h4⟩:=aE2 h hg ht Tryz.underlying38 errRow Tryz.underlying173 Tryz.underlying191 rfl rfl Tryz.underlying9 errCells strCells
 exact ⟨a,World.var?_cell hg h1 0,⟨s,h2,h3⟩,h4⟩
end Go.Proofs.YtnokmjmefipplaaGreatDoor
namespace Go.Proofs.YtnokmjmefipplaaGreatDoor
open Go.RowKit
theorem xE {P:Program} {c:Code} {Q:Exit→Act→World→Prop} {a:Act} {w:World} (J:Act→Act→World→Prop) (h1:c.wp P (fun e a' w'=>e = .normal∧J a a' w') a w) (h2:∀ a' w',J a a' w'→Q .normal a' w'):c.wp P Q a w :=
 Code.wp_mono (fun e a' w' h=>by obtain ⟨rfl,h⟩:=h;exact h2 a' w' h) h1
end Go.Proofs.YtnokmjmefipplaaGreatDoor
