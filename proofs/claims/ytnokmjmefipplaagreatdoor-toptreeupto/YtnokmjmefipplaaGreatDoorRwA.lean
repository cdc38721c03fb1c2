import Derived.Test.YtnokmjmefipplaaGreatDoorRatAll
import Derived.Test.YtnokmjmefipplaaGreatDoorNumAll
namespace Go.Proofs.YtnokmjmefipplaaGreatDoor
open Go.RowKit
def Rw (t:TypeId) (w:World) (R:Nat) (cs:Array Value):Prop:=w.heap[R]? = some (.cells cs t (0,0))
theorem Rw.lt {t:TypeId} {w:World} {R:Nat} {cs:Array Value} (h:Rw t w R cs):R < w.heap.size:=(Array.getElem?_eq_some_iff.1 h).1
theorem Rw.new (t:TypeId) (w:World) (cs:Array Value):Rw t (w.alloc (.cells cs t)) w.heap.size cs:=heap_alloc_new _ _
theorem Rw.below {t:TypeId} {w w':World} {R:Nat} {cs:Array Value} (h:Rw t w R cs) (hb:Below w.heap.size w w'):Rw t w' R cs:=(hb.block R h.lt).trans h
theorem Rw.off {t:TypeId} {w w':World} {R g:Nat} {cs:Array Value} (h:Rw t w R cs) (o:Off g w w') (hg:R ≠ g):Rw t w' R cs:=(o.block R hg).trans h
theorem Rw.cell {t:TypeId} {w:World} {R:Nat} {cs:Array Value} (h:Rw t w R cs) (j:Nat):w.cell? ⟨R,j,none⟩ = cs[j]?:=cell_of_row w R j cs t _ h
theorem Rw.frozen {t:TypeId} {w:World} {R:Nat} {cs:Array Value} (h:Rw t w R cs) (j:Nat):w.frozen? ⟨R,j,none⟩ = false:=frozen_of_row w R j cs t h
theorem Rw.row {t:TypeId} {w:World} {R:Nat} {cs:Array Value} (h:Rw t w R cs) (cs':Array Value):Rw t (w.setRow R cs') R cs'∧Off R w (w.setRow R cs') :=
 ⟨setRow_heap w R cs cs' t _ h,⟨rfl,rfl,rfl,by simp,fun k hk=>setRow_other w R k cs' hk⟩⟩
theorem Rw.put {t:TypeId} {w:World} {R:Nat} {old:Array Value} (h:Rw t w R old) (cs:Array Value) {ops:Array Oper} {rest:List Oper} {o:Oper} {a:Act} {Q:Exit→Act→World→Prop} (hgd:o.guard = none) (x y:Operand) (ho:o.op = .store t x y)
 (hx:a.eval x = .pointer (some ⟨R,0,none⟩)) (hy:a.eval y = .agg cs) (hi:(Tryz.prog.info? t).map (·.size) = some cs.size) (hold:old.size = cs.size) (h1:cs.all (·.oneCell') = true)
 (hK:∀ w',Rw t w' R cs→Off R w w'→wpList Tryz.prog ops Q rest (a.put o.dst undef) w'):wpList Tryz.prog ops Q (o :: rest) a w :=
 wpList_store_row hgd t x y ho R cs hx hy t old h hi hold h1 (hK _ (h.row cs).1 (h.row cs).2)
theorem Rw.ret1 {fn:Func} {p:Tmp} {ty:TypeId} (h:fn.results = #[.cell p ty]) (tmps:Array Value) {w:World} {g:Nat} {cs:Array Value} (hr:Rw ty w g cs)
 (hp:tmps.getD p undef = .pointer (some ⟨g,0,none⟩)) {fs} (hu:Tryz.prog.underlying ty = some (.struct fs)) (hi:(Tryz.prog.info? ty).map (·.size) = some cs.size) :
 (results fn tmps).run Tryz.prog w = .ok (.agg cs) w:=results_cell_row h tmps w g ty cs _ (.struct fs) hp hr hu rfl hi
end Go.Proofs.YtnokmjmefipplaaGreatDoor
