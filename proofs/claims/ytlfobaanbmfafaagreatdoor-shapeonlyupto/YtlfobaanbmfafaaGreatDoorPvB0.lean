import Derived.Test.YtlfobaanbmfafaaGreatDoorRlAll
import Derived.Test.YtlfobaanbmfafaaGreatDoorPqB
import Derived.Laws.OwnMore
namespace Go.Proofs.YtlfobaanbmfafaaGreatDoor
open Go.RowKit
def EX (w:World) (B g:Nat) (p:Bool) (a:Option Addr) (na ca:Nat) (d:Option Addr) (nd cd:Nat) (r:Rat) (S:Nat):Prop :=
 GX w B g p a na ca d nd cd r S∨∀ w',Below B w w'→TR w' p a na ca d nd cd r S
structure RV (w:World) (B g N n:Nat) (X:Nat→Rat) (S:Nat):Prop where
 blk:∃ cur,w.heap[g]? = some (.cells cur 27 (0,0))∧cur.size = N * 3
 lo:B≤g
 el:∀ i,i < n→∃ p a na ca d nd cd,w.cell? ⟨g,i * 3,none⟩ = some (.bool p)∧w.cell? ⟨g,i * 3 + 1,none⟩ = some (.slice a na ca)∧w.cell? ⟨g,i * 3 + 2,none⟩ = some (.slice d nd cd)∧EX w B g p a na ca d nd cd (X i) S
theorem RV.there {w:World} {B g N n:Nat} {X:Nat→Rat} {S:Nat} (h:RV w B g N n X S) {j:Nat} (hj:j < N * 3):∃ u,w.cell? ⟨g,j,none⟩ = some u:=by
 obtain ⟨cur,h1,h2⟩:=h.blk
 rw [cell_of_row w g j cur _ (0,0) h1]
 exact ⟨_,Array.getElem?_eq_getElem (by omega)⟩
theorem RV.fr {w:World} {B g N n:Nat} {X:Nat→Rat} {S:Nat} (h:RV w B g N n X S) (j:Nat):w.frozen? ⟨g,j,none⟩ = false:=by
 obtain ⟨cur,h1,h2⟩:=h.blk
 exact frozen_of_row w g j cur _ h1
theorem RV.three {w:World} {B g N n:Nat} {X:Nat→Rat} {S:Nat} (h:RV w B g N n X S) {i:Nat} (hi:i < N):∃ u0 u1 u2,w.cell? ⟨g,i * 3,none⟩ = some u0∧w.cell? ⟨g,i * 3 + 1,none⟩ = some u1∧w.cell? ⟨g,i * 3 + 2,none⟩ = some u2∧w.frozen? ⟨g,i * 3,none⟩ = false∧w.frozen? ⟨g,i * 3 + 1,none⟩ = false∧w.frozen? ⟨g,i * 3 + 2,none⟩ = false:=by
 obtain ⟨u0,h0⟩:=h.there (j:=i * 3) (by omega)
 obtain ⟨u1,h1⟩:=h.there (j:=i * 3 + 1) (by omega)
 obtain ⟨u2,h2⟩:=h.there (j:=i * 3 + 2) (by omega)
 exact ⟨u0,u1,u2,h0,h1,h2,h.fr _,h.fr _,h.fr _⟩
theorem wpList_makeV (w:World) {ops:Array Oper} {rest:List Oper} {o:Oper} {a:Act} {Q:Exit→Act→World→Prop} (hg:o.guard = none) (l c:Operand) (hop:o.op = Op.makeSlice 32 l c)
  (n:Nat) (hl:a.eval l = .int .i64 (n:Int)) (hc:a.eval c = .int .i64 (n:Int)) (hn:n≤100000000) (S:Nat)
  (h:∀ w',RV w' w.heap.size w.heap.size n 0 (fun _=>0) S→Below w.heap.size w w'→w'.heap.size = w.heap.size + 1→wpList Tryz.prog ops Q rest (a.put o.dst (.slice (some ⟨w.heap.size,0,none⟩) n n)) w'):wpList Tryz.prog ops Q (o :: rest) a w:=by
 obtain ⟨i0,z,hi,hz,hs3,hb56,hz3⟩:=info3
 have hr:=run_make (P:=Tryz.prog) w 32 27 i0 z Tryz.underlying32 hi hz .i64 .i64 (n:Int) (n:Int) (by omega) (Int.le_refl _) (by rw [hb56];omega) (by omega)
 simp only [Int.toNat_natCast] at hr
 refine wpList_plain hg fun K hK'=>?_
 unfold Oper.wp execOp
 simp only [hop,Sem.run_bind,Sem.run_pure,Result.andThen_ok,hl,hc,hr]
 refine hK' _ _ (h _ ⟨⟨_,heap_alloc_new w _,by rw [size_madeCells,hs3]⟩,Nat.le_refl _,fun i hi=>by omega⟩ (bel_d0 w _) (by simp))
end Go.Proofs.YtlfobaanbmfafaaGreatDoor
