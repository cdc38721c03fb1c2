import Derived.Test.YtgdilnljjgdinaaGreatDoorRefNAll
import Derived.Test.YtgdilnljjgdinaaGreatDoorDigAll
import Derived.Test.YtgdilnljjgdinaaGreatDoorWhAll
namespace Go.Proofs.YtgdilnljjgdinaaGreatDoor
open Go.RowKit
def OwnK (t:TypeId) (k:IntKind) (w:World) (B:Nat) (v:Value) (xs:List Int):Prop:=w.ownsRow B t 1 v xs.length (xs.map (Value.int k))
theorem OwnK.nil (t:TypeId) (k:IntKind) (w:World) (B:Nat):OwnK t k w B (.slice none 0 0) []:=World.ownsRow_nil _ _ _ _
theorem OwnK.alloc {t:TypeId} {k:IntKind} {w:World} {B:Nat} {v:Value} {xs:List Int} (h:OwnK t k w B v xs) (o:Obj):OwnK t k (w.alloc o) B v xs:=World.ownsRow.alloc h o
theorem OwnK.lt {t:TypeId} {k:IntKind} {w:World} {B:Nat} {v:Value} {xs:List Int} (h:OwnK t k w B v xs):∀ j,v.ownBlock=some j→B≤j∧j<w.heap.size:=World.ownsRow.lt h
theorem OwnK.row {t:TypeId} {k:IntKind} {w:World} {B:Nat} {v:Value} {xs:List Int} (h:OwnK t k w B v xs):(v = .slice none 0 0∧xs=[])∨∃ g cap,v = .slice (some ⟨g,0,none⟩) xs.length cap∧xs.length≤cap∧B≤g∧g<w.heap.size∧∀ i,i<xs.length→w.cell? ⟨g,i,none⟩=some (.int k (xs.getD i 0)):=by
 rcases h.2 with ⟨h1,h2⟩|⟨g,cap,cur,h1,h2,h3,h4,h5,h6,h7⟩
 ·exact .inl ⟨h1,List.eq_nil_of_length_eq_zero h2⟩
 ·refine .inr ⟨g,cap,h1,h4,h2,(Array.getElem?_eq_some_iff.1 h3).1,fun i hi=>?_⟩
  have e1:(cur.toList.take (xs.length*1))[i]? = cur.toList[i]?:=List.getElem?_take_of_lt (by omega)
  rw [h7,List.getElem?_map,List.getElem?_eq_getElem hi] at e1
  have e2:cur[i]? = some (.int k xs[i]):=by rw [← Array.getElem?_toList,← e1];rfl
  simp only [List.getD,List.getElem?_eq_getElem hi,Option.getD_some]
  simp [World.cell?,h3,e2]
theorem OwnK.form {t:TypeId} {k:IntKind} {w:World} {B:Nat} {v:Value} {xs:List Int} (h:OwnK t k w B v xs):∃ a cap,v = .slice a xs.length cap:=by
 rcases h.row with ⟨rfl,rfl⟩|⟨g,cap,e,_⟩
 ·exact ⟨_,_,rfl⟩
 ·exact ⟨_,_,e⟩
theorem wpList_appendK (t e:TypeId) (k:IntKind) (bytes:Nat) (i0:TypeInfo) (ht:Tryz.prog.underlying t=some (.slice e)) (hi:Tryz.prog.info? e=some i0) (hz0:i0.zero=some (.int k 0)) (hz1:i0.size=1) (hz2:i0.bytes=bytes) (hb8:bytes≤8) (w:World) {ops:Array Oper} {rest:List Oper} {o:Oper} {a:Act} {Q:Exit→Act→World→Prop} (hgd:o.guard=none) (s x:Operand)
  (ho:o.op = .call { callee:=.builtin .append,args:=#[s,x],argTypes:=#[t,t] }) (B:Nat) (v:Value) (xs:List Int) (n:Nat) (hn:Hid (xs.length=n)) (hs:a.eval s=v) (hown:OwnK e k w B v xs) (h:Nat) (c:Nat) (z:Int) (hx:a.eval x = .slice (some ⟨h,0,none⟩) 1 c)
  (hc:w.cell? ⟨h,0,none⟩=some (.int k z)) (hlen:n≤1000000000000) (hB:B≤w.heap.size) (H:Nat) (hH:w.heap.size=H)
  (hK:∀ g cap w',OwnK e k w' B (.slice (some ⟨g,0,none⟩) (n+1) cap) (xs++[z])→w.grownBy w' v.ownBlock→(v.ownBlock=some g∨g=H)→g<w'.heap.size→wpList Tryz.prog ops Q rest (a.put o.dst (.slice (some ⟨g,0,none⟩) (n+1) cap)) w') :
  wpList Tryz.prog ops Q (o::rest) a w:=by
 obtain rfl:=hn.out
 refine wpList_append_lies w hgd s x t ho B e i0 (.int k 0) 1 bytes ht hi hz0 hz1 hz2 rfl (by decide) v xs.length (xs.map (Value.int k)) hs hown ⟨h,0,none⟩ 1 c [.int k z] hx rfl ?_ (fun u hu=>by simp at hu;subst hu;rfl) (by decide) (by unfold maxLen;omega) (by have:=Nat.mul_le_mul (show xs.length+1≤1000000000001 by omega) hb8;omega) hB H hH ?_
 ·intro j u hj
  match j,hj with
  | 0,hj=>simp at hj;subst hj;simpa [Addr.add] using hc
 ·intro g cap w' h1 h2 h3 h4
  refine hK g cap w' ?_ h2 h3 h4
  unfold OwnK
  simpa using h1
end Go.Proofs.YtgdilnljjgdinaaGreatDoor
