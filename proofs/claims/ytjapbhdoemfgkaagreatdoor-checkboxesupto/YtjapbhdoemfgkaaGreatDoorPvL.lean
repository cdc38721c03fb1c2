import Derived.Test.YtjapbhdoemfgkaaGreatDoorPvFAll
import Derived.Test.YtjapbhdoemfgkaaGreatDoorPvAAll
import Derived.Laws.Cover3
namespace Go.Proofs.YtjapbhdoemfgkaaGreatDoor
open Go.RowKit
theorem infoV:∃ i z,Tryz.prog.info? 39 = some i∧i.zero = some z∧i.size = 13∧i.bytes = 208∧z.cells.size = 13:=by
 have h1:(Tryz.prog.info? 39).map (fun i=>(i.size,i.bytes,i.zero.map (·.cells.size))) = some (13,208,some 13):=by kernel_rfl
 obtain ⟨i,hi,h⟩:=Option.map_eq_some_iff.1 h1
 simp only [Prod.mk.injEq] at h
 obtain ⟨z,hz,h2⟩:=Option.map_eq_some_iff.1 h.2.2
 exact ⟨i,z,hi,hz,h.1,h.2.1,h2⟩
def BoxO (w:World) (g o:Nat) (cs:List Value):Prop:=∀ r u,cs[r]? = some u→w.cell? ⟨g,o + r,none⟩ = some u
def VC0 (w0 w:World) (g o:Nat) (v:PV) (S:Nat):Prop :=
 ∃ pO aO nO cO dO mO lO pl al nl cl dl ml ll ph ah nh ch dh mh lh,BoxO w g o [.string v.nm,.bool pO,.slice aO nO cO,.slice dO mO lO,.bool v.hlo,.bool pl,.slice al nl cl,.slice dl ml ll,.bool v.hhi,.bool ph,.slice ah nh ch,.slice dh mh lh,.bool v.whole]∧TR w0 pO aO nO cO dO mO lO v.obj S∧TR w0 pl al nl cl dl ml ll v.lo S∧TR w0 ph ah nh ch dh mh lh v.hi S∧1≤S∧SzR v.obj S∧SzR v.lo S∧SzR v.hi S∧v.nm.size≤S
theorem VarAt.vc0 {w:World} {g o:Nat} {v:PV} {S:Nat} (h:VarAt w g o v S):VC0 w w g o v S:=by
 obtain ⟨pO,aO,nO,cO,dO,mO,lO,r1,r2,r3,hO⟩:=h.obj
 obtain ⟨pl,al,nl,cl,dl,ml,ll,r5,r6,r7,hl⟩:=h.lo
 obtain ⟨ph,ah,nh,ch,dh,mh,lh,r9,r10,r11,hh⟩:=h.hi
 refine ⟨pO,aO,nO,cO,dO,mO,lO,pl,al,nl,cl,dl,ml,ll,ph,ah,nh,ch,dh,mh,lh,fun r u hu=>?_,hO,hl,hh,h.s1,h.sobj,h.slo,h.shi,h.snm⟩
 match r,hu with
 | 0,hu=>simp at hu;subst hu;exact h.nm
 | 1,hu=>simp at hu;subst hu;exact r1
 | 2,hu=>simp at hu;subst hu;exact r2
 | 3,hu=>simp at hu;subst hu;exact r3
 | 4,hu=>simp at hu;subst hu;exact h.hlo
 | 5,hu=>simp at hu;subst hu;exact r5
 | 6,hu=>simp at hu;subst hu;exact r6
 | 7,hu=>simp at hu;subst hu;exact r7
 | 8,hu=>simp at hu;subst hu;exact h.hhi
 | 9,hu=>simp at hu;subst hu;exact r9
 | 10,hu=>simp at hu;subst hu;exact r10
 | 11,hu=>simp at hu;subst hu;exact r11
 | 12,hu=>simp at hu;subst hu;exact h.whole
 | n + 13,hu=>simp at hu
theorem VC0.var {w0 w:World} {g o:Nat} {v:PV} {S:Nat} (h:VC0 w0 w g o v S) (hb:Below w0.heap.size w0 w):VarAt w g o v S:=by
 obtain ⟨pO,aO,nO,cO,dO,mO,lO,pl,al,nl,cl,dl,ml,ll,ph,ah,nh,ch,dh,mh,lh,hB,hO,hl,hh,s1,s2,s3,s4,s5⟩:=h
 exact ⟨hB 0 _ rfl,⟨_,_,_,_,_,_,_,hB 1 _ rfl,hB 2 _ rfl,hB 3 _ rfl,hO.below hb⟩,hB 4 _ rfl,⟨_,_,_,_,_,_,_,hB 5 _ rfl,hB 6 _ rfl,hB 7 _ rfl,hl.below hb⟩,hB 8 _ rfl,⟨_,_,_,_,_,_,_,hB 9 _ rfl,hB 10 _ rfl,hB 11 _ rfl,hh.below hb⟩,hB 12 _ rfl,s1,s2,s3,s4,s5⟩
theorem VC0.cell {w0 w:World} {g o:Nat} {v:PV} {S:Nat} (h:VC0 w0 w g o v S) {r:Nat} (hr:r < 13):∃ u,w.cell? ⟨g,o + r,none⟩ = some u∧u.oneCell' = true:=by
 obtain ⟨pO,aO,nO,cO,dO,mO,lO,pl,al,nl,cl,dl,ml,ll,ph,ah,nh,ch,dh,mh,lh,hB,_⟩:=h
 match r,hr with
 | 0,_=>exact ⟨_,hB 0 _ rfl,rfl⟩
 | 1,_=>exact ⟨_,hB 1 _ rfl,rfl⟩
 | 2,_=>exact ⟨_,hB 2 _ rfl,rfl⟩
 | 3,_=>exact ⟨_,hB 3 _ rfl,rfl⟩
 | 4,_=>exact ⟨_,hB 4 _ rfl,rfl⟩
 | 5,_=>exact ⟨_,hB 5 _ rfl,rfl⟩
 | 6,_=>exact ⟨_,hB 6 _ rfl,rfl⟩
 | 7,_=>exact ⟨_,hB 7 _ rfl,rfl⟩
 | 8,_=>exact ⟨_,hB 8 _ rfl,rfl⟩
 | 9,_=>exact ⟨_,hB 9 _ rfl,rfl⟩
 | 10,_=>exact ⟨_,hB 10 _ rfl,rfl⟩
 | 11,_=>exact ⟨_,hB 11 _ rfl,rfl⟩
 | 12,_=>exact ⟨_,hB 12 _ rfl,rfl⟩
theorem VC0.move {w0 w w':World} {g o g' o':Nat} {v:PV} {S:Nat} (h:VC0 w0 w g o v S) (hc:∀ r,r < 13→w'.cell? ⟨g',o' + r,none⟩ = w.cell? ⟨g,o + r,none⟩):VC0 w0 w' g' o' v S:=by
 obtain ⟨pO,aO,nO,cO,dO,mO,lO,pl,al,nl,cl,dl,ml,ll,ph,ah,nh,ch,dh,mh,lh,hB,rest⟩:=h
 exact ⟨pO,aO,nO,cO,dO,mO,lO,pl,al,nl,cl,dl,ml,ll,ph,ah,nh,ch,dh,mh,lh,fun r u hu=>(hc r (by have:=(List.getElem?_eq_some_iff.1 hu).1;simpa using this)).trans (hB r u hu),rest⟩
def VL (w0:World) (B:Nat) (w:World) (a:Option Addr) (n:Nat) (V:Nat→PV) (Z:Nat→Nat):Prop :=
 n = 0∨∃ g cur,a = some ⟨g,0,none⟩∧B≤g∧w.heap[g]? = some (.cells cur 39 (0,0))∧n * 13≤cur.size∧∀ j,j < n→VC0 w0 w g (j * 13) (V j) (Z j)
theorem LV.cells {w:World} {a:Option Addr} {n:Nat} {V:Nat→PV} {Z:Nat→Nat} (h:LV w a n V Z):∃ cs:List Value,cs.length = n * 13∧(∀ u ∈ cs,u.oneCell' = true)∧(n = 0∨∃ b o,a = some ⟨b,o,none⟩∧∀ k,k < n * 13→w.cell? ⟨b,o + k,none⟩ = cs[k]?):=by
 rcases h with rfl | ⟨b,o,rfl,h⟩
 ·exact ⟨[],rfl,fun u hu=>(by cases hu),.inl rfl⟩
 ·have hc:∀ k,k < n * 13→∃ u,w.cell? ⟨b,o + k,none⟩ = some u∧u.oneCell' = true:=fun k hk=>by
   obtain ⟨u,h1,h2⟩:=(h (k / 13) (by omega)).vc0.cell (r:=k % 13) (by omega)
   refine ⟨u,?_,h2⟩
   rw [← h1]
   congr 2
   omega
  refine ⟨(List.range (n * 13)).map fun k=>(w.cell? ⟨b,o + k,none⟩).getD undef,by simp,fun u hu=>?_,.inr ⟨b,o,rfl,fun k hk=>?_⟩⟩
  ·rw [List.mem_map] at hu
   obtain ⟨k,hk,rfl⟩:=hu
   obtain ⟨u,h1,h2⟩:=hc k (List.mem_range.1 hk)
   rw [h1]
   exact h2
  ·obtain ⟨u,h1,h2⟩:=hc k hk
   rw [List.getElem?_map,List.getElem?_range hk,Option.map_some,h1]
   rfl
theorem eqlV (w:World) (a:Option Addr) (n c:Nat):(binOp .eql 22 (.slice a n c) (.slice none 0 0)).run Tryz.prog w = .ok (.bool a.isNone) w:=by
 simp only [binOp]
 simp [run_equal_slice_nil w 22 39 a n c Tryz.underlying22]
def ClR (w0:World) (vn:Nat) (V:Nat→PV) (ZV:Nat→Nat) (w:World) (e:Ending) (w':World):Prop:=∃ a cap,e = .returned (.slice a vn cap)∧vn≤cap∧VL w0 w.heap.size w' a vn V ZV∧Below w.heap.size w w'
set_option maxRecDepth 100000 in
set_option maxHeartbeats 4000000 in
theorem cloneV {va:Option Addr} {vn vc:Nat} {V:Nat→PV} {ZV:Nat→Nat} (w0 w:World) (hv:LV w0 va vn V ZV) (hbw:Below w0.heap.size w0 w) (hn:vn≤2000000) :
  Calls Tryz.prog 71 #[.slice va vn vc] w fun e w'=>ClR w0 vn V ZV w e w':=by
 obtain ⟨cs,c1,c2,c3⟩:=hv.cells
 obtain ⟨i0,z,hi,hz,hs3,hb56,hz3⟩:=infoV
 rcases va with _ | ad
 ·have h0:vn = 0:=by
   rcases c3 with h | ⟨b,o,h,_⟩
   ·exact h
   ·cases h
  subst h0
  have heq:=fun w=>eqlV w none 0 vc
  go_enter Tryz.func71,Tryz.ntmps71
  go_wp2
  go_ret
  exact ⟨_,_,rfl,Nat.le_refl _,.inl rfl,Below.refl _ _⟩
 ·have HC1:Hid (cs.length = vn * 13):=c1
  have HC3:Hid (vn = 0∨∃ b o,some ad = some ⟨b,o,none⟩∧∀ k,k < vn * 13→w0.cell? ⟨b,o + k,none⟩ = cs[k]?):=c3
  have hown:(w.alloc (.cells #[] 39)).ownsRow w.heap.size 39 13 (.slice (some ⟨w.heap.size,0,none⟩) 0 0) 0 []:=World.ownsRow_made w #[] 0 (Nat.le_refl _) (by unfold maxLen;omega) rfl
  have hx:=bel_d0 w (.cells #[] 39)
  have hsx:(w.alloc (.cells #[] 39)).heap.size = w.heap.size + 1:=by simp
  clear c1 c3
  have heq:=fun w=>eqlV w (some ad) vn vc
  go_enter Tryz.func71,Tryz.ntmps71
  go_wp2_with (at_builtin;refine wpList_append_own _ rfl _ _ 22 rfl w.heap.size 39 i0 z 13 208 Tryz.underlying22 hi hz hs3 hb56 hz3 (by decide) _ 0 [] rfl hown ad vn vc cs rfl HC1.out ?_ c2 (by unfold maxLen;omega) (by omega) (by omega) ?_)
  ·intro j u hj
   have hl:=HC1.out
   have hjl:=(List.getElem?_eq_some_iff.1 hj).1
   rcases HC3.out with h | ⟨b,o,h,hc⟩
   ·omega
   ·cases h
    rw [Addr.add_mid']
    exact kept_c hx (kept_c hbw ((hc j (by omega)).trans hj))
  intro v' w' hown' hgrow _
  have hb2:Below w.heap.size w w':=hx.trans (grown_below (B:=w.heap.size) hgrow (by omega) (fun k hk=>(World.ownsRow.lt hown k hk).1))
  have hform:∃ a cap,v' = .slice a vn cap∧vn≤cap∧VL w0 w.heap.size w' a vn V ZV:=by
   have hl:=HC1.out
   rcases hown'.2 with ⟨e1,e2⟩ | ⟨g,cap,cur,e1,hBg,hg,hnc,_,hcs,ht⟩
   ·have h0:vn = 0:=by omega
    subst h0
    exact ⟨none,0,e1,Nat.le_refl _,.inl rfl⟩
   ·try simp only [Nat.zero_add,List.nil_append] at e1 hnc ht
    refine ⟨some ⟨g,0,none⟩,cap,e1,hnc,?_⟩
    rcases HC3.out with h | ⟨b,o,h,hc⟩
    ·exact .inl h
    ·cases h
     rcases hv with h0 | ⟨b',o',e,hev⟩
     ·exact .inl h0
     ·cases e
      have hsz:vn * 13≤cur.size:=by rw [hcs];exact Nat.mul_le_mul_right _ hnc
      refine .inr ⟨g,cur,rfl,hBg,hg,hsz,fun j hj=>(hev j hj).vc0.move fun r hr=>?_⟩
      rw [cell_of_row w' g (j * 13 + r) cur _ (0,0) hg,Nat.add_assoc o,hc (j * 13 + r) (by omega),← ht,List.getElem?_take_of_lt (by omega)]
      simp
  obtain ⟨a,cap,rfl,hcap,hVL⟩:=hform
  clear hown hown' hgrow
  go_wp2
  go_ret
  exact ⟨_,_,rfl,hcap,hVL,hb2⟩
theorem VL.zero {w0 w:World} {B g n i:Nat} {V:Nat→PV} {Z:Nat→Nat} (h:VL w0 B w (some ⟨g,0,none⟩) n (fun j=>if j < i then { V j with obj:=0 } else V j) Z) (hi:i < n) :
  VL w0 B (((w.setCell ⟨g,i * 13 + 1,none⟩ (.bool false)).setCell ⟨g,i * 13 + 1 + 1,none⟩ (.slice none 0 0)).setCell ⟨g,i * 13 + 1 + 2,none⟩ (.slice none 0 0)) (some ⟨g,0,none⟩) n (fun j=>if j < i + 1 then { V j with obj:=0 } else V j) Z∧Off g w (((w.setCell ⟨g,i * 13 + 1,none⟩ (.bool false)).setCell ⟨g,i * 13 + 1 + 1,none⟩ (.slice none 0 0)).setCell ⟨g,i * 13 + 1 + 2,none⟩ (.slice none 0 0))∧B≤g ∧
   (∃ u0 u1 u2,w.cell? ⟨g,i * 13 + 1,none⟩ = some u0∧w.cell? ⟨g,i * 13 + 1 + 1,none⟩ = some u1∧w.cell? ⟨g,i * 13 + 1 + 2,none⟩ = some u2)∧w.frozen? ⟨g,i * 13 + 1,none⟩ = false∧w.frozen? ⟨g,i * 13 + 1 + 1,none⟩ = false∧w.frozen? ⟨g,i * 13 + 1 + 2,none⟩ = false:=by
 rcases h with h | ⟨g',cur,e,h1,h2,h3,h4⟩
 ·omega
 ·cases e
  have O:Off g w (((w.setCell ⟨g,i * 13 + 1,none⟩ (.bool false)).setCell ⟨g,i * 13 + 1 + 1,none⟩ (.slice none 0 0)).setCell ⟨g,i * 13 + 1 + 2,none⟩ (.slice none 0 0)):=(((Off.refl _ _).set (i * 13 + 1) _).set (i * 13 + 1 + 1) _).set (i * 13 + 1 + 2) _
  obtain ⟨u0,c0,_⟩:=(h4 i hi).cell (r:=1) (by decide)
  obtain ⟨u1,c1,_⟩:=(h4 i hi).cell (r:=2) (by decide)
  obtain ⟨u2,c2,_⟩:=(h4 i hi).cell (r:=3) (by decide)
  refine ⟨.inr ⟨g,_,rfl,h1,heap_setCell_same _ g _ _ _ _ (heap_setCell_same _ g _ _ _ _ (heap_setCell_same w g _ cur _ _ h2)),by simpa using h3,fun j hj=>?_⟩,O,h1,⟨u0,u1,u2,c0,c1,c2⟩,frozen_of_row w g _ cur _ h2,frozen_of_row w g _ cur _ h2,frozen_of_row w g _ cur _ h2⟩
  have hcell:∀ k,k ≠ i * 13 + 1→k ≠ i * 13 + 2→k ≠ i * 13 + 3→(((w.setCell ⟨g,i * 13 + 1,none⟩ (.bool false)).setCell ⟨g,i * 13 + 1 + 1,none⟩ (.slice none 0 0)).setCell ⟨g,i * 13 + 1 + 2,none⟩ (.slice none 0 0)).cell? ⟨g,k,none⟩ = w.cell? ⟨g,k,none⟩:=fun k k1 k2 k3=>by
   rw [World.cell?_setCell_other _ _ _ _ (by simp <;> omega),World.cell?_setCell_other _ _ _ _ (by simp <;> omega),World.cell?_setCell_other _ _ _ _ (by simp <;> omega)]
  by_cases e:j = i
  ·subst e
   have h5:=h4 j hj
   simp only [Nat.lt_irrefl,if_false] at h5
   simp only [Nat.lt_succ_self,if_true]
   obtain ⟨pO,aO,nO,cO,dO,mO,lO,pl,al,nl,cl,dl,ml,ll,ph,ah,nh,ch,dh,mh,lh,hB,hO,hl,hh,s1,s2,s3,s4,s5⟩:=h5
   refine ⟨false,none,0,0,none,0,0,pl,al,nl,cl,dl,ml,ll,ph,ah,nh,ch,dh,mh,lh,fun r u hu=>?_,(tr_o14 w0).up s1,hl,hh,s1,(szw 0 (by decide)).le s1,s3,s4,s5⟩
   match r,hu with
   | 0,hu=>rw [hcell _ (by omega) (by omega) (by omega)];exact hB 0 u hu
   | 1,hu=>simp at hu;subst hu;rw [World.cell?_setCell_other _ _ _ _ (by simp),World.cell?_setCell_other _ _ _ _ (by simp),World.cell?_setCell_same _ _ _ c0]
   | 2,hu=>simp at hu;subst hu;rw [World.cell?_setCell_other _ _ _ _ (by simp)];exact World.cell?_setCell_same _ _ _ ((World.cell?_setCell_other _ _ _ _ (by simp)).trans c1)
   | 3,hu=>simp at hu;subst hu;exact World.cell?_setCell_same _ _ _ ((World.cell?_setCell_other _ _ _ _ (by simp)).trans ((World.cell?_setCell_other _ _ _ _ (by simp)).trans c2))
   | n + 4,hu=>rw [hcell _ (by omega) (by omega) (by omega)];exact hB (n + 4) u hu
  ·have h5:=h4 j hj
   have e2:(if j < i + 1 then { V j with obj:=0 } else V j) = (if j < i then { V j with obj:=0 } else V j):=by
    by_cases h6:j < i
    ·rw [if_pos h6,if_pos (by omega)]
    ·rw [if_neg h6,if_neg (by omega)]
   simp only [e2]
   exact h5.move fun r hr=>hcell _ (by omega) (by omega) (by omega)
theorem set_five {w:World} {R:Nat} {t:TypeId} {v0 v1 v2 v3 v4 v5 v6 a b c d e:Value} (h:Rw t w R #[v0,v1,v2,v3,v4,v5,v6]) :
  BoxC (((((w.setCell ⟨R,0,none⟩ a).setCell ⟨R,2,none⟩ b).setCell ⟨R,3,none⟩ c).setCell ⟨R,4,none⟩ d).setCell ⟨R,5,none⟩ e) R [a,v1,b,c,d,e,v6]∧Off R w (((((w.setCell ⟨R,0,none⟩ a).setCell ⟨R,2,none⟩ b).setCell ⟨R,3,none⟩ c).setCell ⟨R,4,none⟩ d).setCell ⟨R,5,none⟩ e):=by
 have r1:Rw t (w.setCell ⟨R,0,none⟩ a) R #[a,v1,v2,v3,v4,v5,v6]:=by unfold Rw;simpa using heap_setCell_same w R 0 _ t a h
 have r2:Rw t ((w.setCell ⟨R,0,none⟩ a).setCell ⟨R,2,none⟩ b) R #[a,v1,b,v3,v4,v5,v6]:=by unfold Rw;simpa using heap_setCell_same _ R 2 _ t b r1
 have r3:Rw t (((w.setCell ⟨R,0,none⟩ a).setCell ⟨R,2,none⟩ b).setCell ⟨R,3,none⟩ c) R #[a,v1,b,c,v4,v5,v6]:=by unfold Rw;simpa using heap_setCell_same _ R 3 _ t c r2
 have r4:Rw t ((((w.setCell ⟨R,0,none⟩ a).setCell ⟨R,2,none⟩ b).setCell ⟨R,3,none⟩ c).setCell ⟨R,4,none⟩ d) R #[a,v1,b,c,d,v5,v6]:=by unfold Rw;simpa using heap_setCell_same _ R 4 _ t d r3
 have r5:Rw t (((((w.setCell ⟨R,0,none⟩ a).setCell ⟨R,2,none⟩ b).setCell ⟨R,3,none⟩ c).setCell ⟨R,4,none⟩ d).setCell ⟨R,5,none⟩ e) R #[a,v1,b,c,d,e,v6]:=by unfold Rw;simpa using heap_setCell_same _ R 5 _ t e r4
 refine ⟨fun i u hu=>?_,(((((Off.refl _ _).set 0 _).set 2 _).set 3 _).set 4 _).set 5 _⟩
 rw [r5.cell i]
 simpa using hu
def Prob.wob (P:Prob) (ga:Option Addr) (gc:Nat):Prob:={ P with mx:=false,p:=false,a:=none,na:=0,ca:=0,d:=none,nd:=0,cd:=0,va:=ga,vc:=gc,k:=0,V:=fun j=>{ P.V j with obj:=0 } }
set_option maxRecDepth 100000 in
set_option maxHeartbeats 16000000 in
theorem wobQ (P:Prob) (w:World) (hP:PQ w P) (hK:P.K≤1048576) :
  Calls Tryz.prog 39 #[P.val] w fun e w'=>∃ ga gc,e = .returned (P.wob ga gc).val∧PQ w' (P.wob ga gc)∧Below w.heap.size w w':=by
 have hall:=hP.all
 have hvn2:P.vn≤1048576:=by have:=tot_len P.ZV P.vn;omega
 unfold Prob.val
 have Rp:=Rw.new 32 w #[.bool P.mx,.string P.nm,.bool P.p,.slice P.a P.na P.ca,.slice P.d P.nd P.cd,.slice P.va P.vn P.vc,.slice P.ra P.rn P.rc]
 have hz0:=bel_d0 w (.cells #[.bool P.mx,.string P.nm,.bool P.p,.slice P.a P.na P.ca,.slice P.d P.nd P.cd,.slice P.va P.vn P.vc,.slice P.ra P.rn P.rc] 32)
 have hs0:(w.alloc (.cells #[.bool P.mx,.string P.nm,.bool P.p,.slice P.a P.na P.ca,.slice P.d P.nd P.cd,.slice P.va P.vn P.vc,.slice P.ra P.rn P.rc] 32)).heap.size = w.heap.size + 1:=by simp
 have Rr:=Rw.new 32 (w.alloc (.cells #[.bool P.mx,.string P.nm,.bool P.p,.slice P.a P.na P.ca,.slice P.d P.nd P.cd,.slice P.va P.vn P.vc,.slice P.ra P.rn P.rc] 32)) #[.bool false,.string ⟨#[]⟩,.bool false,.slice none 0 0,.slice none 0 0,.slice none 0 0,.slice none 0 0]
 have hz1:=bel_d0 (w.alloc (.cells #[.bool P.mx,.string P.nm,.bool P.p,.slice P.a P.na P.ca,.slice P.d P.nd P.cd,.slice P.va P.vn P.vc,.slice P.ra P.rn P.rc] 32)) (.cells #[.bool false,.string ⟨#[]⟩,.bool false,.slice none 0 0,.slice none 0 0,.slice none 0 0,.slice none 0 0] 32)
 have hs1:((w.alloc (.cells #[.bool P.mx,.string P.nm,.bool P.p,.slice P.a P.na P.ca,.slice P.d P.nd P.cd,.slice P.va P.vn P.vc,.slice P.ra P.rn P.rc] 32)).alloc (.cells #[.bool false,.string ⟨#[]⟩,.bool false,.slice none 0 0,.slice none 0 0,.slice none 0 0,.slice none 0 0] 32)).heap.size = w.heap.size + 2:=by simp
 rw [hs0] at Rr
 replace Rp:=Rp.below hz1
 have hb0:=bel_tr hz0 hz1
 have p5:=(Rp.cell 5).trans (show _ = some (.slice P.va P.vn P.vc) from rfl)
 clear hz0 hz1 hs0
 go_enter Tryz.func39,Tryz.ntmps39
 go_wp2_with fail
 clear p5
 generalize (w.alloc (.cells #[.bool P.mx,.string P.nm,.bool P.p,.slice P.a P.na P.ca,.slice P.d P.nd P.cd,.slice P.va P.vn P.vc,.slice P.ra P.rn P.rc] 32)).alloc (.cells #[.bool false,.string ⟨#[]⟩,.bool false,.slice none 0 0,.slice none 0 0,.slice none 0 0,.slice none 0 0] 32) = W0 at *
 refine (cloneV w W0 hP.v hb0 (by omega)).mono ?_
 rintro e w1 ⟨ga,gc,rfl,hgc,VC,h1⟩
 replace Rp:=Rp.below h1
 replace Rr:=Rr.below h1
 have hb1:=bel_tr hb0 h1
 have hsw1:=h1.size
 obtain ⟨Bx,O⟩:=set_five (a:=.bool false) (b:=.bool false) (c:=.slice none 0 0) (d:=.slice none 0 0) (e:=.slice ga P.vn gc) Rp
 have hVg:VL w W0.heap.size (((((w1.setCell ⟨w.heap.size,0,none⟩ (.bool false)).setCell ⟨w.heap.size,2,none⟩ (.bool false)).setCell ⟨w.heap.size,3,none⟩ (.slice none 0 0)).setCell ⟨w.heap.size,4,none⟩ (.slice none 0 0)).setCell ⟨w.heap.size,5,none⟩ (.slice ga P.vn gc)) ga P.vn P.V P.ZV:=by
  rcases VC with h | ⟨g,cur,rfl,k1,k2,k3,k4⟩
  ·exact .inl h
  ·exact .inr ⟨g,cur,rfl,k1,(O.block g (by omega)).trans k2,k3,fun j hj=>(k4 j hj).move fun r _=>World.cell?_of_block (O.block g (by omega))⟩
 have Rr2:=Rr.off O (by omega)
 have hb2:Below w.heap.size w (((((w1.setCell ⟨w.heap.size,0,none⟩ (.bool false)).setCell ⟨w.heap.size,2,none⟩ (.bool false)).setCell ⟨w.heap.size,3,none⟩ (.slice none 0 0)).setCell ⟨w.heap.size,4,none⟩ (.slice none 0 0)).setCell ⟨w.heap.size,5,none⟩ (.slice ga P.vn gc)):=hb1.trans (O.below (Nat.le_refl _))
 have y0:=(Rp.cell 0).trans (show _ = some (.bool P.mx) from rfl)
 have y2:=(Rp.cell 2).trans (show _ = some (.bool P.p) from rfl)
 have y3:=(Rp.cell 3).trans (show _ = some (.slice P.a P.na P.ca) from rfl)
 have y4:=(Rp.cell 4).trans (show _ = some (.slice P.d P.nd P.cd) from rfl)
 have y5:=(Rp.cell 5).trans (show _ = some (.slice P.va P.vn P.vc) from rfl)
 have z0:=Rp.frozen 0
 have z2:=Rp.frozen 2
 have z3:=Rp.frozen 3
 have z4:=Rp.frozen 4
 have z5:=Rp.frozen 5
 have x5:=Bx 5 _ rfl
 clear h1 Rr VC hb1
 go_wp2
 clear y0 y2 y3 y4 y5 z0 z2 z3 z4 z5 x5 Rp O
 generalize ((((w1.setCell ⟨w.heap.size,0,none⟩ (.bool false)).setCell ⟨w.heap.size,2,none⟩ (.bool false)).setCell ⟨w.heap.size,3,none⟩ (.slice none 0 0)).setCell ⟨w.heap.size,4,none⟩ (.slice none 0 0)).setCell ⟨w.heap.size,5,none⟩ (.slice ga P.vn gc) = W2 at *
 go_loopw [14] (fun s wr=>∃ (i:Nat),i≤P.vn∧s = .int .i64 i∧VL w W0.heap.size wr ga P.vn (fun j=>if j < i then { P.V j with obj:=0 } else P.V j) P.ZV∧BoxC wr w.heap.size (#[.bool false,.string P.nm,.bool false,.slice none 0 0,.slice none 0 0,.slice ga P.vn gc,.slice P.ra P.rn P.rc]).toList∧Rw 32 wr (w.heap.size + 1) #[.bool false,.string ⟨#[]⟩,.bool false,.slice none 0 0,.slice none 0 0,.slice none 0 0,.slice none 0 0]∧Below w.heap.size w wr) (fun t _=>P.vn - (intOf t).toNat)
 case atStart=>exact ⟨0,Nat.zero_le _,rfl,by simpa using hVg,Bx,Rr2,hb2⟩
 case round =>
  clear hVg Bx Rr2 hb2
  obtain ⟨i,hi,rfl,VV,Bx,Rr,hbel⟩:=hrel
  by_cases hlt:i < P.vn
  ·have hkI:(i:Int) < (P.vn:Int):=by omega
   have hkI2:(i:Int) * 13 = ((i * 13:Nat):Int):=by omega
   obtain ⟨g,rfl⟩:∃ g,ga = some ⟨g,0,none⟩:=by
    rcases VV with h | ⟨g,cur,e,_⟩
    ·omega
    ·exact ⟨g,e⟩
   obtain ⟨VN,O,hg,⟨u0,u1,u2,c0,c1,c2⟩,f0,f1,f2⟩:=VV.zero hlt
   have x5:=Bx 5 _ rfl
   have Bx2:BoxC _ w.heap.size _:=fun a u hu=>(World.cell?_of_block (O.block w.heap.size (by omega))).trans (Bx a u hu)
   have Rr2:=Rr.off O (by omega)
   have hbel2:Below w.heap.size w _:=hbel.trans (O.below (by omega))
   clear VV O Bx Rr hbel
   go_wp2
   go_roundw
   case rel=>first | exact ⟨i + 1,by omega,by go_num,VN,Bx2,Rr2,hbel2⟩ | ((repeat apply Exists.intro);refine ⟨?_,rfl⟩;exact ⟨i + 1,by omega,by go_num,VN,Bx2,Rr2,hbel2⟩)
   case measure=>simp [intOf];omega
  ·have hkI:¬ (i:Int) < (P.vn:Int):=by omega
   obtain rfl:i = P.vn:=by omega
   have p0:=Bx 0 _ rfl;have p1:=Bx 1 _ rfl;have p2:=Bx 2 _ rfl;have p3:=Bx 3 _ rfl;have p4:=Bx 4 _ rfl;have p5:=Bx 5 _ rfl;have p6:=Bx 6 _ rfl
   go_wp2_with (refine Rr.put #[.bool false,.string P.nm,.bool false,.slice none 0 0,.slice none 0 0,.slice ga P.vn gc,.slice P.ra P.rn P.rc] rfl _ _ rfl rfl rfl prbI14 rfl (by simp [Value.oneCell']) ?_)
   intro wE RE O
   have hw:=hbel.trans (O.below (by omega))
   have HL:LV wE ga P.vn (fun j=>{ P.V j with obj:=0 }) P.ZV:=by
    rcases VV with h | ⟨g,cur,rfl,k1,k2,k3,k4⟩
    ·exact .inl h
    ·refine .inr ⟨g,0,rfl,fun j hj=>?_⟩
     have h5:=k4 j hj
     simp only [hj,if_true] at h5
     rw [Nat.zero_add]
     exact (h5.move (w':=wE) (g':=g) (o':=j * 13) (fun r _=>World.cell?_of_block (O.block g (by omega)))).var hw
   clear p0 p1 p2 p3 p4 p5 p6 Bx VV Rr O
   go_wp2
   refine bodyPost_ret (v:=.agg #[.bool false,.string P.nm,.bool false,.slice none 0 0,.slice none 0 0,.slice ga P.vn gc,.slice P.ra P.rn P.rc]) (Rw.ret1 Tryz.results39 _ RE rfl Tryz.underlying32 prbI14) rfl ?_
   exact ⟨ga,gc,rfl,⟨(tr_o14 _).up hP.s1,hP.s1,(szw 0 (by decide)).le hP.s1,HL,hP.r.below hw,hP.all,hgc,hP.rc⟩,hw⟩
end Go.Proofs.YtjapbhdoemfgkaaGreatDoor
