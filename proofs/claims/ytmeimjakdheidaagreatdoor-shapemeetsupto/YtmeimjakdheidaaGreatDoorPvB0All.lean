import Derived.Test.YtmeimjakdheidaaGreatDoorOpenPAll
import Derived.Test.YtmeimjakdheidaaGreatDoorPqBAll
import Derived.Laws.OwnMore
import Derived.Test.YtmeimjakdheidaaGreatDoorShK
namespace Go.Proofs.YtmeimjakdheidaaGreatDoor
open Go.RowKit
def EX (w:World) (B g:Nat) (p:Bool) (a:Option Addr) (na ca:Nat) (d:Option Addr) (nd cd:Nat) (r:Rat) (S:Nat):Prop :=
 GX w B g p a na ca d nd cd r S∨∀ w',Below B w w'→TR w' p a na ca d nd cd r S
structure RV (w:World) (B g N n:Nat) (X:Nat→Rat) (S:Nat):Prop where
 blk:∃ cur,w.heap[g]? = some (.cells cur 27 (0,0))∧cur.size=N*3
 lo:B≤g
 el:∀ i,i<n→∃ p a na ca d nd cd,w.cell? ⟨g,i*3,none⟩=some (.bool p)∧w.cell? ⟨g,i*3+1,none⟩=some (.slice a na ca)∧w.cell? ⟨g,i*3+2,none⟩=some (.slice d nd cd)∧EX w B g p a na ca d nd cd (X i) S
theorem RV.there {w:World} {B g N n:Nat} {X:Nat→Rat} {S:Nat} (h:RV w B g N n X S) {j:Nat} (hj:j<N*3):∃ u,w.cell? ⟨g,j,none⟩=some u:=by
 obtain ⟨cur,h1,h2⟩:=h.blk
 rw [cell_of_row w g j cur _ (0,0) h1]
 exact ⟨_,Array.getElem?_eq_getElem (by omega)⟩
theorem RV.fr {w:World} {B g N n:Nat} {X:Nat→Rat} {S:Nat} (h:RV w B g N n X S) (j:Nat):w.frozen? ⟨g,j,none⟩=false:=by
 obtain ⟨cur,h1,h2⟩:=h.blk
 exact frozen_of_row w g j cur _ h1
theorem RV.three {w:World} {B g N n:Nat} {X:Nat→Rat} {S:Nat} (h:RV w B g N n X S) {i:Nat} (hi:i<N):∃ u0 u1 u2,w.cell? ⟨g,i*3,none⟩=some u0∧w.cell? ⟨g,i*3+1,none⟩=some u1∧w.cell? ⟨g,i*3+2,none⟩=some u2∧w.frozen? ⟨g,i*3,none⟩=false∧w.frozen? ⟨g,i*3+1,none⟩=false∧w.frozen? ⟨g,i*3+2,none⟩=false:=by
 obtain ⟨u0,h0⟩:=h.there (j:=i*3) (by omega)
 obtain ⟨u1,h1⟩:=h.there (j:=i*3+1) (by omega)
 obtain ⟨u2,h2⟩:=h.there (j:=i*3+2) (by omega)
 exact ⟨u0,u1,u2,h0,h1,h2,h.fr _,h.fr _,h.fr _⟩
theorem xC (w:World) {ops:Array Oper} {rest:List Oper} {o:Oper} {a:Act} {Q:Exit→Act→World→Prop} (hg:o.guard=none) (l c:Operand) (hop:o.op=Op.makeSlice 32 l c)
 (n:Nat) (hl:a.eval l = .int .i64 (n:Int)) (hc:a.eval c = .int .i64 (n:Int)) (hn:n≤100000000) (S:Nat)
 (h:∀ w',RV w' w.heap.size w.heap.size n 0 (fun _=>0) S→Below w.heap.size w w'→w'.heap.size=w.heap.size+1→wpList Tryz.prog ops Q rest (a.put o.dst (.slice (some ⟨w.heap.size,0,none⟩) n n)) w'):wpList Tryz.prog ops Q (o::rest) a w:=by
 obtain ⟨i0,z,hi,hz,hs3,hb56,hz3⟩:=info3
 have hr:=run_make (P:=Tryz.prog) w 32 27 i0 z Tryz.underlying32 hi hz .i64 .i64 (n:Int) (n:Int) (by omega) (Int.le_refl _) (by rw [hb56];omega) (by omega)
 simp only [Int.toNat_natCast] at hr
 refine wpList_plain hg fun K hK'=>?_
 unfold Oper.wp execOp
 simp only [hop,Sem.run_bind,Sem.run_pure,Result.andThen_ok,hl,hc,hr]
 refine hK' _ _ (h _ ⟨⟨_,heap_alloc_new w _,by rw [size_madeCells,hs3]⟩,Nat.le_refl _,fun i hi=>by omega⟩ (aI w _) (by simp))
structure RX (w:World) (B g N n:Nat) (X:Nat→Rat) (S:Nat):Prop where
 blk:∃ cur,w.heap[g]? = some (.cells cur 27 (0,0))∧cur.size=N*3
 lo:B≤g
 el:∀ i,i<n→∃ p a na ca d nd cd,w.cell? ⟨g,i*3,none⟩=some (.bool p)∧w.cell? ⟨g,i*3+1,none⟩=some (.slice a na ca)∧w.cell? ⟨g,i*3+2,none⟩=some (.slice d nd cd)∧GR w 0 p a na ca d nd cd (X i) S
theorem RX.lt {w:World} {B g N n:Nat} {X:Nat→Rat} {S:Nat} (h:RX w B g N n X S):g<w.heap.size:=by
 obtain ⟨cur,h1,_⟩:=h.blk
 exact (Array.getElem?_eq_some_iff.1 h1).1
theorem RX.below {w w':World} {B g N n:Nat} {X:Nat→Rat} {S:Nat} (h:RX w B g N n X S) (hb:Below w.heap.size w w'):RX w' B g N n X S:=by
 have hg:=h.lt
 obtain ⟨cur,h1,h2⟩:=h.blk
 refine ⟨⟨cur,(hb.block g hg).trans h1,h2⟩,h.lo,fun i hi=>?_⟩
 obtain ⟨p,a,na,ca,d,nd,cd,e1,e2,e3,e4⟩:=h.el i hi
 exact ⟨p,a,na,ca,d,nd,cd,aG hb e1,aG hb e2,aG hb e3,e4.below hb⟩
theorem RX.congr {w:World} {B g N n:Nat} {X Y:Nat→Rat} {S:Nat} (h:RX w B g N n X S) (e:∀ i,i<n→X i=Y i):RX w B g N n Y S :=
 ⟨h.blk,h.lo,fun i hi=>by rw [← e i hi];exact h.el i hi⟩
theorem RX.three {w:World} {B g N n:Nat} {X:Nat→Rat} {S:Nat} (h:RX w B g N n X S) {i:Nat} (hi:i<N):∃ u0 u1 u2,w.cell? ⟨g,i*3,none⟩=some u0∧w.cell? ⟨g,i*3+1,none⟩=some u1∧w.cell? ⟨g,i*3+2,none⟩=some u2∧w.frozen? ⟨g,i*3,none⟩=false∧w.frozen? ⟨g,i*3+1,none⟩=false∧w.frozen? ⟨g,i*3+2,none⟩=false :=
 (RV.mk (w:=w) (B:=B) (g:=g) (N:=N) (n:=0) (X:=X) (S:=S) h.blk h.lo (fun i hi=>by omega)).three hi
theorem RX.put {w:World} {B g N n m:Nat} {X Y:Nat→Rat} {S:Nat} (h:RX w B g N n X S) {i:Nat} (hi:i<N) {p:Bool} {a:Option Addr} {na ca:Nat} {d:Option Addr} {nd cd:Nat} {r:Rat} (he:GR w 0 p a na ca d nd cd r S)
 (hm:∀ q,q<m→q=i∧Y q=r∨q≠i∧q<n∧Y q=X q) :
 RX (((w.setCell ⟨g,i*3,none⟩ (.bool p)).setCell ⟨g,i*3+1,none⟩ (.slice a na ca)).setCell ⟨g,i*3+2,none⟩ (.slice d nd cd)) B g N m Y S∧Off g w (((w.setCell ⟨g,i*3,none⟩ (.bool p)).setCell ⟨g,i*3+1,none⟩ (.slice a na ca)).setCell ⟨g,i*3+2,none⟩ (.slice d nd cd)):=by
 have O:Off g w (((w.setCell ⟨g,i*3,none⟩ (.bool p)).setCell ⟨g,i*3+1,none⟩ (.slice a na ca)).setCell ⟨g,i*3+2,none⟩ (.slice d nd cd)):=(((Off.refl _ _).set (i*3) _).set (i*3+1) _).set (i*3+2) _
 obtain ⟨u0,u1,u2,c0,c1,c2,_⟩:=h.three hi
 obtain ⟨cur,h1,h2⟩:=h.blk
 have nw:NoW w (some g):=fun k e=>by cases e;exact ⟨cur,27,h1,by decide⟩
 refine ⟨⟨⟨_,heap_setCell_same _ g _ _ _ _ (heap_setCell_same _ g _ _ _ _ (heap_setCell_same w g _ cur _ _ h1)),by simpa using h2⟩,h.lo,fun q hq=>?_⟩,O⟩
 rcases hm q hq with ⟨rfl,e⟩|⟨hne,hlt,e⟩
 ·refine ⟨p,a,na,ca,d,nd,cd,?_,?_,?_,by rw [e];exact he.keep nw O.grown⟩
  ·rw [World.cell?_setCell_other _ _ _ _ (by simp),World.cell?_setCell_other _ _ _ _ (by simp),World.cell?_setCell_same _ _ _ c0]
  ·rw [World.cell?_setCell_other _ _ _ _ (by simp),World.cell?_setCell_same _ _ _ ((World.cell?_setCell_other _ _ _ _ (by simp)).trans c1)]
  ·rw [World.cell?_setCell_same _ _ _ ((World.cell?_setCell_other _ _ _ _ (by simp)).trans ((World.cell?_setCell_other _ _ _ _ (by simp)).trans c2))]
 ·obtain ⟨p',a',na',ca',d',nd',cd',e1,e2,e3,e4⟩:=h.el q hlt
  refine ⟨p',a',na',ca',d',nd',cd',?_,?_,?_,by rw [e];exact e4.keep nw O.grown⟩
  ·rw [World.cell?_setCell_other _ _ _ _ (by simp <;> omega),World.cell?_setCell_other _ _ _ _ (by simp <;> omega),World.cell?_setCell_other _ _ _ _ (by simp <;> omega)];exact e1
  ·rw [World.cell?_setCell_other _ _ _ _ (by simp <;> omega),World.cell?_setCell_other _ _ _ _ (by simp <;> omega),World.cell?_setCell_other _ _ _ _ (by simp <;> omega)];exact e2
  ·rw [World.cell?_setCell_other _ _ _ _ (by simp <;> omega),World.cell?_setCell_other _ _ _ _ (by simp <;> omega),World.cell?_setCell_other _ _ _ _ (by simp <;> omega)];exact e3
theorem RX.rl {w:World} {B g N:Nat} {X:Nat→Rat} {S:Nat} (h:RX w B g N N X S) (hN:N≤100000000):RL w 0 (.slice (some ⟨g,0,none⟩) N N) N X S:=by
 obtain ⟨cur,h1,h2⟩:=h.blk
 have hc:∀ k u,w.cell? ⟨g,k,none⟩=some u→cur.toList[k]? = some u:=fun k u hu=>by
  rw [cell_of_row w g k cur _ (0,0) h1] at hu
  simpa using hu
 refine ⟨cur.toList,⟨by simpa using h2,.inr ⟨g,N,cur,rfl,Nat.zero_le _,h1,Nat.le_refl _,by unfold maxLen;omega,h2,by rw [← h2,← Array.length_toList,List.take_length]⟩⟩,fun i hi=>?_⟩
 obtain ⟨p,a,na,ca,d,nd,cd,e1,e2,e3,e4⟩:=h.el i hi
 exact ⟨p,a,na,ca,d,nd,cd,hc _ _ e1,hc _ _ e2,hc _ _ e3,e4⟩
theorem TM.at {w:World} {B:Nat} {ta:Option Addr} {m tc:Nat} {l:List PT} {S:Nat} (h:TM w B (.slice ta m tc) l S) {i:Nat} (hi:i<l.length):∃ g p a na ca d nd cd,ta=some ⟨g,0,none⟩∧w.cell? ⟨g,i*4,none⟩=some (.int .i64 (l.getD i ⟨0,0⟩).var)∧w.cell? ⟨g,i*4+1,none⟩=some (.bool p)∧w.cell? ⟨g,i*4+2,none⟩=some (.slice a na ca)∧w.cell? ⟨g,i*4+3,none⟩=some (.slice d nd cd)∧GR w 0 p a na ca d nd cd (l.getD i ⟨0,0⟩).coef S∧l.getD i ⟨0,0⟩ ∈ l:=by
 obtain ⟨E,h1,h2⟩:=h
 have hl:l[i]? = some (l.getD i ⟨0,0⟩):=by rw [List.getD_eq_getElem?_getD,List.getElem?_eq_getElem hi];rfl
 rcases h1.cell with h0|⟨g,e,hc⟩
 ·omega
 obtain ⟨p,a,na,ca,d,nd,cd,e2,g2⟩:=h2 i _ hl
 have hk:=hc i hi
 rw [e2] at hk
 exact ⟨g,p,a,na,ca,d,nd,cd,e,by simpa using hk 0 _ rfl,hk 1 _ rfl,hk 2 _ rfl,hk 3 _ rfl,g2,List.mem_of_getElem? hl⟩
set_option maxRecDepth 100000 in
set_option maxHeartbeats 8000000 in
theorem xE {R B n S:Nat} {a0' a1' a2' a3' a4' a5' a7':Value} {ta:Option Addr} {tm tc:Nat} {l:List PT} (w:World) (hr:Rw 61 w R #[a0',a1',a2',a3',a4',a5',.int .i64 (n:Nat),a7']) (hl:TM w B (.slice ta tm tc) l S) (hin:∀ t ∈ l,0≤t.var∧t.var<(n:Int)) (hn:n≤100000000) (htm:tm≤100000000) (hS7:S≤7000000) (hS1:1≤S) (hT:TB w) :
 Calls Tryz.prog 22 #[.pointer (some ⟨R,0,none⟩),.slice ta tm tc] w fun e w'=>∃ g,e = .returned (.slice (some ⟨g,0,none⟩) n n)∧RX w' w.heap.size g n n (bV l) S∧Below w.heap.size w w':=by
 have HTM:Hid (tm=l.length):=hl.len
 have HIN:Hid (∀ t ∈ l,0≤t.var∧t.var<(n:Int)):=hin
 have y6:=(hr.cell 6).trans (show _=some (.int .i64 (n:Nat)) from rfl)
 clear hin
 go_enter Tryz.func22,Tryz.ntmps22
 go_wp2_with (refine xC w rfl _ _ rfl n rfl rfl hn S ?_)
 intro w1 V0 hb1 hs1
 clear y6
 have X0:RX w1 w.heap.size w.heap.size n 0 (fun _=>0) S:=⟨V0.blk,V0.lo,fun i hi=>by omega⟩
 clear V0
 go_wp2_with fail
 go_loopw [16] (fun s wr=>∃ (j:Nat),j≤n∧s = .int .i64 j∧RX wr w.heap.size w.heap.size n j (fun _=>0) S∧Below w.heap.size w wr) (fun t _=>n-(intOf t).toNat)
 case atStart=>exact ⟨0,Nat.zero_le _,rfl,X0,hb1⟩
 case round =>
  clear X0 hb1 hs1
  obtain ⟨j,hj,rfl,V,hb⟩:=hrel
  by_cases hlt:j<n
  ·have hkI:(j:Int)<(n:Int):=by omega
   have hkI3:(j:Int)*3=((j*3:Nat):Int):=by omega
   go_wp2_with fail
   refine (ofQ 0 wr (by decide) (by decide)).mono ?_
   rintro e w2 ⟨f1,c1,n1,k1,d1,m1,l1,rfl,G1,hx⟩
   have V2:=V.below hx
   have hb2:=aF hb hx
   obtain ⟨u0,u1,u2,c0,c1',c2,c3,c4,c5⟩:=V2.three hlt
   obtain ⟨V3,O⟩:=V2.put (m:=j+1) (Y:=fun _=>0) hlt ((G1.mono (Nat.zero_le _)).le hS1) (fun q hq=>by
    rcases (by omega:q=j∨q<j) with rfl|h
    ·exact .inl ⟨rfl,rfl⟩
    ·exact .inr ⟨by omega,h,rfl⟩)
   have hb3:Below w.heap.size w _:=hb2.trans (O.below (Nat.le_refl _))
   clear V V2 hb hb2 hx G1 O
   go_wp2
   clear c0 c1' c2 c3 c4 c5
   go_roundw
   case rel=>first|exact ⟨j+1,by omega,by go_num,V3,hb3⟩|((repeat apply Exists.intro);refine ⟨?_,rfl⟩;exact ⟨j+1,by omega,by go_num,V3,hb3⟩)
   case measure=>simp [intOf];omega
  ·obtain rfl:j=n:=by omega
   have hkI:¬ (j:Int)<(j:Int):=by omega
   go_wp2_with fail
   replace V:=V.congr (Y:=uK l 0) (fun _ _=>rfl)
   obtain ⟨wv,ewv⟩:∃ x,x=wr:=⟨_,rfl⟩
   subst ewv
   obtain ⟨n,en⟩:∃ n,n=j:=⟨_,rfl⟩
   subst en
   go_loopw [26] (fun s wr=>∃ (i:Nat),i≤tm∧s = .int .i64 i∧RX wr w.heap.size w.heap.size n n (uK l i) S∧Below w.heap.size w wr) (fun t _=>tm-(intOf t).toNat)
   case atStart=>exact ⟨0,Nat.zero_le _,rfl,V,hb⟩
   case round =>
    clear V hb
    obtain ⟨i,hi,rfl,V,hb⟩:=hrel
    by_cases hlt:i<tm
    ·have hkI:(i:Int)<(tm:Int):=by omega
     have hkI4:(i:Int)*4=((i*4:Nat):Int):=by omega
     obtain ⟨tg,p,a,na,ca,d,nd,cd,hta,r0,r1,r2,r3,GC,hmem⟩:=(hl.below hb).at (i:=i) (by rw [← HTM.out];exact hlt)
     have hvi:=HIN.out _ hmem
     obtain ⟨v,ev⟩:∃ v:Nat,v=(l.getD i ⟨0,0⟩).var.toNat:=⟨_,rfl⟩
     have hvn:v<n:=by omega
     have hvI:(v:Int)<(n:Int):=by omega
     have hv0:¬ (v:Int)<0:=by omega
     have hkI3:(v:Int)*3=((v*3:Nat):Int):=by omega
     have HVV:Hid ((l.getD i ⟨0,0⟩).var=(v:Int)):=by show (l.getD i ⟨0,0⟩).var=(v:Int);omega
     rw [HVV.out] at r0
     have hta':ta=some ⟨tg,0,none⟩:=hta
     clear hta hmem ev hvi
     have BU:=aQ wr #[.int .i64 (v:Nat),.bool p,.slice a na ca,.slice d nd cd] 52
     have hz:=aI wr (.cells #[.int .i64 (v:Nat),.bool p,.slice a na ca,.slice d nd cd] 52)
     have hsW:(wr.alloc (.cells #[.int .i64 (v:Nat),.bool p,.slice a na ca,.slice d nd cd] 52)).heap.size=wr.heap.size+1:=by simp
     have hsw:=hb.size
     have VU:=V.below hz
     have HT2:=(hT.below hb).below hz
     replace GC:=GC.below hz
     have hb2:=aF hb hz
     go_wp2_with fail
     clear r0 r1 r2 r3 hz V hb
     generalize wr.alloc (.cells #[.int .i64 (v:Nat),.bool p,.slice a na ca,.slice d nd cd] 52)=W2 at *
     have HBX:∀ w',Below W2.heap.size W2 w'→(w'.cell? ⟨wr.heap.size,0,none⟩=some (.int .i64 (v:Nat))∧w'.cell? ⟨wr.heap.size,1,none⟩=some (.bool p)∧w'.cell? ⟨wr.heap.size,2,none⟩=some (.slice a na ca)∧w'.cell? ⟨wr.heap.size,3,none⟩=some (.slice d nd cd)):=fun w' h=>⟨aG h (BU 0 _ rfl),aG h (BU 1 _ rfl),aG h (BU 2 _ rfl),aG h (BU 3 _ rfl)⟩
     refine wp_region_noPanic (aS 7 HBX (by as_aux_lemma=>kernel_rfl) ?_)
     have hc0:Below W2.heap.size W2 W2.drew:=aK _
     generalize W2.drew=z0 at *
     refine wpAnyG.tT 0 (v:=.slice (some ⟨w.heap.size,0,none⟩) n n) (by decide) 7 (by as_aux_lemma=>kernel_rfl) (by rfl) ?y0 (HBX _ hc0) ?_
     case y0 =>
      rintro w' ⟨q0,q1,q2,q3⟩
      simp only [lgA,lgZ]
      go_simp
     simp only [lgA,lgZ,Act.put,lsA,lsZ,lsS]
     refine wpAnyG.tT 1 (v:=.pointer (some ⟨wr.heap.size,0,none⟩)) (by decide) 7 (by as_aux_lemma=>kernel_rfl) (by rfl) ?y1 (HBX _ hc0) ?_
     case y1 =>
      rintro w' ⟨q0,q1,q2,q3⟩
      simp only [lgA,lgZ,lgS]
      go_simp
     simp only [lgA,lgZ,lgS,Act.put,lsA,lsZ,lsS]
     refine wpAnyG.tT 2 (v:=.int .i64 (v:Nat)) (by decide) 7 (by as_aux_lemma=>kernel_rfl) (by rfl) ?y2 (HBX _ hc0) ?_
     case y2 =>
      rintro w' ⟨q0,q1,q2,q3⟩
      simp only [lgA,lgZ,lgS]
      go_simp
     simp only [lgA,lgZ,lgS,Act.put,lsA,lsZ,lsS]
     refine wpAnyG.tT 3 (v:=.pointer (some ⟨wr.heap.size,1,none⟩)) (by decide) 7 (by as_aux_lemma=>kernel_rfl) (by rfl) ?y3 (HBX _ hc0) ?_
     case y3 =>
      rintro w' ⟨q0,q1,q2,q3⟩
      simp only [lgA,lgZ,lgS]
      go_simp
     simp only [lgA,lgZ,lgS,Act.put,lsA,lsZ,lsS]
     refine wpAnyG.tT 4 (v:=.agg #[.bool p,.slice a na ca,.slice d nd cd]) (by decide) 7 (by as_aux_lemma=>kernel_rfl) (by rfl) ?y4 (HBX _ hc0) ?_
     case y4 =>
      rintro w' ⟨q0,q1,q2,q3⟩
      simp only [lgA,lgZ,lgS]
      go_simp
     simp only [lgA,lgZ,lgS,Act.put,lsA,lsZ,lsS]
     refine wpAnyG.one 5 (by as_aux_lemma=>kernel_rfl) (by decide) (by rfl) (fun K hK=>?_)
     simp only [lgA,lgZ,lgS]
     go_simp
     refine (lF z0 (GC.tr.below hc0) hS7 hS1 (HT2.below hc0)).mono ?_
     rintro e z1 ⟨f1,c1,n1,k1,d1,m1,l1,rfl,G1,hk1⟩
     have hc1:Below W2.heap.size W2 z1:=aF hc0 hk1
     dsimp only
     refine hK _ _ ⟨fun _=>HBX _ hc1,fun _=>trivial⟩ ?_
     clear hK K
     refine wpAnyG.tT 6 (v:=.pointer (some ⟨w.heap.size,v*3,none⟩)) (by decide) 7 (by as_aux_lemma=>kernel_rfl) (by rfl) ?y6 (HBX _ hc1) ?_
     case y6 =>
      rintro w' ⟨q0,q1,q2,q3⟩
      simp only [lgA,lgZ,lgS]
      go_simp
     simp only [lgA,lgZ,lgS,Act.put,lsA,lsZ,lsS]
     refine wpAnyG.one 7 (by as_aux_lemma=>kernel_rfl) (by decide) (by rfl) (fun K hK=>?_)
     simp only [lgA,lgZ,lgS]
     obtain ⟨u0,u1,u2,c0,c1',c2,c3,c4,c5⟩:=(VU.below hc1).three hvn
     obtain ⟨V2,O⟩:=(VU.below hc1).put (m:=n) (Y:=uK l (i+1)) hvn (G1.mono (Nat.zero_le _)) (fun q hq=>by
      show q=v∧(if (q:Int)=(l.getD i ⟨0,0⟩).var then (l.getD i ⟨0,0⟩).coef else uK l i q)=_∨_
      by_cases e:q=v
      ·exact .inl ⟨e,if_pos (by rw [e];exact HVV.out.symm)⟩
      ·exact .inr ⟨e,hq,if_neg (fun h=>e (by have:=HVV.out;omega))⟩)
     go_simp
     refine hK _ _ ⟨fun h=>absurd h (by decide),fun _=>trivial⟩ ?_
     clear c0 c1' c2 c3 c4 c5
     clear hK K
     refine wpAnyG.done (by as_aux_lemma=>kernel_rfl) (NoPanic.normal ?_)
     have hbN:Below w.heap.size w _:=(aF hb2 hc1).trans (O.below (Nat.le_refl _))
     clear HBX hc0 hc1 hk1 G1 VU BU HT2 GC O hb2
     try rw [← hta']
     clear hta'
     go_wp2
     go_roundw
     case rel=>first|exact ⟨i+1,by omega,by go_num,V2,hbN⟩|((repeat apply Exists.intro);refine ⟨?_,rfl⟩;exact ⟨i+1,by omega,by go_num,V2,hbN⟩)
     case measure=>simp [intOf];omega
    ·obtain rfl:i=tm:=by omega
     have hkI:¬ (i:Int)<(i:Int):=by omega
     have VF:RX wr w.heap.size w.heap.size n n (bV l) S:=V.congr (fun q _=>by unfold bV;rw [← HTM.out])
     go_wp2
     go_ret
     exact ⟨_,rfl,VF,hb⟩
end Go.Proofs.YtmeimjakdheidaaGreatDoor
