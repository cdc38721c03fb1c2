import Derived.Test.YtmeimjakdheidaaGreatDoorShV0All
import Derived.Test.YtmeimjakdheidaaGreatDoorPvB0All
import Derived.Test.YtmeimjakdheidaaGreatDoorShU
import Derived.Test.YtmeimjakdheidaaGreatDoorPqBAll
namespace Go.Proofs.YtmeimjakdheidaaGreatDoor
open Go.RowKit
def EY (w:World) (B:Nat) (p:Bool) (a:Option Addr) (na ca:Nat) (d:Option Addr) (nd cd:Nat) (r:Rat) (S:Nat):Prop :=
 GR w 0 p a na ca d nd cd r S∨∀ w',Below B w w'→TR w' p a na ca d nd cd r S
theorem EY.tr {w:World} {B:Nat} {p:Bool} {a:Option Addr} {na ca:Nat} {d:Option Addr} {nd cd:Nat} {r:Rat} {S:Nat} (h:EY w B p a na ca d nd cd r S):TR w p a na ca d nd cd r S:=by
 rcases h with h|h
 ·exact h.tr
 ·exact h w (Below.refl _ _)
theorem EY.off {w w':World} {B b:Nat} {p:Bool} {a:Option Addr} {na ca:Nat} {d:Option Addr} {nd cd:Nat} {r:Rat} {S:Nat} (h:EY w B p a na ca d nd cd r S) (o:Off b w w') (nw:NoW w (some b)) (hB:B≤b):EY w' B p a na ca d nd cd r S:=by
 rcases h with h|h
 ·exact .inl (h.keep nw o.grown)
 ·exact .inr fun w2 h2=>h w2 ((o.below hB).trans h2)
theorem EY.below {w w':World} {B:Nat} {p:Bool} {a:Option Addr} {na ca:Nat} {d:Option Addr} {nd cd:Nat} {r:Rat} {S:Nat} (h:EY w B p a na ca d nd cd r S) (hB:B≤w.heap.size) (hb:Below w.heap.size w w'):EY w' B p a na ca d nd cd r S:=by
 rcases h with h|h
 ·exact .inl (h.below hb)
 ·exact .inr fun w2 h2=>h w2 ((hb.mono hB).trans h2)
structure RY (w:World) (B g N:Nat) (X:Nat→Rat) (S:Nat):Prop where
 blk:∃ cur,w.heap[g]? = some (.cells cur 27 (0,0))∧cur.size=N*3
 lo:B≤g
 el:∀ i,i<N→∃ p a na ca d nd cd,w.cell? ⟨g,i*3,none⟩=some (.bool p)∧w.cell? ⟨g,i*3+1,none⟩=some (.slice a na ca)∧w.cell? ⟨g,i*3+2,none⟩=some (.slice d nd cd)∧EY w B p a na ca d nd cd (X i) S
theorem RY.lt {w:World} {B g N:Nat} {X:Nat→Rat} {S:Nat} (h:RY w B g N X S):g<w.heap.size:=by
 obtain ⟨cur,h1,_⟩:=h.blk
 exact (Array.getElem?_eq_some_iff.1 h1).1
theorem RY.noW {w:World} {B g N:Nat} {X:Nat→Rat} {S:Nat} (h:RY w B g N X S):NoW w (some g):=fun k e=>by
 obtain ⟨cur,h1,_⟩:=h.blk
 cases e
 exact ⟨cur,27,h1,by decide⟩
theorem RY.below {w w':World} {B g N:Nat} {X:Nat→Rat} {S:Nat} (h:RY w B g N X S) (hb:Below w.heap.size w w'):RY w' B g N X S:=by
 have hg:=h.lt
 have hlo:=h.lo
 obtain ⟨cur,h1,h2⟩:=h.blk
 refine ⟨⟨cur,(hb.block g hg).trans h1,h2⟩,h.lo,fun i hi=>?_⟩
 obtain ⟨p,a,na,ca,d,nd,cd,e1,e2,e3,e4⟩:=h.el i hi
 exact ⟨p,a,na,ca,d,nd,cd,aG hb e1,aG hb e2,aG hb e3,e4.below (by omega) hb⟩
theorem RY.off {w w':World} {B g N b:Nat} {X:Nat→Rat} {S:Nat} (h:RY w B g N X S) (o:Off b w w') (nw:NoW w (some b)) (hB:B≤b) (hne:g≠b):RY w' B g N X S:=by
 obtain ⟨cur,h1,h2⟩:=h.blk
 refine ⟨⟨cur,(o.block g hne).trans h1,h2⟩,h.lo,fun i hi=>?_⟩
 obtain ⟨p,a,na,ca,d,nd,cd,e1,e2,e3,e4⟩:=h.el i hi
 exact ⟨p,a,na,ca,d,nd,cd,(o.cell hne).trans e1,(o.cell hne).trans e2,(o.cell hne).trans e3,e4.off o nw hB⟩
theorem RY.congr {w:World} {B g N:Nat} {X Y:Nat→Rat} {S:Nat} (h:RY w B g N X S) (e:∀ i,i<N→X i=Y i):RY w B g N Y S :=
 ⟨h.blk,h.lo,fun i hi=>by rw [← e i hi];exact h.el i hi⟩
theorem RY.three {w:World} {B g N:Nat} {X:Nat→Rat} {S:Nat} (h:RY w B g N X S) {i:Nat} (hi:i<N):∃ u0 u1 u2,w.cell? ⟨g,i*3,none⟩=some u0∧w.cell? ⟨g,i*3+1,none⟩=some u1∧w.cell? ⟨g,i*3+2,none⟩=some u2∧w.frozen? ⟨g,i*3,none⟩=false∧w.frozen? ⟨g,i*3+1,none⟩=false∧w.frozen? ⟨g,i*3+2,none⟩=false :=
 (RV.mk (w:=w) (B:=B) (g:=g) (N:=N) (n:=0) (X:=X) (S:=S) h.blk h.lo (fun i hi=>by omega)).three hi
theorem RY.put {w:World} {B g N:Nat} {X Y:Nat→Rat} {S:Nat} (h:RY w B g N X S) {i:Nat} (hi:i<N) {p:Bool} {a:Option Addr} {na ca:Nat} {d:Option Addr} {nd cd:Nat} {r:Rat} (he:EY w B p a na ca d nd cd r S)
 (hm:∀ q,q<N→q=i∧Y q=r∨q≠i∧Y q=X q) :
 RY (((w.setCell ⟨g,i*3,none⟩ (.bool p)).setCell ⟨g,i*3+1,none⟩ (.slice a na ca)).setCell ⟨g,i*3+2,none⟩ (.slice d nd cd)) B g N Y S∧Off g w (((w.setCell ⟨g,i*3,none⟩ (.bool p)).setCell ⟨g,i*3+1,none⟩ (.slice a na ca)).setCell ⟨g,i*3+2,none⟩ (.slice d nd cd)):=by
 have O:Off g w (((w.setCell ⟨g,i*3,none⟩ (.bool p)).setCell ⟨g,i*3+1,none⟩ (.slice a na ca)).setCell ⟨g,i*3+2,none⟩ (.slice d nd cd)):=(((Off.refl _ _).set (i*3) _).set (i*3+1) _).set (i*3+2) _
 have nw:=h.noW
 obtain ⟨u0,u1,u2,c0,c1,c2,_⟩:=h.three hi
 obtain ⟨cur,h1,h2⟩:=h.blk
 refine ⟨⟨⟨_,heap_setCell_same _ g _ _ _ _ (heap_setCell_same _ g _ _ _ _ (heap_setCell_same w g _ cur _ _ h1)),by simpa using h2⟩,h.lo,fun q hq=>?_⟩,O⟩
 rcases hm q hq with ⟨rfl,e⟩|⟨hne,e⟩
 ·refine ⟨p,a,na,ca,d,nd,cd,?_,?_,?_,by rw [e];exact he.off O nw h.lo⟩
  ·rw [World.cell?_setCell_other _ _ _ _ (by simp),World.cell?_setCell_other _ _ _ _ (by simp),World.cell?_setCell_same _ _ _ c0]
  ·rw [World.cell?_setCell_other _ _ _ _ (by simp),World.cell?_setCell_same _ _ _ ((World.cell?_setCell_other _ _ _ _ (by simp)).trans c1)]
  ·rw [World.cell?_setCell_same _ _ _ ((World.cell?_setCell_other _ _ _ _ (by simp)).trans ((World.cell?_setCell_other _ _ _ _ (by simp)).trans c2))]
 ·obtain ⟨p',a',na',ca',d',nd',cd',e1,e2,e3,e4⟩:=h.el q hq
  refine ⟨p',a',na',ca',d',nd',cd',?_,?_,?_,by rw [e];exact e4.off O nw h.lo⟩
  ·rw [World.cell?_setCell_other _ _ _ _ (by simp <;> omega),World.cell?_setCell_other _ _ _ _ (by simp <;> omega),World.cell?_setCell_other _ _ _ _ (by simp <;> omega)];exact e1
  ·rw [World.cell?_setCell_other _ _ _ _ (by simp <;> omega),World.cell?_setCell_other _ _ _ _ (by simp <;> omega),World.cell?_setCell_other _ _ _ _ (by simp <;> omega)];exact e2
  ·rw [World.cell?_setCell_other _ _ _ _ (by simp <;> omega),World.cell?_setCell_other _ _ _ _ (by simp <;> omega),World.cell?_setCell_other _ _ _ _ (by simp <;> omega)];exact e3
theorem RY.lq {w:World} {B g N:Nat} {X:Nat→Rat} {S:Nat} (h:RY w B g N X S):LQ w (some ⟨g,0,none⟩) N X (fun _=>S):=by
 refine .inr ⟨g,0,rfl,fun i hi=>?_⟩
 obtain ⟨p,a,na,ca,d,nd,cd,e1,e2,e3,e4⟩:=h.el i hi
 exact ⟨p,a,na,ca,d,nd,cd,by rw [Nat.zero_add];exact e1,by rw [Nat.zero_add];exact e2,by rw [Nat.zero_add];exact e3,e4.tr⟩
theorem tr_zeroY (w:World):TR w false none 0 0 none 0 0 0 1:=by
 have h0:Num w none 0 0 0 1:=⟨[],rfl,Nat.le_refl _,.inl rfl,AllW.nil,rfl,by simp⟩
 exact ⟨0,0,⟨0,h0,rfl⟩,h0,by simp⟩
theorem infoRat0:(Tryz.prog.info? 27).map (fun i=>(i.zero.map (·.cells),i.size,i.bytes))=some (some #[.bool false,.slice none 0 0,.slice none 0 0],3,56):=by kernel_rfl
theorem xO (w:World) {ops:Array Oper} {rest:List Oper} {o:Oper} {a:Act} {Q:Exit→Act→World→Prop} (hg:o.guard=none) (l c:Operand) (hop:o.op=Op.makeSlice 32 l c)
 (n:Nat) (hl:a.eval l = .int .i64 (n:Int)) (hc:a.eval c = .int .i64 (n:Int)) (hn:n≤100000000) (B S:Nat) (hB:B≤w.heap.size) (hS:1≤S)
 (h:∀ w',RY w' B w.heap.size n (fun _=>0) S→Below w.heap.size w w'→w'.heap.size=w.heap.size+1→wpList Tryz.prog ops Q rest (a.put o.dst (.slice (some ⟨w.heap.size,0,none⟩) n n)) w'):wpList Tryz.prog ops Q (o::rest) a w:=by
 obtain ⟨i0,hi,hx⟩:=Option.map_eq_some_iff.1 infoRat0
 simp only [Prod.mk.injEq] at hx
 obtain ⟨h1,h2,h3⟩:=hx
 obtain ⟨z,hz,h4⟩:=Option.map_eq_some_iff.1 h1
 have hr:=run_make (P:=Tryz.prog) w 32 27 i0 z Tryz.underlying32 hi hz .i64 .i64 (n:Int) (n:Int) (by omega) (Int.le_refl _) (by rw [h3];omega) (by omega)
 simp only [Int.toNat_natCast] at hr
 refine wpList_plain hg fun K hK'=>?_
 unfold Oper.wp execOp
 simp only [hop,Sem.run_bind,Sem.run_pure,Result.andThen_ok,hl,hc,hr]
 rw [h2,h4]
 have hc:∀ i j u,i<n→(#[.bool false,.slice none 0 0,.slice none 0 0]:Array Value).toList[j]? = some u→(w.alloc (.cells (madeCells #[.bool false,.slice none 0 0,.slice none 0 0] (n*3)) 27)).cell? ⟨w.heap.size,i*3+j,none⟩=some u:=fun i j u hi hu=>by
  have hj:j<3:=(List.getElem?_eq_some_iff.1 hu).1
  rw [cell_of_row _ _ _ _ _ (0,0) (heap_alloc_new w _)]
  have hlt:i*3+j<n*3:=by omega
  rw [Array.getElem?_eq_getElem (by rw [size_madeCells];exact hlt)]
  have hm:(i*3+j)%3=j:=by omega
  simp only [madeCells,Array.getElem_map,Array.getElem_range,List.size_toArray,List.length_cons,List.length_nil,Nat.zero_add,Nat.reduceAdd,hm]
  rw [← hu]
  rcases (by omega:j=0∨j=1∨j=2) with rfl|rfl|rfl <;> rfl
 refine hK' _ _ (h _ ⟨⟨_,heap_alloc_new w _,by rw [size_madeCells]⟩,hB,fun i hi=>⟨_,_,_,_,_,_,_,hc i 0 _ hi rfl,hc i 1 _ hi rfl,hc i 2 _ hi rfl,.inr fun w2 _=>(tr_zeroY w2).up hS⟩⟩ (aI w _) (by simp))
def mns (v:PV) (u:Nat):Int:=if v.hlo then -1 else if v.hhi then -1 else ((u+1:Nat):Int)
theorem StC.two {w:World} {R F:Nat} {v:PV} {u S:Nat} {c0 c1 c2 c3 c4:Value} (h:StC w R F v u S [c0,c1,c2,c3,c4]):c1 = .int .i64 (mns v u):=by
 unfold mns
 rcases h with ⟨h0,_,_,_,_,_,_,_,_,_,e,_⟩|⟨h0,h1,_,_,_,_,_,_,_,_,_,e,_⟩|⟨h0,h1,_,_,e,_⟩
 ·rw [h0];injection e with _ e;injection e with e _
 ·rw [h0,h1];injection e with _ e;injection e with e _
 ·rw [h0,h1];injection e with _ e;injection e with e _
set_option maxRecDepth 100000 in
set_option maxHeartbeats 4000000 in
theorem zT {R j:Nat} {Q:Prob} (w:World) (h:SHP w R Q) (hj:j<Q.vn) :
 Calls Tryz.prog 24 #[.pointer (some ⟨R,0,none⟩),.int .i64 (j:Nat)] w fun e w'=>e = .returned (.tuple #[.int .i64 (clm Q.V j:Nat),.int .i64 (mns (Q.V j) (clm Q.V j))])∧Below w.heap.size w w':=by
 obtain ⟨F,sa,sc,csv,k1,k2,k3,ev,c,fv,h0,h1,h2,h3,h4,h5,h6⟩:=h
 obtain ⟨g,c0,c1,c2,c3,c4,rfl,hC,e0,_,s0,s1,_⟩:=h2.at hj
 have e1:=hC.two
 rw [e0] at s0
 rw [e1] at s1
 obtain ⟨u,eu⟩:∃ u,u=clm Q.V j:=⟨_,rfl⟩
 obtain ⟨m,em⟩:∃ m,m=mns (Q.V j) u:=⟨_,rfl⟩
 rw [← eu] at s0 s1 ⊢
 rw [← em] at s1 ⊢
 have y0:=(h1.cell 0).trans (show _=some (.slice (some ⟨g,0,none⟩) Q.vn sc) from rfl)
 have hj0:¬ (j:Int)<0:=by omega
 have hj1:¬ ((Q.vn:Nat):Int)≤(j:Int):=by omega
 have hj2:(j:Int)<((Q.vn:Nat):Int):=by omega
 have hj5:(j:Int)*5=((j*5:Nat):Int):=by omega
 clear eu em e0 e1 hC h1 h2 h3 h4 h5 h6
 go_enter Tryz.func24,Tryz.ntmps24
 go_wp2_with fail
 have HBX:∀ w',Below w.heap.size w w'→(w'.cell? ⟨R,0,none⟩=some (.slice (some ⟨g,0,none⟩) Q.vn sc)∧w'.cell? ⟨g,j*5,none⟩=some (.int .i64 (u:Nat))∧w'.cell? ⟨g,j*5+1,none⟩=some (.int .i64 m)):=fun w' h=>⟨aG h y0,aG h s0,aG h s1⟩
 refine wp_region_noPanic (bU HBX (by as_aux_lemma=>kernel_rfl) ?_)
 have hc0:Below w.heap.size w w.drew:=aK _
 generalize w.drew=z0 at *
 refine wpAnyG.tA 0 (v:=.pointer (some ⟨R,0,none⟩)) (by decide) 17 (by as_aux_lemma=>kernel_rfl) (by rfl) ?y0 (HBX _ hc0) ?_
 case y0 =>
  rintro w' ⟨y0,s0,s1⟩
  simp only [lgA,lgZ]
  go_simp
 simp only [lgA,lgZ,Act.put,lsA,lsZ,lsS]
 refine wpAnyG.tA 1 (v:=.pointer (some ⟨R,0,none⟩)) (by decide) 17 (by as_aux_lemma=>kernel_rfl) (by rfl) ?y1 (HBX _ hc0) ?_
 case y1 =>
  rintro w' ⟨y0,s0,s1⟩
  simp only [lgA,lgZ,lgS]
  go_simp
 simp only [lgA,lgZ,lgS,Act.put,lsA,lsZ,lsS]
 refine wpAnyG.tA 2 (v:=.pointer (some ⟨R,0,none⟩)) (by decide) 17 (by as_aux_lemma=>kernel_rfl) (by rfl) ?y2 (HBX _ hc0) ?_
 case y2 =>
  rintro w' ⟨y0,s0,s1⟩
  simp only [lgA,lgZ,lgS]
  go_simp
 simp only [lgA,lgZ,lgS,Act.put,lsA,lsZ,lsS]
 refine wpAnyG.tA 3 (v:=.slice (some ⟨g,0,none⟩) Q.vn sc) (by decide) 17 (by as_aux_lemma=>kernel_rfl) (by rfl) ?y3 (HBX _ hc0) ?_
 case y3 =>
  rintro w' ⟨y0,s0,s1⟩
  simp only [lgA,lgZ,lgS]
  go_simp
 simp only [lgA,lgZ,lgS,Act.put,lsA,lsZ,lsS]
 refine wpAnyG.tA 4 (v:=.int .i64 (j:Nat)) (by decide) 17 (by as_aux_lemma=>kernel_rfl) (by rfl) ?y4 (HBX _ hc0) ?_
 case y4 =>
  rintro w' ⟨y0,s0,s1⟩
  simp only [lgA,lgZ,lgS]
  go_simp
 simp only [lgA,lgZ,lgS,Act.put,lsA,lsZ,lsS]
 refine wpAnyG.tA 5 (v:=.pointer (some ⟨g,j*5,none⟩)) (by decide) 17 (by as_aux_lemma=>kernel_rfl) (by rfl) ?y5 (HBX _ hc0) ?_
 case y5 =>
  rintro w' ⟨y0,s0,s1⟩
  simp only [lgA,lgZ,lgS]
  go_simp
 simp only [lgA,lgZ,lgS,Act.put,lsA,lsZ,lsS]
 refine wpAnyG.tA 6 (v:=.pointer (some ⟨g,j*5,none⟩)) (by decide) 17 (by as_aux_lemma=>kernel_rfl) (by rfl) ?y6 (HBX _ hc0) ?_
 case y6 =>
  rintro w' ⟨y0,s0,s1⟩
  simp only [lgA,lgZ,lgS]
  go_simp
 simp only [lgA,lgZ,lgS,Act.put,lsA,lsZ,lsS]
 refine wpAnyG.tA 7 (v:=.int .i64 (u:Nat)) (by decide) 17 (by as_aux_lemma=>kernel_rfl) (by rfl) ?y7 (HBX _ hc0) ?_
 case y7 =>
  rintro w' ⟨y0,s0,s1⟩
  simp only [lgA,lgZ,lgS]
  go_simp
 simp only [lgA,lgZ,lgS,Act.put,lsA,lsZ,lsS]
 refine wpAnyG.tA 8 (v:=.pointer (some ⟨R,0,none⟩)) (by decide) 17 (by as_aux_lemma=>kernel_rfl) (by rfl) ?y8 (HBX _ hc0) ?_
 case y8 =>
  rintro w' ⟨y0,s0,s1⟩
  simp only [lgA,lgZ,lgS]
  go_simp
 simp only [lgA,lgZ,lgS,Act.put,lsA,lsZ,lsS]
 refine wpAnyG.tA 9 (v:=.pointer (some ⟨R,0,none⟩)) (by decide) 17 (by as_aux_lemma=>kernel_rfl) (by rfl) ?y9 (HBX _ hc0) ?_
 case y9 =>
  rintro w' ⟨y0,s0,s1⟩
  simp only [lgA,lgZ,lgS]
  go_simp
 simp only [lgA,lgZ,lgS,Act.put,lsA,lsZ,lsS]
 refine wpAnyG.tA 10 (v:=.pointer (some ⟨R,0,none⟩)) (by decide) 17 (by as_aux_lemma=>kernel_rfl) (by rfl) ?y10 (HBX _ hc0) ?_
 case y10 =>
  rintro w' ⟨y0,s0,s1⟩
  simp only [lgA,lgZ,lgS]
  go_simp
 simp only [lgA,lgZ,lgS,Act.put,lsA,lsZ,lsS]
 refine wpAnyG.tA 11 (v:=.slice (some ⟨g,0,none⟩) Q.vn sc) (by decide) 17 (by as_aux_lemma=>kernel_rfl) (by rfl) ?y11 (HBX _ hc0) ?_
 case y11 =>
  rintro w' ⟨y0,s0,s1⟩
  simp only [lgA,lgZ,lgS]
  go_simp
 simp only [lgA,lgZ,lgS,Act.put,lsA,lsZ,lsS]
 refine wpAnyG.tA 12 (v:=.int .i64 (j:Nat)) (by decide) 17 (by as_aux_lemma=>kernel_rfl) (by rfl) ?y12 (HBX _ hc0) ?_
 case y12 =>
  rintro w' ⟨y0,s0,s1⟩
  simp only [lgA,lgZ,lgS]
  go_simp
 simp only [lgA,lgZ,lgS,Act.put,lsA,lsZ,lsS]
 refine wpAnyG.tA 13 (v:=.pointer (some ⟨g,j*5,none⟩)) (by decide) 17 (by as_aux_lemma=>kernel_rfl) (by rfl) ?y13 (HBX _ hc0) ?_
 case y13 =>
  rintro w' ⟨y0,s0,s1⟩
  simp only [lgA,lgZ,lgS]
  go_simp
 simp only [lgA,lgZ,lgS,Act.put,lsA,lsZ,lsS]
 refine wpAnyG.tA 14 (v:=.pointer (some ⟨g,j*5+1,none⟩)) (by decide) 17 (by as_aux_lemma=>kernel_rfl) (by rfl) ?y14 (HBX _ hc0) ?_
 case y14 =>
  rintro w' ⟨y0,s0,s1⟩
  simp only [lgA,lgZ,lgS]
  go_simp
 simp only [lgA,lgZ,lgS,Act.put,lsA,lsZ,lsS]
 refine wpAnyG.tA 15 (v:=.int .i64 m) (by decide) 17 (by as_aux_lemma=>kernel_rfl) (by rfl) ?y15 (HBX _ hc0) ?_
 case y15 =>
  rintro w' ⟨y0,s0,s1⟩
  simp only [lgA,lgZ,lgS]
  go_simp
 simp only [lgA,lgZ,lgS,Act.put,lsA,lsZ,lsS]
 refine wpAnyG.one 16 (by as_aux_lemma=>kernel_rfl) (by decide) (by rfl) (fun K hK=>?_)
 simp only [lgA,lgZ,lgS]
 go_simp
 refine hK _ _ (HBX _ hc0) ?_
 clear hK K
 refine wpAnyG.one 17 (by as_aux_lemma=>kernel_rfl) (by decide) (by rfl) (fun K hK=>?_)
 simp only [lgA,lgZ,lgS]
 go_simp
 refine hK _ _ (HBX _ hc0) ?_
 clear hK K
 refine wpAnyG.done (by as_aux_lemma=>kernel_rfl) (NoPanic.normal ?_)
 go_wp2
 go_ret2
 exact ⟨rfl,hc0⟩
theorem pF {Y:Nat→Rat} {c m i:Nat} (h:∀ q,c≤q→q<m→q≠i→Y q=0) (h1:c≤i) (h2:i<m) (N:Nat):∀ q,q<N→q=i∧zn m Y q=Y i∨q≠i∧zn m Y q=zn c Y q:=by
 intro q _
 unfold zn
 by_cases e:q=i
 ·subst e
  exact .inl ⟨rfl,if_pos h2⟩
 ·refine .inr ⟨e,?_⟩
  by_cases hc:q<c
  ·rw [if_pos hc,if_pos (by omega)]
  ·rw [if_neg hc]
   by_cases hm:q<m
   ·rw [if_pos hm];exact h q (by omega) hm e
   ·exact if_neg hm
def frv (l:List PT) (f:Nat):Nat→Int
 | 0=>-1
 | j+1=>if f≤j∧bV l j≠0 then (j:Nat) else frv l f j
theorem xP {l:List PT} {f k:Nat} {s:Rat} (hl:Inc k l) (hs:s≠0) (hf:f≤k):∀ n,k<n→frv (l++[⟨(k:Nat),s⟩]) f n=(k:Nat)
 | 0,h=>by omega
 | n+1,h=>by
  show (if f≤n∧bV (l++[⟨(k:Nat),s⟩]) n≠0 then ((n:Nat):Int) else frv (l++[⟨(k:Nat),s⟩]) f n)=(k:Nat)
  by_cases e:n=k
  ·subst e
   have h1:bV (l++[⟨(n:Nat),s⟩]) n=s:=by rw [iO];exact if_pos rfl
   rw [if_pos ⟨hf,by rw [h1];exact hs⟩]
  ·have h1:bV (l++[⟨(k:Nat),s⟩]) n=0:=by
    rw [iO,if_neg (by show ¬ ((n:Nat):Int)=((k:Nat):Int);omega)]
    exact qE hl (by omega)
   rw [if_neg (fun h=>h.2 h1)]
   exact xP hl hs hf n (by omega)
theorem uG {l:List PT} {f:Nat} (hl:Inc f l):∀ n,frv l f n = -1
 | 0=>rfl
 | n+1=>by
  unfold frv
  rw [if_neg (fun h=>h.2 (qE hl h.1))]
  exact uG hl n
theorem xQ (Y:Nat→Rat) (l:List PT) (k:Nat):∀ j,bJ (fun c=>bV l c*zn k Y c) j=Smv Y l (min j k)
 | 0=>by rw [Nat.zero_min];rfl
 | j+1=>by
  rw [bH,xQ Y l k j]
  unfold zn
  by_cases h:j<k
  ·rw [if_pos h,show min (j+1) k=j+1 by omega,show min j k=j by omega];rfl
  ·rw [if_neg h,Rat.mul_zero,Rat.add_zero,show min (j+1) k=k by omega,show min j k=k by omega]
def lfv (e:Eqn) (y:Nat→Rat) (j:Nat):Rat:=e.r-bJ (fun c=>bV e.l c*y c) j
theorem lfv_zero (e:Eqn) (y:Nat→Rat):lfv e y 0=e.r:=by show e.r-0=e.r;grind
theorem zU (e:Eqn) (y:Nat→Rat) (j:Nat):lfv e y j-bV e.l j*y j=lfv e y (j+1):=by
 unfold lfv
 rw [bH]
 generalize bJ (fun c=>bV e.l c*y c) j=a
 generalize bV e.l j*y j=b
 grind
theorem lfv_skip (e:Eqn) {y:Nat→Rat} {j:Nat} (h:y j=0):lfv e y (j+1)=lfv e y j:=by rw [← zU,h,Rat.mul_zero];grind
theorem lfv_sz {e:Eqn} {Y:Nat→Rat} {W:Nat} (h:PzE Y W e) (k:Nat) {j:Nat} (hj:j≤18446744073709551615):SzR (lfv e (zn k Y) j) W:=by
 unfold lfv
 rw [xQ]
 exact (h _ (by omega)).2
theorem lfv_end {e:Eqn} {Y:Nat→Rat} {l:List PT} {k n:Nat} {s:Rat} (h1:e.l=l++[⟨(k:Nat),s⟩]) (hl:Inc k l) (h:gW Y l+s*Y k=e.r) (hk:k<n):lfv e (zn k Y) n=s*Y k:=by
 unfold lfv
 rw [xQ,show min n k=k by omega,h1,Smv_pre (Nat.le_refl _),uF hl (Nat.le_refl _),← h]
 generalize gW Y l=a
 generalize s*Y k=b
 grind
theorem jJ {s y:Rat} (h:s=1∨s = -1):s*y/s=y∧s≠0:=by
 rcases h with rfl|rfl
 ·exact ⟨by grind,by decide⟩
 ·exact ⟨by grind,by decide⟩
def LaiC (f:Nat) (Y:Nat→Rat) (H:Prop) (k n i:Nat) (es:List Eqn) (e:Eqn):Prop :=
 (∃ l s,e.l=l++[⟨(k:Nat),s⟩]∧(s=1∨s = -1)∧Inc k l∧gW Y l+s*Y k=e.r∧k<n∧Lai f Y H (k+1) (es.drop (i+1)) n)∨(Inc f e.l∧Lai f Y H k (es.drop (i+1)) n)
theorem Lai.at {f:Nat} {Y:Nat→Rat} {H:Prop} {k n i:Nat} {es:List Eqn} (h:Lai f Y H k (es.drop i) n) (hi:i<es.length):LaiC f Y H k n i es (es.getD i ⟨[],0⟩):=by
 have e:es.drop i=es.getD i ⟨[],0⟩::es.drop (i+1):=by
  rw [List.drop_eq_getElem_cons hi,List.getD_eq_getElem?_getD,List.getElem?_eq_getElem hi]
  rfl
 rw [e] at h
 rcases h with ⟨l,s,h1,h2,h3,h4,h5⟩|⟨h1,_,h3⟩
 ·exact .inl ⟨l,s,h1,h2,h3,h4,by have:=h5.le;omega,h5⟩
 ·exact .inr ⟨h1,h3⟩
theorem getD_mem {es:List Eqn} {i:Nat} (hi:i<es.length):es.getD i ⟨[],0⟩ ∈ es:=by
 rw [List.getD_eq_getElem?_getD,List.getElem?_eq_getElem hi]
 exact List.getElem_mem hi
end Go.Proofs.YtmeimjakdheidaaGreatDoor
