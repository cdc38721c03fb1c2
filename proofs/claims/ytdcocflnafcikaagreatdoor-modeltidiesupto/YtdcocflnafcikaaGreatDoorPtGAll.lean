import Derived.Test.YtdcocflnafcikaaGreatDoorPtF
import Derived.Test.YtdcocflnafcikaaGreatDoorPrQ
import Derived.Test.YtdcocflnafcikaaGreatDoorQ3OAll
import Derived.Test.YtdcocflnafcikaaGreatDoorLentAll
import Derived.Test.YtdcocflnafcikaaGreatDoorR2HAll
import Derived.Deep.MidRow
namespace Go.Proofs.YtdcocflnafcikaaGreatDoor
open Go.RowKit
def vmk:List Value:=[.string ⟨#[35]⟩,.bool false,.slice none 0 0,.slice none 0 0,.bool false,.bool false,.slice none 0 0,.slice none 0 0,.bool false,.bool false,.slice none 0 0,.slice none 0 0,.bool false]
def rmk:List Value:=[.string ⟨#[35]⟩,.slice none 0 0,.bool false,.bool false,.slice none 0 0,.slice none 0 0,.bool false,.bool false,.slice none 0 0,.slice none 0 0]
def tmk:List Value:=[.int .i64 (-77),.bool false,.slice none 0 0,.slice none 0 0]
def vcl (P:Prob) (c:Nat→List Value) (j:Nat):List Value :=
 if j<P.vn then .string (P.V j).nm::(c (1+3*j) ++ .bool (P.V j).hlo::(c (1+3*j+1) ++ .bool (P.V j).hhi::(c (1+3*j+2)++[.bool (P.V j).whole]))) else vmk
def tcl (P:Prob) (c:Nat→List Value) (i k:Nat):List Value:=if k<(P.R i).nt then .int .i64 ((P.R i).t k).var::c (aQ P i+2+k) else tmk
def RwF (w:World) (B:Nat) (cs:List Value) (P:Prob) (c:Nat→List Value) (i:Nat):Prop :=
 (i<P.rn→∃ g cap,cs = .string (P.R i).nm :: .slice (some ⟨g,0,none⟩) (P.R i).nt cap :: .bool (P.R i).hlo::(c (aQ P i) ++ .bool (P.R i).hhi::c (aQ P i+1))∧(P.R i).nt+3≤cap∧SL w B 62 4 (.slice (some ⟨g,0,none⟩) ((P.R i).nt+3) cap) ((P.R i).nt+3) (tcl P c i))∧(P.rn≤i→cs=rmk)
theorem RwF.below {w w':World} {B:Nat} {cs:List Value} {P:Prob} {c:Nat→List Value} {i:Nat} (h:RwF w B cs P c i) (hb:Below w.heap.size w w'):RwF w' B cs P c i:=by
 refine ⟨fun hi=>?_,h.2⟩
 obtain ⟨g,cap,e,h1,h2⟩:=h.1 hi
 exact ⟨g,cap,e,h1,h2.below hb⟩
theorem RwF.keep {w w':World} {B:Nat} {cs:List Value} {P:Prob} {c:Nat→List Value} {i:Nat} (h:RwF w B cs P c i) {row:Option Nat} (hn:NoT w row) (hg:w.grownBy w' row):RwF w' B cs P c i:=by
 refine ⟨fun hi=>?_,h.2⟩
 obtain ⟨g,cap,e,h1,h2⟩:=h.1 hi
 exact ⟨g,cap,e,h1,h2.kept hg (h2.ne_noT hn)⟩
theorem RwF.mono {w:World} {B B':Nat} {cs:List Value} {P:Prob} {c:Nat→List Value} {i:Nat} (h:RwF w B cs P c i) (hB:B'≤B):RwF w B' cs P c i:=by
 refine ⟨fun hi=>?_,h.2⟩
 obtain ⟨g,cap,e,h1,h2⟩:=h.1 hi
 exact ⟨g,cap,e,h1,h2.mono hB⟩
def UpR (ER:Nat→List Value) (P:Prob) (i:Nat):Prop:=∀ j,j<i→i<P.rn→∀ u v g h,(ER j)[1]? = some u→(ER i)[1]? = some v→u.ownBlock=some g→v.ownBlock=some h→g<h
structure FJ (w:World) (R:Nat) (P:Prob) (c:Nat→List Value) (x0 x1 x2:Value) (kv kr:Nat) (gv gr:Value) (ER:Nat→List Value):Prop where
 row:Rw 31 w R #[.bool P.mx,.string P.nm,x0,x1,x2,gv,gr]
 sv:SL w (R+1) 57 13 gv kv (vcl P c)
 sr:SL w (R+1) 60 10 gr kr ER
 er:∀ i,i<kr→RwF w (R+1) (ER i) P c i∧UpR ER P i
theorem FJ.below {w w':World} {R:Nat} {P:Prob} {c:Nat→List Value} {x0 x1 x2:Value} {kv kr:Nat} {gv gr:Value} {ER:Nat→List Value} (h:FJ w R P c x0 x1 x2 kv kr gv gr ER) (hb:Below w.heap.size w w'):FJ w' R P c x0 x1 x2 kv kr gv gr ER :=
 ⟨h.row.below hb,h.sv.below hb,h.sr.below hb,fun i hi=>⟨(h.er i hi).1.below hb,(h.er i hi).2⟩⟩
theorem FJ.appv {w w1 w2:World} {R:Nat} {P:Prob} {c:Nat→List Value} {x0 x1 x2:Value} {kv kr:Nat} {gv gr:Value} {ER:Nat→List Value} (h:FJ w R P c x0 x1 x2 kv kr gv gr ER) (hb:Below w.heap.size w w1) (hg:w1.grownBy w2 gv.ownBlock) {v:Value} {cs:List Value}
 (hS:SL w2 (R+1) 57 13 v (kv+1) (fun i=>if i<kv then vcl P c i else cs)) (hcs:cs=vcl P c kv):FJ (w2.setCell ⟨R,5,none⟩ v) R P c x0 x1 x2 (kv+1) kr v gr ER:=by
 have hr:Rw 31 w2 R #[.bool P.mx,.string P.nm,x0,x1,x2,gv,gr]:=(h.row.below hb).kept hg (fun e=>by have:=(h.sv.lt R e).1;omega)
 have hr2:=(hr.set 5 v).1
 have O:Off R w2 (w2.setCell ⟨R,5,none⟩ v):=(Off.refl R w2).set 5 v
 refine ⟨by simpa using hr2,(hS.congr (fun i hi=>?_)).setR (by omega) _ _,h.sr.step hb hg (fun g e=>h.sr.neT h.sv (by decide) g e) (by omega) _ _,fun i hi=>⟨(((h.er i hi).1.below hb).keep ((h.sv.below hb).noT (by decide)) hg).keep (hr.noT (by decide)) O.grown,(h.er i hi).2⟩⟩
 by_cases e:i<kv
 ·rw [if_pos e]
 ·obtain rfl:i=kv:=by omega
  rw [if_neg e,hcs]
theorem FJ.appr {w w1 w2:World} {R:Nat} {P:Prob} {c:Nat→List Value} {x0 x1 x2:Value} {kv kr:Nat} {gv gr:Value} {ER:Nat→List Value} (h:FJ w R P c x0 x1 x2 kv kr gv gr ER) (hb:Below w.heap.size w w1) (hg:w1.grownBy w2 gr.ownBlock) {v:Value} {cs:List Value}
 (hS:SL w2 (R+1) 60 10 v (kr+1) (fun i=>if i<kr then ER i else cs)) (hcs:RwF w (R+1) cs P c kr) (hup:kr<P.rn→∃ H,(∀ j,j<kr→∀ u g,(ER j)[1]? = some u→u.ownBlock=some g→g<H)∧∀ v g,cs[1]? = some v→v.ownBlock=some g→H≤g):FJ (w2.setCell ⟨R,6,none⟩ v) R P c x0 x1 x2 kv (kr+1) gv v (fun i=>if i<kr then ER i else cs):=by
 have hr:Rw 31 w2 R #[.bool P.mx,.string P.nm,x0,x1,x2,gv,gr]:=(h.row.below hb).kept hg (fun e=>by have:=(h.sr.lt R e).1;omega)
 have hr2:=(hr.set 6 v).1
 have O:Off R w2 (w2.setCell ⟨R,6,none⟩ v):=(Off.refl R w2).set 6 v
 have K:∀ {l:List Value} {i:Nat},RwF w (R+1) l P c i→RwF (w2.setCell ⟨R,6,none⟩ v) (R+1) l P c i:=fun hl=>((hl.below hb).keep ((h.sr.below hb).noT (by decide)) hg).keep (hr.noT (by decide)) O.grown
 refine ⟨by simpa using hr2,h.sv.step hb hg (fun g e=>h.sv.neT h.sr (by decide) g e) (by omega) _ _,hS.setR (by omega) _ _,fun i hi=>?_⟩
 by_cases e:i<kr
 ·refine ⟨by simp only [e,if_true];exact K (h.er i e).1,fun j hj hr u v g' h' a1 a2 a3 a4=>?_⟩
  have ej:j<kr:=by omega
  simp only [e,if_true] at a2
  simp only [ej,if_true] at a1
  exact (h.er i e).2 j hj hr u v g' h' a1 a2 a3 a4
 ·obtain rfl:i=kr:=by omega
  refine ⟨by simp only [e,if_false];exact K hcs,fun j hj hr u v g' h' a1 a2 a3 a4=>?_⟩
  simp only [e,if_false] at a2
  simp only [hj,if_true] at a1
  obtain ⟨H,b1,b2⟩:=hup hr
  have:=b1 j hj u g' a1 a3
  have:=b2 v h' a2 a4
  omega
theorem FJ.hdr {w:World} {R:Nat} {P:Prob} {c:Nat→List Value} {x0 x1 x2:Value} {kv kr:Nat} {gv gr:Value} {ER:Nat→List Value} (h:FJ w R P c x0 x1 x2 kv kr gv gr ER) (hr:kr≤P.rn):∀ j,j<kr→∀ u g,(ER j)[1]? = some u→u.ownBlock=some g→g<w.heap.size:=by
 intro j hj u g h1 h2
 obtain ⟨g2,cap,e,_,hS⟩:=(h.er j hj).1.1 (by omega)
 rw [e] at h1
 simp only [List.getElem?_cons_succ,List.getElem?_cons_zero,Option.some.injEq] at h1
 subst h1
 simp only [Value.ownBlock,Option.some.injEq] at h2
 subst h2
 exact (hS.lt g2 rfl).2
def LnC (w:World) (b o n:Nat) (c:Nat→List Value) (F:Nat→Fr):Prop:=∀ i,i<n→Q3 w (c i) (F i)∧∀ j u,(c i)[j]? = some u→w.cell? ⟨b,o+i*3+j,none⟩=some u
theorem LnC.get {w:World} {b o n:Nat} {c:Nat→List Value} {F:Nat→Fr} (h:LnC w b o n c F) {i:Nat} (hi:i<n):∃ p a na ca d nd cd,c i=[.bool p,.slice a na ca,.slice d nd cd]∧w.cell? ⟨b,o+i*3,none⟩=some (.bool p)∧w.cell? ⟨b,o+i*3+1,none⟩=some (.slice a na ca)∧w.cell? ⟨b,o+i*3+2,none⟩=some (.slice d nd cd):=by
 obtain ⟨⟨a,ca,d,cd,e,_⟩,h2⟩:=h i hi
 rw [e] at h2
 exact ⟨_,_,_,_,_,_,_,e,h2 0 _ rfl,h2 1 _ rfl,h2 2 _ rfl⟩
def FO (w:World) (B:Nat) (P:Prob) (c:Nat→List Value) (v:Value):Prop:=∃ x0 x1 x2 gv vc gr rc ER,c 0=[x0,x1,x2]∧v = .agg #[.bool P.mx,.string P.nm,x0,x1,x2,.slice (some ⟨gv,0,none⟩) P.vn vc,.slice (some ⟨gr,0,none⟩) P.rn rc]∧P.vn+3≤vc∧P.rn+3≤rc ∧
 SL w B 57 13 (.slice (some ⟨gv,0,none⟩) (P.vn+3) vc) (P.vn+3) (vcl P c)∧SL w B 60 10 (.slice (some ⟨gr,0,none⟩) (P.rn+3) rc) (P.rn+3) ER∧∀ i,i<P.rn+3→RwF w B (ER i) P c i∧UpR ER P i
theorem FO.below {w w':World} {B:Nat} {P:Prob} {c:Nat→List Value} {v:Value} (h:FO w B P c v) (hb:Below w.heap.size w w'):FO w' B P c v:=by
 obtain ⟨x0,x1,x2,gv,vc,gr,rc,ER,h1,h2,h3,h4,h5,h6,h7⟩:=h
 exact ⟨x0,x1,x2,gv,vc,gr,rc,ER,h1,h2,h3,h4,h5.below hb,h6.below hb,fun i hi=>⟨(h7 i hi).1.below hb,(h7 i hi).2⟩⟩
set_option maxHeartbeats 4000000 in
theorem vC {f:Fr} {p q:Bool} {a:Option Addr} {na ca:Nat} {d:Option Addr} {nd cd:Nat} {a':Option Addr} {na' ca':Nat} {d':Option Addr} {nd' cd':Nat} {w:World} (h:Q3 w [.bool p,.slice a na ca,.slice d nd cd] f) (h':Q3 w [.bool q,.slice a' na' ca',.slice d' nd' cd'] f) (hx:f.xs.length≤2000000) (hy:f.ys.length≤2000000) :
 SP w (.agg #[.bool p,.slice a na ca,.slice d nd cd]) (.agg #[.bool q,.slice a' na' ca',.slice d' nd' cd']):=by
 intro w0 h0
 obtain ⟨_,_,_,_,e,_,_,r1,r2⟩:=h
 obtain ⟨_,_,_,_,e',_,_,s1,s2⟩:=h'
 simp only [List.cons.injEq,Value.bool.injEq,Value.slice.injEq,and_true] at e e'
 obtain ⟨rfl,⟨rfl,rfl,rfl⟩,rfl,rfl,rfl⟩:=e
 obtain ⟨rfl,⟨rfl,rfl,rfl⟩,rfl,rfl,rfl⟩:=e'
 obtain ⟨p,ep⟩:∃ p,p=f.p:=⟨_,rfl⟩
 obtain ⟨xs,exs⟩:∃ xs,xs=f.xs:=⟨_,rfl⟩
 obtain ⟨ys,eys⟩:∃ ys,ys=f.ys:=⟨_,rfl⟩
 rw [← exs] at r1 s1 hx ⊢
 rw [← eys] at r2 s2 hy ⊢
 rw [← ep]
 clear ep exs eys
 replace r1:=r1.below' h0
 replace r2:=r2.below' h0
 replace s1:=s1.below' h0
 replace s2:=s2.below' h0
 obtain ⟨P0,P1,hb0,hsz⟩:=kV w0 (.bool p) (.slice a xs.length ca) (.slice d ys.length cd) (.bool p) (.slice a' xs.length ca') (.slice d' ys.length cd') 27
 replace r1:=r1.below' hb0
 replace r2:=r2.below' hb0
 replace s1:=s1.below' hb0
 replace s2:=s2.below' hb0
 go_enter Tryz.func17,Tryz.ntmps17
 obtain ⟨p0c0,p0c1,p0c2,p0c3,p0c4,p0c5⟩:=id P0
 obtain ⟨p1c0,p1c1,p1c2,p1c3,p1c4,p1c5⟩:=id P1
 go_wp2_with fail
 generalize (w0.alloc (.cells #[.bool p,.slice a xs.length ca,.slice d ys.length cd] 27)).alloc (.cells #[.bool p,.slice a' xs.length ca',.slice d' ys.length cd'] 27)=W0 at *
 refine (qU a a' _ _ ca ca' xs xs W0 rfl rfl (by omega) r1 s1 rfl).mono ?_
 rintro e w1 ⟨rfl,m1,rfl⟩
 clear p0c0 p0c1 p0c2 p0c3 p0c4 p0c5 p1c0 p1c1 p1c2 p1c3 p1c4 p1c5
 have hx1:Below W0.heap.size W0 (W0.drewN m1):=dB (Below.refl _ _) m1
 replace P0:=P0.below hx1
 replace P1:=P1.below hx1
 replace hb0:=aF hb0 hx1
 replace r2:=r2.below' hx1
 replace s2:=s2.below' hx1
 generalize W0.drewN m1=w1 at *
 obtain ⟨p0c0,p0c1,p0c2,p0c3,p0c4,p0c5⟩:=id P0
 obtain ⟨p1c0,p1c1,p1c2,p1c3,p1c4,p1c5⟩:=id P1
 go_wp2_with fail
 refine (qU d d' _ _ cd cd' ys ys w1 rfl rfl (by omega) r2 s2 rfl).mono ?_
 rintro e w2 ⟨rfl,m2,rfl⟩
 clear p0c0 p0c1 p0c2 p0c3 p0c4 p0c5 p1c0 p1c1 p1c2 p1c3 p1c4 p1c5
 have hx2:Below w1.heap.size w1 (w1.drewN m2):=dB (Below.refl _ _) m2
 replace P0:=P0.below hx2
 replace P1:=P1.below hx2
 replace hb0:=aF hb0 hx2
 generalize w1.drewN m2=w2 at *
 obtain ⟨p0c0,p0c1,p0c2,p0c3,p0c4,p0c5⟩:=id P0
 obtain ⟨p1c0,p1c1,p1c2,p1c3,p1c4,p1c5⟩:=id P1
 go_wp2_with (cases p <;> rfl)
 go_ret
 exact ⟨by simp,hb0⟩
theorem cp_told {f:Fr} {p q:Bool} {a:Option Addr} {na ca:Nat} {d:Option Addr} {nd cd:Nat} {a':Option Addr} {na' ca':Nat} {d':Option Addr} {nd' cd':Nat} {S:Nat} {w:World} (h:Q3 w [.bool p,.slice a na ca,.slice d nd cd] f) (h':Q3 w [.bool q,.slice a' na' ca',.slice d' nd' cd'] f) (hf:FrOk f S) (hS:1≤S∧S≤1048576) :
 CP w (.agg #[.bool p,.slice a na ca,.slice d nd cd]) (.agg #[.bool q,.slice a' na' ca',.slice d' nd' cd']) :=
 fun w1 h1=>cmpD 0 w1 ((h.tr hf).below h1) ((h'.tr hf).below h1) (by omega) hS.1 hS.1 (zX rfl)
theorem r3_told {f:Fr} {w:World} {b o b' o':Nat} (h:F3 w b o f) (h':F3 w b' o' f) {S:Nat} (hf:FrOk f S) (hS:S≤1048576):R3c w b o b' o':=by
 obtain ⟨p,a,na,ca,d,nd,cd,x0,x1,x2,q⟩:=h.q3
 obtain ⟨p',a',na',ca',d',nd',cd',y0,y1,y2,q'⟩:=h'.q3
 have:=hf.lx
 have:=hf.ly
 exact ⟨p,a,na,ca,d,nd,cd,p',a',na',ca',d',nd',cd',⟨x0,x1,x2⟩,⟨y0,y1,y2⟩,vC q q' (by omega) (by omega)⟩
theorem pR {f:Fr} {w:World} {b o b' o':Nat} {h0:Bool} (c0:w.cell? ⟨b,o,none⟩=some (.bool h0)) (c1:w.cell? ⟨b',o',none⟩=some (.bool h0)) (h:F3 w b (o+1) f) (h':F3 w b' (o'+1) f) {S:Nat} (hf:FrOk f S) (hS:1≤S∧S≤1048576):B4c w b o b' o':=by
 obtain ⟨p,a,na,ca,d,nd,cd,x0,x1,x2,q⟩:=h.q3
 obtain ⟨p',a',na',ca',d',nd',cd',y0,y1,y2,q'⟩:=h'.q3
 have:=hf.lx
 have:=hf.ly
 exact ⟨h0,p,a,na,ca,d,nd,cd,p',a',na',ca',d',nd',cd',⟨c0,x0,x1,x2⟩,⟨c1,y0,y1,y2⟩,bp_of (vC q q' (by omega) (by omega)) (fun _=>cp_told q q' hf hS)⟩
theorem Q3.form {w:World} {l:List Value} {f:Fr} (h:Q3 w l f):∃ p a na ca d nd cd,l=[.bool p,.slice a na ca,.slice d nd cd]:=by
 obtain ⟨a,ca,d,cd,e,_⟩:=h
 exact ⟨_,_,_,_,_,_,_,e⟩
theorem sN {w:World} {b o:Nat} {f:Fr} {p:Bool} {a:Option Addr} {na ca:Nat} {d:Option Addr} {nd cd:Nat} (hq:Q3 w [.bool p,.slice a na ca,.slice d nd cd] f) (h0:w.cell? ⟨b,o,none⟩=some (.bool p)) (h1:w.cell? ⟨b,o+1,none⟩=some (.slice a na ca)) (h2:w.cell? ⟨b,o+2,none⟩=some (.slice d nd cd)):F3 w b o f:=by
 obtain ⟨a',ca',d',cd',e,k1,k2,k3,k4⟩:=hq
 simp only [List.cons.injEq,Value.bool.injEq,Value.slice.injEq,and_true] at e
 obtain ⟨rfl,⟨rfl,rfl,rfl⟩,rfl,rfl,rfl⟩:=e
 exact ⟨_,_,_,_,h0,h1,h2,k1,k2,k3,k4⟩
theorem F3.c3' {w:World} {b o:Nat} {f:Fr} {S:Nat} {r:Rat} (h:F3 w b o f) (hf:FrOk f S∧frq f=r):C3 w b o r S:=hf.2 ▸ h.c3 hf.1
theorem FO.prob {w w0:World} {B:Nat} {P:Prob} {c:Nat→List Value} {v:Value} {F:Nat→Fr} {G:PF} (h:FO w B P c v) (hP:PQ w0 P) (hG:PFok P G) (hF:FN P G F) (hQ:∀ i,i<aQ P P.rn→Q3 w (c i) (F i)) :
 ∃ (p:Bool) (a:Option Addr) (na ca:Nat) (d:Option Addr) (nd cd gv vc gr rc:Nat),∃ Q:Prob,Q = { P with p:=p,a:=a,na:=na,ca:=ca,d:=d,nd:=nd,cd:=cd,va:=some ⟨gv,0,none⟩,vc:=vc,ra:=some ⟨gr,0,none⟩,rc:=rc }∧v=Q.val∧PQ w Q∧TPF w Q G∧P.vn+3≤vc∧P.rn+3≤rc ∧
  (∀ j,j<3→w.cell? ⟨gv,(P.vn+j)*13,none⟩=some (.string ⟨#[35]⟩)∧w.cell? ⟨gr,(P.rn+j)*10,none⟩=some (.string ⟨#[35]⟩)) ∧
  ∀ i,i<P.rn→∃ g cap,w.cell? ⟨gr,i*10+1,none⟩=some (.slice (some ⟨g,0,none⟩) (P.R i).nt cap)∧(P.R i).nt+3≤cap∧∀ j,j<3→w.cell? ⟨g,((P.R i).nt+j)*4,none⟩=some (.int .i64 (-77)):=by
 obtain ⟨x0,x1,x2,gv,vc,gr,rc,ER,e0,ev,hvc,hrc,SV,SR,RF⟩:=h
 have h0:aQ P 0=1+3*P.vn:=rfl
 have hN:=jQ P (Nat.zero_le P.rn)
 have q0:=hQ 0 (by omega)
 rw [hF.k] at q0
 obtain ⟨p,a,na,ca,d,nd,cd,ec⟩:=q0.form
 rw [ec] at q0 e0
 simp only [List.cons.injEq,and_true] at e0
 obtain ⟨rfl,rfl,rfl⟩:=e0
 rcases SV.cell with hz|⟨gv',eg,cv⟩
 ·omega
 obtain rfl:gv=gv':=by simpa using eg
 rcases SR.cell with hz|⟨gr',eg2,cr⟩
 ·omega
 obtain rfl:gr=gr':=by simpa using eg2
 have HV:∀ j,j<P.vn→(w.cell? ⟨gv,j*13,none⟩=some (.string (P.V j).nm)∧w.cell? ⟨gv,j*13+4,none⟩=some (.bool (P.V j).hlo)∧w.cell? ⟨gv,j*13+8,none⟩=some (.bool (P.V j).hhi)∧w.cell? ⟨gv,j*13+12,none⟩=some (.bool (P.V j).whole))∧F3 w gv (j*13+1) (G.o j)∧F3 w gv (j*13+5) (G.lo j)∧F3 w gv (j*13+9) (G.hi j):=fun j hj=>by
  obtain ⟨f1,f2,f3⟩:=hF.v j hj
  have q1:=hQ (1+3*j) (by omega)
  have q2:=hQ (1+3*j+1) (by omega)
  have q3:=hQ (1+3*j+2) (by omega)
  rw [f1] at q1
  rw [f2] at q2
  rw [f3] at q3
  obtain ⟨p1,a1,n1,c1,d1,m1,l1,e1⟩:=q1.form
  obtain ⟨p2,a2,n2,c2,d2,m2,l2,e2⟩:=q2.form
  obtain ⟨p3,a3,n3,c3,d3,m3,l3,e3⟩:=q3.form
  have k:=cv j (by omega)
  unfold vcl at k
  rw [if_pos hj,e1,e2,e3] at k
  rw [e1] at q1
  rw [e2] at q2
  rw [e3] at q3
  exact ⟨⟨k 0 _ rfl,k 4 _ rfl,k 8 _ rfl,k 12 _ rfl⟩,sN q1 (k 1 _ rfl) (k 2 _ rfl) (k 3 _ rfl),sN q2 (k 5 _ rfl) (k 6 _ rfl) (k 7 _ rfl),sN q3 (k 9 _ rfl) (k 10 _ rfl) (k 11 _ rfl)⟩
 have HR:∀ i,i<P.rn→∃ g cap,(w.cell? ⟨gr,i*10,none⟩=some (.string (P.R i).nm)∧w.cell? ⟨gr,i*10+1,none⟩=some (.slice (some ⟨g,0,none⟩) (P.R i).nt cap)∧w.cell? ⟨gr,i*10+2,none⟩=some (.bool (P.R i).hlo)∧w.cell? ⟨gr,i*10+6,none⟩=some (.bool (P.R i).hhi))∧F3 w gr (i*10+3) (G.rl i)∧F3 w gr (i*10+7) (G.rh i)∧(P.R i).nt+3≤cap∧(∀ k,k<(P.R i).nt→F3 w g (k*4+1) (G.t i k)∧w.cell? ⟨g,k*4,none⟩=some (.int .i64 ((P.R i).t k).var))∧∀ j,j<3→w.cell? ⟨g,((P.R i).nt+j)*4,none⟩=some (.int .i64 (-77)):=fun i hi=>by
  obtain ⟨f1,f2,f3⟩:=hF.r i hi
  have hn:=fV P hi
  have q1:=hQ (aQ P i) (by omega)
  have q2:=hQ (aQ P i+1) (by omega)
  rw [f1] at q1
  rw [f2] at q2
  obtain ⟨p1,a1,n1,c1,d1,m1,l1,e1⟩:=q1.form
  obtain ⟨p2,a2,n2,c2,d2,m2,l2,e2⟩:=q2.form
  have k:=cr i (by omega)
  obtain ⟨g,cap,eE,hcap,ST⟩:=(RF i (by omega)).1.1 hi
  rw [eE,e1,e2] at k
  rw [e1] at q1
  rw [e2] at q2
  rcases ST.cell with hz|⟨g',eg3,ct⟩
  ·omega
  obtain rfl:g=g':=by simpa using eg3
  refine ⟨g,cap,⟨k 0 _ rfl,k 1 _ rfl,k 2 _ rfl,k 6 _ rfl⟩,sN q1 (k 3 _ rfl) (k 4 _ rfl) (k 5 _ rfl),sN q2 (k 7 _ rfl) (k 8 _ rfl) (k 9 _ rfl),hcap,fun x hx=>?_,fun j hj=>?_⟩
  ·have q3:=hQ (aQ P i+2+x) (by omega)
   rw [f3 x hx] at q3
   obtain ⟨p3,a3,n3,c3,d3,m3,l3,e3⟩:=q3.form
   have kt:=ct x (by omega)
   unfold tcl at kt
   rw [if_pos hx,e3] at kt
   rw [e3] at q3
   exact ⟨sN q3 (kt 1 _ rfl) (kt 2 _ rfl) (kt 3 _ rfl),kt 0 _ rfl⟩
  ·have kt:=ct ((P.R i).nt+j) (by omega)
   unfold tcl at kt
   rw [if_neg (by omega)] at kt
   exact kt 0 _ rfl
 refine ⟨p,a,na,ca,d,nd,cd,gv,vc,gr,rc,_,rfl,ev,⟨?_,hP.s1,hP.sk,?_,?_,hP.all,by show P.vn≤vc;omega,by show P.rn≤rc;omega⟩,⟨⟨hG.k,hG.v,hG.r⟩,q0,?_,?_⟩,hvc,hrc,fun j hj=>?_,fun i hi=>?_⟩
 ·show TR w p a na ca d nd cd P.k P.S
  rw [← hG.k.2]
  exact q0.tr hG.k.1
 ·refine .inr ⟨gv,0,rfl,fun j hj=>?_⟩
  have hj:j<P.vn:=hj
  obtain ⟨⟨c0,c4,c8,c12⟩,g1,g2,g3⟩:=HV j hj
  obtain ⟨o1,o2,o3⟩:=hG.v j hj
  rw [Nat.zero_add]
  have hV:∃ b o,VarAt w0 b o (P.V j) (P.ZV j):=by
   rcases hP.v with hz|⟨b,o,_,hh⟩
   ·omega
   ·exact ⟨_,_,hh j hj⟩
  obtain ⟨b,o,hV⟩:=hV
  exact ⟨c0,g1.c3' o1,c4,g2.c3' o2,c8,g3.c3' o3,c12,hV.s1,hV.sobj,hV.slo,hV.shi,hV.snm⟩
 ·refine .inr ⟨gr,0,rfl,fun i hi=>?_⟩
  have hi:i<P.rn:=hi
  obtain ⟨g,cap,⟨c0,c1,c2,c6⟩,g1,g2,hcap,hT,_⟩:=HR i hi
  obtain ⟨o1,o2,o3,o4⟩:=hG.r i hi
  rw [Nat.zero_add]
  have hV:∃ b o,RowAt w0 b o (P.R i) (P.ZR i):=by
   rcases hP.r with hz|⟨b,o,_,hh⟩
   ·omega
   ·exact ⟨_,_,hh i hi⟩
  obtain ⟨b,o,hV⟩:=hV
  refine ⟨c0,⟨_,cap,G.z i,c1,.inr ⟨g,0,rfl,fun k hk=>?_⟩,o4,by show (P.R i).nt≤cap;omega⟩,c2,g1.c3' o1,c6,g2.c3' o2,hV.s1,hV.slo,hV.shi,hV.snm⟩
  obtain ⟨t1,t2,t3,t4,t5,t6⟩:=o3 k hk
  obtain ⟨u1,u2⟩:=hT k hk
  rw [Nat.zero_add]
  exact ⟨u2,u1.c3' ⟨t1,t2⟩,t3,t4,t5,t6⟩
 ·exact .inr ⟨gv,0,rfl,fun j hj=>by rw [Nat.zero_add];exact (HV j hj).2⟩
 ·refine .inr ⟨gr,0,rfl,fun i hi=>?_⟩
  have hi:i<P.rn:=hi
  obtain ⟨g,cap,⟨c0,c1,c2,c6⟩,g1,g2,hcap,hT,_⟩:=HR i hi
  rw [Nat.zero_add]
  exact ⟨g1,g2,_,cap,c1,by show (P.R i).nt≤cap;omega,.inr ⟨g,0,rfl,fun k hk=>by rw [Nat.zero_add];exact hT k hk⟩⟩
 ·have k:=cv (P.vn+j) (by omega)
  have k2:=cr (P.rn+j) (by omega)
  unfold vcl at k
  rw [if_neg (by omega)] at k
  rw [(RF (P.rn+j) (by omega)).1.2 (by omega)] at k2
  exact ⟨k 0 _ rfl,k2 0 _ rfl⟩
 ·obtain ⟨g,cap,⟨c0,c1,c2,c6⟩,g1,g2,hcap,hT,hM⟩:=HR i hi
  exact ⟨g,cap,c1,hcap,hM⟩
theorem TPF.sam {w:World} {P Q:Prob} {G:PF} (hP:PQ w P) (hQ:PQ w Q) (h:TPF w P G) (h':TPF w Q G) (hK:P.K≤1048576) (e1:Q.mx=P.mx) (e2:Q.nm=P.nm) (e3:Q.vn=P.vn) (e4:Q.rn=P.rn) (e5:Q.V=P.V) (e6:Q.R=P.R):SamP w P Q:=by
 have hall:=hP.all
 have hvn:P.vn≤1048576:=by have:=aZ P.ZV P.vn;omega
 have hrn:P.rn≤1048576:=by have:=aZ P.ZR P.rn;omega
 have k1:=h.ok.k.1.lx
 have k2:=h.ok.k.1.ly
 refine ⟨e1,e2,e3,e4,hvn,hrn,vC h.k h'.k (by omega) (by omega),?_,?_⟩
 ·rcases hP.v with hz|⟨b,o,ea,hv⟩
  ·exact .inl hz
  rcases hQ.v with hz|⟨b',o',ea',hv'⟩
  ·exact .inl (by omega)
  rcases h.v with hz|⟨b2,o2,ea2,hf⟩
  ·exact .inl hz
  rcases h'.v with hz|⟨b3,o3,ea3,hf'⟩
  ·exact .inl (by omega)
  rw [ea] at ea2
  rw [ea'] at ea3
  simp only [Option.some.injEq,Addr.mk.injEq,and_true] at ea2 ea3
  obtain ⟨rfl,rfl⟩:=ea2
  obtain ⟨rfl,rfl⟩:=ea3
  refine .inr ⟨b,o,b',o',ea,ea',fun j hj=>?_⟩
  have v1:=hv j hj
  have v2:=hv' j (by omega)
  rw [e5] at v2
  obtain ⟨f1,f2,f3⟩:=hf j hj
  obtain ⟨g1,g2,g3⟩:=hf' j (by omega)
  obtain ⟨o1,o2,o3⟩:=h.ok.v j hj
  have hZ:1≤P.ZV j∧P.ZV j≤1048576:=⟨v1.s1,by have:=dF (Z:=P.ZV) hj;omega⟩
  exact ⟨⟨_,v1.nm,v2.nm⟩,r3_told f1 g1 o1.1 hZ.2,pR v1.hlo v2.hlo f2 g2 o2.1 hZ,pR v1.hhi v2.hhi f3 g3 o3.1 hZ,⟨_,v1.whole,v2.whole⟩⟩
 ·rcases hP.r with hz|⟨b,o,ea,hv⟩
  ·exact .inl hz
  rcases hQ.r with hz|⟨b',o',ea',hv'⟩
  ·exact .inl (by omega)
  rcases h.r with hz|⟨b2,o2,ea2,hf⟩
  ·exact .inl hz
  rcases h'.r with hz|⟨b3,o3,ea3,hf'⟩
  ·exact .inl (by omega)
  rw [ea] at ea2
  rw [ea'] at ea3
  simp only [Option.some.injEq,Addr.mk.injEq,and_true] at ea2 ea3
  obtain ⟨rfl,rfl⟩:=ea2
  obtain ⟨rfl,rfl⟩:=ea3
  refine .inr ⟨b,o,b',o',ea,ea',fun i hi=>?_⟩
  have v1:=hv i hi
  have v2:=hv' i (by omega)
  rw [e6] at v2
  obtain ⟨f1,f2,a,cap,ct,hcap,hL⟩:=hf i hi
  obtain ⟨g1,g2,a',cap',ct',hcap',hL'⟩:=hf' i (by omega)
  rw [e6] at ct' hcap' hL'
  obtain ⟨o1,o2,o3,o4⟩:=h.ok.r i hi
  have hZ:1≤P.ZR i∧P.ZR i≤1048576:=⟨v1.s1,by have:=dF (Z:=P.ZR) hi;omega⟩
  refine ⟨⟨_,v1.nm,v2.nm⟩,⟨a,cap,a',cap',_,ct,ct',?_,by have:=aZ (G.z i) (P.R i).nt;omega⟩,pR v1.hlo v2.hlo f1 g1 o1.1 hZ,pR v1.hhi v2.hhi f2 g2 o2.1 hZ⟩
  rcases hL with hz|⟨tb,to,e,hL⟩
  ·exact .inl hz
  rcases hL' with hz|⟨tb',to',e',hL'⟩
  ·exact .inl hz
  refine .inr ⟨tb,to,tb',to',e,e',fun k hk=>?_⟩
  have hz:=dF (Z:=G.z i) hk
  exact ⟨⟨_,(hL k hk).2,(hL' k hk).2⟩,r3_told (hL k hk).1 (hL' k hk).1 (o3 k hk).1 (by omega)⟩
def lcl (F:Nat→Fr) (A:Nat→Bk) (i:Nat):List Value:=[.bool (F i).p,.slice (some ⟨(A i).gf,0,none⟩) (F i).xs.length (A i).cf,.slice (some ⟨(A i).hf,0,none⟩) (F i).ys.length (A i).cg]
theorem LJ.cells {w:World} {R n:Nat} {F:Nat→Fr} {A:Nat→Bk} {g cap:Nat} {vn vd vg:Value} (h:LJ w R n (n+3) n n n n F A (.slice (some ⟨g,0,none⟩) (n+3) cap) vn vd vg):∀ i,i<n→∀ j u,(lcl F A i)[j]? = some u→w.cell? ⟨g,i*3+j,none⟩=some u:=by
 intro i hi j u hu
 rcases h.sa.cell with h0|⟨g',e,hcell⟩
 ·omega
 obtain rfl:g=g':=by simpa using e
 have k:=hcell i (by omega)
 simp only [hi,if_true] at k
 exact k j u hu
theorem LJ.lnc {w:World} {R n:Nat} {F:Nat→Fr} {A:Nat→Bk} {g cap:Nat} {vn vd vg:Value} (h:LJ w R n (n+3) n n n n F A (.slice (some ⟨g,0,none⟩) (n+3) cap) vn vd vg):LnC w g 0 n (lcl F A) F:=by
 intro i hi
 have r1:=(h.ln i hi).reads3
 have r2:=(h.ld i hi).reads3
 refine ⟨⟨_,_,_,_,rfl,r1.1,r2.1,r1.2,r2.2⟩,fun j u hu=>?_⟩
 rw [Nat.zero_add]
 exact h.cells i hi j u hu
theorem LnC.below {w w':World} {b o n:Nat} {c:Nat→List Value} {F:Nat→Fr} (h:LnC w b o n c F) (hb:Below w.heap.size w w'):LnC w' b o n c F :=
 fun i hi=>⟨(h i hi).1.below hb,fun j u hu=>aB hb ((h i hi).2 j u hu)⟩
theorem CJ.q3 {w:World} {B k:Nat} {F:Nat→Fr} {C:Nat→Value × Value} {v:Value} (h:CJ w B k F C v):∀ i,i<k→Q3 w [.bool (F i).p,(C i).1,(C i).2] (F i):=fun i hi=>by
 obtain ⟨a1,c1,e1,l1,r1⟩:=(h.o i hi).1.told
 obtain ⟨a2,c2,e2,l2,r2⟩:=(h.o i hi).2.told
 rw [e1,e2]
 exact ⟨a1,c1,a2,c2,rfl,l1,l2,r1,r2⟩
theorem CJ.lnc {w:World} {B k:Nat} {F:Nat→Fr} {C:Nat→Value × Value} {v:Value} (h:CJ w B k F C v) (hk:0<k):∃ g cap,v = .slice (some ⟨g,0,none⟩) k cap∧LnC w g 0 k (fun i=>[.bool (F i).p,(C i).1,(C i).2]) F:=by
 obtain ⟨a,cap,rfl,hc⟩:=h.s.form
 rcases h.s.cell with h0|⟨g,rfl,hcell⟩
 ·omega
 ·refine ⟨g,cap,rfl,fun i hi=>⟨h.q3 i hi,fun j u hu=>?_⟩⟩
  rw [Nat.zero_add]
  exact hcell i hi j u hu
theorem OwnV.off {w w':World} {B R:Nat} {v:Value} {xs:List Int} (h:OwnV w B v xs) (o:Off R w w') (hR:R<B):OwnV w' B v xs:=by
 refine h.grown o.grown ?_
 rcases hu:v.ownBlock with _|g
 ·exact .inl rfl
 ·refine .inr fun e=>?_
  have:=(World.ownsRow.lt h g hu).1
  cases e
  omega
theorem CJ.off {w w':World} {B k R:Nat} {F:Nat→Fr} {C:Nat→Value × Value} {v:Value} (h:CJ w B k F C v) (o:Off R w w') (hR:R<B):CJ w' B k F C v :=
 ⟨h.s.kept o.grown (fun g e e2=>by cases e2;have:=(h.s.lt _ e).1;omega),fun i hi=>⟨(h.o i hi).1.off o hR,(h.o i hi).2.off o hR⟩⟩
theorem RwF.off {w w':World} {B R:Nat} {cs:List Value} {P:Prob} {c:Nat→List Value} {i:Nat} (h:RwF w B cs P c i) (o:Off R w w') (hR:R<B):RwF w' B cs P c i:=by
 refine ⟨fun hi=>?_,h.2⟩
 obtain ⟨g,cap,e,h1,h2⟩:=h.1 hi
 exact ⟨g,cap,e,h1,h2.kept o.grown (fun g e e2=>by cases e2;have:=(h2.lt _ e).1;omega)⟩
theorem FO.off {w w':World} {B R:Nat} {P:Prob} {c:Nat→List Value} {v:Value} (h:FO w B P c v) (o:Off R w w') (hR:R<B):FO w' B P c v:=by
 obtain ⟨x0,x1,x2,gv,vc,gr,rc,ER,h1,h2,h3,h4,h5,h6,h7⟩:=h
 exact ⟨x0,x1,x2,gv,vc,gr,rc,ER,h1,h2,h3,h4,h5.kept o.grown (fun g e e2=>by cases e2;have:=(h5.lt _ e).1;omega),h6.kept o.grown (fun g e e2=>by cases e2;have:=(h6.lt _ e).1;omega),fun i hi=>⟨(h7 i hi).1.off o hR,(h7 i hi).2⟩⟩
theorem nR (b:Nat):∀ (vs:List Value) (o:Nat) (w:World),Off b w (w.setCells b o vs)
 | [],_,w=>Off.refl b w
 | v::r,o,w=>((Off.refl b w).set o v).trans (nR b r (o+1) _)
def Prob.cells (P:Prob):List Value:=[.bool P.mx,.string P.nm,.bool P.p,.slice P.a P.na P.ca,.slice P.d P.nd P.cd,.slice P.va P.vn P.vc,.slice P.ra P.rn P.rc]
def Mks (w:World) (Q:Prob) (gv gr:Nat):Prop :=
 Q.va=some ⟨gv,0,none⟩∧Q.ra=some ⟨gr,0,none⟩∧Q.vn+3≤Q.vc∧Q.rn+3≤Q.rc ∧
 (∀ j,j<3→w.cell? ⟨gv,(Q.vn+j)*13,none⟩=some (.string ⟨#[35]⟩)∧w.cell? ⟨gr,(Q.rn+j)*10,none⟩=some (.string ⟨#[35]⟩)) ∧
 ∀ i,i<Q.rn→∃ g cap,w.cell? ⟨gr,i*10+1,none⟩=some (.slice (some ⟨g,0,none⟩) (Q.R i).nt cap)∧(Q.R i).nt+3≤cap∧∀ j,j<3→w.cell? ⟨g,((Q.R i).nt+j)*4,none⟩=some (.int .i64 (-77))
theorem Mks.below {w w':World} {Q:Prob} {gv gr:Nat} (h:Mks w Q gv gr) (hb:Below w.heap.size w w'):Mks w' Q gv gr:=by
 obtain ⟨h1,h2,h3,h4,h5,h6⟩:=h
 refine ⟨h1,h2,h3,h4,fun j hj=>⟨aB hb (h5 j hj).1,aB hb (h5 j hj).2⟩,fun i hi=>?_⟩
 obtain ⟨g,cap,k1,k2,k3⟩:=h6 i hi
 exact ⟨g,cap,aB hb k1,k2,fun j hj=>aB hb (k3 j hj)⟩
structure Cpy (P Q:Prob):Prop where
 mx:Q.mx=P.mx
 nm:Q.nm=P.nm
 vn:Q.vn=P.vn
 rn:Q.rn=P.rn
 k:Q.k=P.k
 V:Q.V=P.V
 R:Q.R=P.R
 S:Q.S=P.S
 ZV:Q.ZV=P.ZV
 ZR:Q.ZR=P.ZR
 K:Q.K=P.K
structure LP (w:World) (P:Prob) (R Rr N:Nat) (F:Nat→Fr) (A:Nat→Bk) (va vn vd vg:Value) (G:PF) (Q O:Prob) (gv gr:Nat):Prop where
 box:BoxC w R (Q.cells++(O.cells++[.pointer (some ⟨Rr,0,none⟩)]))
 lj:LJ w Rr N (N+3) N N N N F A va vn vd vg
 hn:N≤100000000
 hF:∀ i,i<N→(F i).xs.length≤2000000∧(F i).ys.length≤2000000
 cq:Cpy P Q
 co:Cpy P O
 pq:PQ w Q
 po:PQ w O
 tq:TPF w Q G
 to:TPF w O G
 mks:Mks w Q gv gr
 fo:∃ B,Rr≤B∧FO w B P (lcl F A) (.agg Q.cells.toArray)
 en:N=aQ P P.rn
theorem LP.below {w w':World} {P:Prob} {R Rr N:Nat} {F:Nat→Fr} {A:Nat→Bk} {va vn vd vg:Value} {G:PF} {Q O:Prob} {gv gr:Nat} (h:LP w P R Rr N F A va vn vd vg G Q O gv gr) (hb:Below w.heap.size w w'):LP w' P R Rr N F A va vn vd vg G Q O gv gr :=
 ⟨h.box.below hb,h.lj.below hb,h.hn,h.hF,h.cq,h.co,h.pq.below hb,h.po.below hb,h.tq.below hb,h.to.below hb,h.mks.below hb,by obtain ⟨B,hB,hf⟩:=h.fo;exact ⟨B,hB,hf.below hb⟩,h.en⟩
theorem FO.copy {w w0:World} {B:Nat} {P:Prob} {c:Nat→List Value} {v:Value} {F:Nat→Fr} {G:PF} (h:FO w B P c v) (hP:PQ w0 P) (hG:PFok P G) (hF:FN P G F) (hQ:∀ i,i<aQ P P.rn→Q3 w (c i) (F i)) :
 ∃ Q gv gr,v = .agg Q.cells.toArray∧Cpy P Q∧PQ w Q∧TPF w Q G∧Mks w Q gv gr:=by
 obtain ⟨p,a,na,ca,d,nd,cd,gv,vc,gr,rc,Q,rfl,hv,h1,h2,h3,h4,h5,h6⟩:=h.prob hP hG hF hQ
 exact ⟨_,gv,gr,hv,⟨rfl,rfl,rfl,rfl,rfl,rfl,rfl,rfl,rfl,rfl,rfl⟩,h1,h2,⟨rfl,rfl,h3,h4,h5,h6⟩⟩
theorem FrOk.lens {f:Fr} {S:Nat} (h:FrOk f S) (hS:S≤1048576):f.xs.length≤2000000∧f.ys.length≤2000000:=by
 have h1:=h.lx
 have h2:=h.ly
 omega
theorem FN.lens {w:World} {P:Prob} {G:PF} {F:Nat→Fr} (hP:PQ w P) (hG:PFok P G) (hF:FN P G F) (hK:P.K≤1048576):∀ i,i<aQ P P.rn→(F i).xs.length≤2000000∧(F i).ys.length≤2000000:=by
 have hall:=hP.all
 have key:∀ r,r≤P.rn→∀ i,i<aQ P r→(F i).xs.length≤2000000∧(F i).ys.length≤2000000:=by
  intro r
  induction r with
  | zero =>
   intro _ i hi
   have e:aQ P 0=1+3*P.vn:=rfl
   rcases (by omega:i=0∨0<i) with rfl|h0
   ·rw [hF.k];exact hG.k.1.lens (by omega)
   ·have hj:(i-1)/3<P.vn:=by omega
    have hz:P.ZV ((i-1)/3)≤1048576:=by have:=dF (Z:=P.ZV) hj;omega
    have hv:=hF.v _ hj
    have hg:=hG.v _ hj
    rcases (by omega:i=1+3*((i-1)/3)∨i=1+3*((i-1)/3)+1∨i=1+3*((i-1)/3)+2) with h|h|h
    ·rw [h,hv.1];exact hg.1.1.lens hz
    ·rw [h,hv.2.1];exact hg.2.1.1.lens hz
    ·rw [h,hv.2.2];exact hg.2.2.1.lens hz
  | succ r ih =>
   intro hr i hi
   rcases (by omega:i<aQ P r∨aQ P r≤i) with h|h
   ·exact ih (by omega) i h
   ·have e:aQ P (r+1)=aQ P r+2+(P.R r).nt:=rfl
    have hz:P.ZR r≤1048576:=by have:=dF (Z:=P.ZR) (show r<P.rn by omega);omega
    have hf:=hF.r r (by omega)
    have hg:=hG.r r (by omega)
    have h3:i=aQ P r∨i=aQ P r+1∨∃ k,k<(P.R r).nt∧i=aQ P r+2+k:=by
     rcases (by omega:i=aQ P r∨i=aQ P r+1∨aQ P r+2≤i) with h1|h1|h1
     ·exact .inl h1
     ·exact .inr (.inl h1)
     ·exact .inr (.inr ⟨i-(aQ P r+2),by omega,by omega⟩)
    rcases h3 with h1|h1|⟨k,hk,h1⟩
    ·rw [h1,hf.1];exact hg.1.1.lens hz
    ·rw [h1,hf.2.1];exact hg.2.1.1.lens hz
    ·rw [h1,hf.2.2 k hk]
     have:=dF (Z:=G.z r) hk
     exact (hg.2.2.1 k hk).1.lens (by have:=hg.2.2.2;omega)
 exact key P.rn (Nat.le_refl _)
end Go.Proofs.YtdcocflnafcikaaGreatDoor
