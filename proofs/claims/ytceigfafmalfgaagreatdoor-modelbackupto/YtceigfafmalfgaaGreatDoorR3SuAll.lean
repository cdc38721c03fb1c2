import Derived.Test.YtceigfafmalfgaaGreatDoorR3LiAll
import Derived.Test.YtceigfafmalfgaaGreatDoorRatAll
import Derived.Deep.AppendLies
namespace Go.Proofs.YtceigfafmalfgaaGreatDoor
open Go.RowKit
theorem Got.offX {w w':World} {B R:Nat} {v:Value} {x:Int} {S:Nat} (h:Got w B v x S) (ho:Off R w w') (hR:v.ownBlock≠some R):Got w' B v x S:=by
 obtain ⟨xs,h1,h2⟩:=h
 refine ⟨xs,?_,h2⟩
 refine ⟨h1.1,?_⟩
 rcases h1.2 with hn|⟨g,cap,cur,e1,e2,hgb,rest⟩
 ·exact .inl hn
 ·refine .inr ⟨g,cap,cur,e1,e2,(ho.block g (fun e=>hR ?_)).trans hgb,rest⟩
  subst e;rw [e1];rfl
def GX (w:World) (B R:Nat) (f:Bool) (c:Option Addr) (n k:Nat) (c':Option Addr) (n' k':Nat) (r:Rat) (S:Nat):Prop :=
 GR w B f c n k c' n' k' r S∧(Value.slice c n k).ownBlock≠some R∧(Value.slice c' n' k').ownBlock≠some R
theorem GX.off {w w':World} {B R:Nat} {f:Bool} {c:Option Addr} {n k:Nat} {c':Option Addr} {n' k':Nat} {r:Rat} {S:Nat} (h:GX w B R f c n k c' n' k' r S) (ho:Off R w w'):GX w' B R f c n k c' n' k' r S:=by
 refine ⟨⟨?_,h.1.2.offX ho h.2.2,h.1.3⟩,h.2⟩
 obtain ⟨a',n2,c2,h1,h2⟩:=h.1.1
 simp only [Value.agg.injEq,Array.mk.injEq,List.cons.injEq,and_true] at h1
 obtain ⟨h0,h1⟩:=h1
 simp only [Value.slice.injEq] at h1
 obtain ⟨rfl,rfl,rfl⟩:=h1
 exact ⟨c,n,k,by rw [h0],h2.offX ho h.2.1⟩
theorem GX.below {w w':World} {B R:Nat} {f:Bool} {c:Option Addr} {n k:Nat} {c':Option Addr} {n' k':Nat} {r:Rat} {S:Nat} (h:GX w B R f c n k c' n' k' r S) (hb:Below w.heap.size w w'):GX w' B R f c n k c' n' k' r S:=⟨h.1.below hb,h.2⟩
theorem GI.got {w:World} {B:Nat} {f:Bool} {c:Option Addr} {n k:Nat} {x:Int} {S:Nat} (h:GI w B (.agg #[.bool f,.slice c n k]) x S):Got w B (.slice c n k) (x.natAbs:Int) S:=by
 obtain ⟨a',n2,c2,h1,h2⟩:=h
 simp only [Value.agg.injEq,Array.mk.injEq,List.cons.injEq,and_true] at h1
 obtain ⟨h0,h1⟩:=h1
 simp only [Value.slice.injEq] at h1
 obtain ⟨rfl,rfl,rfl⟩:=h1
 exact h2
theorem GR.gx {w:World} {B R:Nat} {f:Bool} {c:Option Addr} {n k:Nat} {c':Option Addr} {n' k':Nat} {r:Rat} {S:Nat} (h:GR w B f c n k c' n' k' r S) (hR:R<B∨w.heap.size≤R):GX w B R f c n k c' n' k' r S:=by
 refine ⟨h,fun e=>?_,fun e=>?_⟩
 ·have:=h.1.got.lt R e;omega
 ·have:=h.2.lt R e;omega
theorem GX.mono {w:World} {B B' R:Nat} {f:Bool} {c:Option Addr} {n k:Nat} {c':Option Addr} {n' k':Nat} {r:Rat} {S:Nat} (h:GX w B R f c n k c' n' k' r S) (hB:B'≤B):GX w B' R f c n k c' n' k' r S:=⟨h.1.mono hB,h.2⟩
set_option maxHeartbeats 4000000 in
theorem sumQ (a:Option Addr) (n cap:Nat) (X:Nat→Rat) (Z:Nat→Nat) (T:Nat) (w:World) (hl:LQ w a n X Z) (hz:∀ i,i<n→1≤Z i∧T+Z i≤6000000) (hT1:1≤T) (hsz:∀ k,k≤n→SzR (rsum X k) T) (hn:n≤1100000) (hT:TB w) :
  Calls Tryz.prog 31 #[.slice a n cap] w fun e w'=>∃ f c n1 k c' n' k',e = .returned (.agg #[.bool f,.slice c n1 k,.slice c' n' k'])∧GR w' w.heap.size f c n1 k c' n' k' (rsum X n) T∧Below w.heap.size w w':=by
 have R0:=var3_new w (.bool false) (.slice none 0 0) (.slice none 0 0) 27
 have hb0:=bel_d0 w (.cells #[.bool false,.slice none 0 0,.slice none 0 0] 27)
 have hsw:(w.alloc (.cells #[.bool false,.slice none 0 0,.slice none 0 0] 27)).heap.size=w.heap.size+1:=by simp
 have HS:Hid (∀ k,k≤n→SzR (rsum X k) T):=hsz
 clear hsz
 go_enter Tryz.func31,Tryz.ntmps31
 go_wp2_with fail
 generalize w.alloc (.cells #[.bool false,.slice none 0 0,.slice none 0 0] 27)=W0 at *
 refine (ofQ 0 _ (by decide) (by decide)).mono ?_
 rintro e w1 ⟨f0,c0,n0,k0,d0,m0,l0,rfl,G0,hx1⟩
 have hs1:=Below.size hx1
 replace G0:=(((G0.mono (B':=w.heap.size+1) (by omega)).val (show ((0:Int):Rat)=rsum X 0 from rfl)).fit (HS.out 0 (Nat.zero_le _))).gx (R:=w1.heap.size) (.inr (Nat.le_refl _))
 replace R0:=R0.below hx1
 replace hb0:=bel_tr hb0 hx1
 clear hx1
 have hz1:=bel_d0 w1 (.cells #[.bool f0,.slice c0 n0 k0,.slice d0 m0 l0] 27)
 have V0:=var3_new w1 (.bool f0) (.slice c0 n0 k0) (.slice d0 m0 l0) 27
 have hs2:(w1.alloc (.cells #[.bool f0,.slice c0 n0 k0,.slice d0 m0 l0] 27)).heap.size=w1.heap.size+1:=by simp
 replace G0:=G0.below hz1
 replace R0:=R0.below hz1
 replace hb0:=bel_tr hb0 hz1
 clear hz1
 go_wp2
 generalize w1.alloc (.cells #[.bool f0,.slice c0 n0 k0,.slice d0 m0 l0] 27)=W1 at *
 go_loopw [9] (fun s wr=>∃ (k:Nat) (f:Bool) (c:Option Addr) (n1 k1:Nat) (d:Option Addr) (m l:Nat),k≤n∧s = .int .i64 k∧Var3 wr w1.heap.size (.bool f) (.slice c n1 k1) (.slice d m l)∧GX wr (w.heap.size+1) w1.heap.size f c n1 k1 d m l (rsum X k) T∧Var3 wr w.heap.size (.bool false) (.slice none 0 0) (.slice none 0 0)∧Below w.heap.size w wr∧w1.heap.size+1≤wr.heap.size) (fun t _=>n-(intOf t).toNat)
 case atStart=>exact ⟨0,_,_,_,_,_,_,_,Nat.zero_le _,rfl,V0,G0,R0,hb0,by omega⟩
 case round =>
  obtain ⟨k,f,c,n1,k1,d,m,l,hk,rfl,V,G,R,hbel,hsw2⟩:=hrel
  clear V0 G0 R0 hb0
  by_cases hlt:k<n
  ·have hkI:(k:Int)<(n:Int):=by omega
   obtain ⟨hz1,hz2⟩:=hz k hlt
   rcases hl with h0|⟨b,o,rfl,hl⟩
   ·omega
   obtain ⟨pA,aA,nA,cA,dA,mA,lA,c0,c1,c2,hA⟩:=hl k hlt
   replace c0:=kept_c hbel c0
   replace c1:=kept_c hbel c1
   replace c2:=kept_c hbel c2
   replace hA:=hA.below hbel
   have hkI2:(k:Int)*3=((k*3:Nat):Int):=by omega
   have HS1:Hid (SzR (rsum X k+X k) T):=HS.out (k+1) hlt
   have Z:=var3_new wr (.bool pA) (.slice aA nA cA) (.slice dA mA lA) 27
   have hz:=bel_d0 wr (.cells #[.bool pA,.slice aA nA cA,.slice dA mA lA] 27)
   replace V:=V.below hz
   replace R:=R.below hz
   replace G:=G.below hz
   replace hA:=hA.below hz
   replace hT:=hT.below (bel_tr hbel hz)
   replace hbel:=bel_tr hbel hz
   have hzs:=Below.size hz
   clear hz hl
   obtain ⟨z0,z1,z2,z3,z4,z5⟩:=id Z
   obtain ⟨v0,v1,v2,v3,v4,v5⟩:=id V
   go_wp2_with fail
   generalize wr.alloc (.cells #[.bool pA,.slice aA nA cA,.slice dA mA lA] 27)=W2 at *
   clear z0 z1 z2 z3 z4 z5 v0 v1 v2 v3 v4 v5 c0 c1 c2 Z
   refine (addQ _ G.1.tr hA (by omega) (by omega) (by omega) hT).mono ?_
   rintro e w2 ⟨g5,u5,m5,l5,u6,m6,l6,rfl,GG,h1⟩
   have hs3:=Below.size h1
   have GN:=((GG.fit HS1.out).gx (R:=w1.heap.size) (.inl (by omega))).mono (B':=w.heap.size+1) (by omega)
   replace V:=V.below h1
   replace R:=R.below h1
   replace hbel:=bel_tr hbel h1
   clear h1 GG G hA hT HS1
   obtain ⟨v0,v1,v2,v3,v4,v5⟩:=id V
   obtain ⟨V',O⟩:=V.set (.bool g5) (.slice u5 m5 l5) (.slice u6 m6 l6)
   have R':=R.off O (by omega)
   have hbel':Below w.heap.size w _:=hbel.trans (O.below (by omega))
   have GN':=GN.off O
   have hs4:=O.size
   clear V R hbel O GN
   go_wp2
   go_roundw
   case rel=>first|exact ⟨k+1,_,_,_,_,_,_,_,by omega,by go_num,V',GN',R',hbel',by omega⟩|((repeat apply Exists.intro);refine ⟨?_,rfl⟩;exact ⟨k+1,_,_,_,_,_,_,_,by omega,by go_num,V',GN',R',hbel',by omega⟩)
   case measure=>simp [intOf];omega
  ·have hkI:¬ (k:Int)<(n:Int):=by omega
   obtain rfl:k=n:=by omega
   clear hl hz HS
   obtain ⟨v0,v1,v2,v3,v4,v5⟩:=id V
   obtain ⟨r0,r1,r2,r3,r4,r5⟩:=id R
   obtain ⟨VV,O⟩:=R.set (.bool f) (.slice c n1 k1) (.slice d m l)
   have GF:=G.1.off O (by omega)
   have hw:=hbel.trans (O.below (by omega))
   clear R O G hbel V
   go_wp2
   refine bodyPost_ret (v:=.agg #[.bool f,.slice c n1 k1,.slice d m l]) (by simp [results,Tryz.results31,go_sem,VV.c0,VV.c1,VV.c2]) rfl ?_
   replace GF:=GF.mono (B':=w.heap.size) (by omega)
   cases f
   ·exact .inl ⟨_,_,_,_,_,_,rfl,GF,hw⟩
   ·exact .inr ⟨_,_,_,_,_,_,rfl,GF,hw⟩
theorem bel_a {w w1:World} {o:Obj} (h:Below w.heap.size w w1):Below w.heap.size w (w1.alloc o):=bel_tr h (bel_d0 _ _)
theorem bel_dr {w w1:World} {B:Nat} (h:Below B w w1):Below B w w1.drew:=belN h 1
theorem row_cell {w:World} {g:Nat} {cur:Array Value} {e:TypeId} {vs:List Value} {q j:Nat} {u:Value} (hg:w.heap[g]? = some (.cells cur e (0,0))) (ht:cur.toList.take q=vs) (hj:vs[j]? = some u):w.cell? ⟨g,j,none⟩=some u:=by
 have hlt:j<q:=by
  have h:=(List.getElem?_eq_some_iff.1 hj).1
  rw [← ht,List.length_take] at h
  omega
 have e1:cur[j]? = some u:=by
  rw [← ht,List.getElem?_take_of_lt hlt] at hj
  rw [← Array.getElem?_toList];exact hj
 simp [World.cell?,hg,e1]
def RL (w:World) (B:Nat) (v:Value) (n:Nat) (X:Nat→Rat) (S:Nat):Prop :=
 ∃ vs:List Value,w.ownsRow B 27 3 v n vs∧∀ i,i<n→∃ p a na ca d nd cd,vs[i*3]? = some (.bool p)∧vs[i*3+1]? = some (.slice a na ca)∧vs[i*3+2]? = some (.slice d nd cd)∧GR w B p a na ca d nd cd (X i) S
theorem RL.nil (w:World) (B:Nat) (X:Nat→Rat) (S:Nat):RL w B (.slice none 0 0) 0 X S:=⟨[],World.ownsRow_nil _ _ _ _,fun i hi=>by omega⟩
theorem row_ne3 {w:World} {B B':Nat} {v u:Value} {n m:Nat} {xs ys:List Value} (h:w.ownsRow B 57 1 v n xs) (k:w.ownsRow B' 27 3 u m ys):∀ g,v.ownBlock=some g→u.ownBlock≠some g:=by
 intro g h1 h2
 rcases h.2 with ⟨e1,_⟩|⟨g1,c1,cur1,e1,_,f1,_⟩
 ·subst e1;simp [Value.ownBlock] at h1
 ·rcases k.2 with ⟨e2,_⟩|⟨g2,c2,cur2,e2,_,f2,_⟩
  ·subst e2;simp [Value.ownBlock] at h2
  ·subst e1 e2
   simp [Value.ownBlock] at h1 h2
   subst h1 h2
   rw [f1] at f2
   simp at f2
theorem row_or {v u:Value} (h:∀ g,v.ownBlock=some g→u.ownBlock≠some g):v.ownBlock=none∨v.ownBlock≠u.ownBlock:=by
 cases e:v.ownBlock with
 | none=>exact .inl rfl
 | some g=>exact .inr fun e2=>h g e e2.symm
theorem Got.grow3 {w w':World} {B:Nat} {v:Value} {x:Int} {S:Nat} (h:Got w B v x S) {B':Nat} {lv:Value} {n:Nat} {ys:List Value} (k:w.ownsRow B' 27 3 lv n ys) (hg:w.grownBy w' lv.ownBlock):Got w' B v x S:=by
 obtain ⟨xs,h1,h2⟩:=h
 exact ⟨xs,World.ownsRow.kept h1 hg (row_or (row_ne3 h1 k)),h2⟩
theorem GR.grow3 {w w':World} {B:Nat} {f:Bool} {c:Option Addr} {n k:Nat} {c':Option Addr} {n' k':Nat} {r:Rat} {S:Nat} (h:GR w B f c n k c' n' k' r S) {B':Nat} {lv:Value} {m:Nat} {ys:List Value} (q:w.ownsRow B' 27 3 lv m ys) (hg:w.grownBy w' lv.ownBlock):GR w' B f c n k c' n' k' r S:=by
 refine ⟨?_,h.2.grow3 q hg,h.3⟩
 obtain ⟨a,n2,c2,h1,h2⟩:=h.1
 exact ⟨a,n2,c2,h1,h2.grow3 q hg⟩
theorem cell_new3 {w:World} {h:Nat} {u v z:Value} {t:TypeId} (hh:h=w.heap.size):(w.alloc (.cells #[u,v,z] t)).cell? ⟨h,0,none⟩=some u∧(w.alloc (.cells #[u,v,z] t)).cell? ⟨h,1,none⟩=some v∧(w.alloc (.cells #[u,v,z] t)).cell? ⟨h,2,none⟩=some z:=by
 subst hh
 have V:=var3_new w u v z t
 exact ⟨V.c0,V.c1,V.c2⟩
theorem Tryz.infoRat:(Tryz.prog.info? 27).map (fun i=>(i.zero.map (fun z=>z.cells.size),i.size,i.bytes))=some (some 3,3,56):=by kernel_rfl
theorem info3:∃ i z,Tryz.prog.info? 27=some i∧i.zero=some z∧i.size=3∧i.bytes=56∧z.cells.size=3:=by
 obtain ⟨i,hi,h⟩:=Option.map_eq_some_iff.1 Tryz.infoRat
 simp only [Prod.mk.injEq] at h
 obtain ⟨h1,h2,h3⟩:=h
 obtain ⟨z,hz,h4⟩:=Option.map_eq_some_iff.1 h1
 exact ⟨i,z,hi,hz,h2,h3,h4⟩
theorem vs_snoc {vs:List Value} {n:Nat} {x y z:Value} (h:vs.length=n*3):(vs++[x,y,z])[n*3]? = some x∧(vs++[x,y,z])[n*3+1]? = some y∧(vs++[x,y,z])[n*3+2]? = some z:=by
 refine ⟨?_,?_,?_⟩
 ·rw [List.getElem?_append_right (by omega),h,Nat.sub_self];rfl
 ·rw [List.getElem?_append_right (by omega),h,Nat.add_sub_cancel_left];rfl
 ·rw [List.getElem?_append_right (by omega),h,Nat.add_sub_cancel_left];rfl
end Go.Proofs.YtceigfafmalfgaaGreatDoor
