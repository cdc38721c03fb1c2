import Derived.Test.YtnokmjmefipplaaGreatDoorOpRAll
import Derived.Test.YtnokmjmefipplaaGreatDoorRatAll
import Derived.Deep.AppendLies
namespace Go.Proofs.YtnokmjmefipplaaGreatDoor
open Go.RowKit
theorem Got.offX {w w':World} {B R:Nat} {v:Value} {x:Int} {S:Nat} (h:Got w B v x S) (ho:Off R w w') (hR:v.ownBlock ≠ some R):Got w' B v x S:=by
 obtain ⟨xs,h1,h2⟩:=h
 refine ⟨xs,?_,h2⟩
 refine ⟨h1.1,?_⟩
 rcases h1.2 with hn | ⟨g,cap,cur,e1,e2,hgb,rest⟩
 ·exact .inl hn
 ·refine .inr ⟨g,cap,cur,e1,e2,(ho.block g (fun e=>hR ?_)).trans hgb,rest⟩
  subst e;rw [e1];rfl
def GX (w:World) (B R:Nat) (f:Bool) (c:Option Addr) (n k:Nat) (c':Option Addr) (n' k':Nat) (r:Rat) (S:Nat):Prop :=
 GR w B f c n k c' n' k' r S∧(Value.slice c n k).ownBlock ≠ some R∧(Value.slice c' n' k').ownBlock ≠ some R
theorem GX.off {w w':World} {B R:Nat} {f:Bool} {c:Option Addr} {n k:Nat} {c':Option Addr} {n' k':Nat} {r:Rat} {S:Nat} (h:GX w B R f c n k c' n' k' r S) (ho:Off R w w'):GX w' B R f c n k c' n' k' r S:=by
 refine ⟨⟨?_,h.1.2.offX ho h.2.2⟩,h.2⟩
 obtain ⟨a',n2,c2,h1,h2⟩:=h.1.1
 simp only [Value.agg.injEq,Array.mk.injEq,List.cons.injEq,and_true] at h1
 obtain ⟨h0,h1⟩:=h1
 simp only [Value.slice.injEq] at h1
 obtain ⟨rfl,rfl,rfl⟩:=h1
 exact ⟨c,n,k,by rw [h0],h2.offX ho h.2.1⟩
theorem GX.below {w w':World} {B R:Nat} {f:Bool} {c:Option Addr} {n k:Nat} {c':Option Addr} {n' k':Nat} {r:Rat} {S:Nat} (h:GX w B R f c n k c' n' k' r S) (hb:Below w.heap.size w w'):GX w' B R f c n k c' n' k' r S:=⟨h.1.below hb,h.2⟩
theorem GI.got {w:World} {B:Nat} {f:Bool} {c:Option Addr} {n k:Nat} {x:Int} {S:Nat} (h:GI w B (.agg #[.bool f,.slice c n k]) x S):Got w B (.slice c n k) (x.natAbs:Int) S:=by
 obtain ⟨a',n2,c2,h1,h2⟩:=h
 simp only [Value.agg.injEq,Array.mk.injEq,List.cons.injEq,and_true] at h1
 obtain ⟨h0,h1⟩:=h1
 simp only [Value.slice.injEq] at h1
 obtain ⟨rfl,rfl,rfl⟩:=h1
 exact h2
theorem GR.gx {w:World} {B R:Nat} {f:Bool} {c:Option Addr} {n k:Nat} {c':Option Addr} {n' k':Nat} {r:Rat} {S:Nat} (h:GR w B f c n k c' n' k' r S) (hR:R < B∨w.heap.size≤R):GX w B R f c n k c' n' k' r S:=by
 refine ⟨h,fun e=>?_,fun e=>?_⟩
 ·have:=h.1.got.lt R e;omega
 ·have:=h.2.lt R e;omega
theorem GX.mono {w:World} {B B' R:Nat} {f:Bool} {c:Option Addr} {n k:Nat} {c':Option Addr} {n' k':Nat} {r:Rat} {S:Nat} (h:GX w B R f c n k c' n' k' r S) (hB:B'≤B):GX w B' R f c n k c' n' k' r S:=⟨h.1.mono hB,h.2⟩
set_option maxHeartbeats 4000000 in
theorem sumQ (a:Option Addr) (n cap:Nat) (X:Nat→Rat) (Z:Nat→Nat) (T:Nat) (w:World) (hl:LQ w a n X Z) (hz:∀ i,i < n→1≤Z i∧T + Z i≤6000000) (hT1:1≤T) (hsz:∀ k,k≤n→SzR (aQ X k) T) (hn:n≤1100000) (hT:TB w) :
 Calls Tryz.prog 51 #[.slice a n cap] w fun e w'=>∃ f c n1 k c' n' k',e = .returned (.agg #[.bool f,.slice c n1 k,.slice c' n' k'])∧GR w' w.heap.size f c n1 k c' n' k' (aQ X n) T∧Below w.heap.size w w':=by
 have R0:=aN w (.bool false) (.slice none 0 0) (.slice none 0 0) 27
 have hb0:=aG w (.cells #[.bool false,.slice none 0 0,.slice none 0 0] 27)
 have hsw:(w.alloc (.cells #[.bool false,.slice none 0 0,.slice none 0 0] 27)).heap.size = w.heap.size + 1:=by simp
 have HS:Hid (∀ k,k≤n→SzR (aQ X k) T):=hsz
 clear hsz
 go_enter Tryz.func51,Tryz.ntmps51
 go_wp2_with fail
 generalize w.alloc (.cells #[.bool false,.slice none 0 0,.slice none 0 0] 27) = W0 at *
 refine (ofQ 0 _ (by decide) (by decide)).mono ?_
 rintro e w1 ⟨f0,c0,n0,k0,d0,m0,l0,rfl,G0,hx1⟩
 have hs1:=Below.size hx1
 replace G0:=(((G0.mono (B':=w.heap.size + 1) (by omega)).val (show ((0:Int):Rat) = aQ X 0 from rfl)).fit (HS.out 0 (Nat.zero_le _))).gx (R:=w1.heap.size) (.inr (Nat.le_refl _))
 replace R0:=R0.below hx1
 replace hb0:=aB hb0 hx1
 clear hx1
 have hz1:=aG w1 (.cells #[.bool f0,.slice c0 n0 k0,.slice d0 m0 l0] 27)
 have V0:=aN w1 (.bool f0) (.slice c0 n0 k0) (.slice d0 m0 l0) 27
 have hs2:(w1.alloc (.cells #[.bool f0,.slice c0 n0 k0,.slice d0 m0 l0] 27)).heap.size = w1.heap.size + 1:=by simp
 replace G0:=G0.below hz1
 replace R0:=R0.below hz1
 replace hb0:=aB hb0 hz1
 clear hz1
 go_wp2
 generalize w1.alloc (.cells #[.bool f0,.slice c0 n0 k0,.slice d0 m0 l0] 27) = W1 at *
 go_loopw [9] (fun s wr=>∃ (k:Nat) (f:Bool) (c:Option Addr) (n1 k1:Nat) (d:Option Addr) (m l:Nat),k≤n∧s = .int .i64 k∧Var3 wr w1.heap.size (.bool f) (.slice c n1 k1) (.slice d m l)∧GX wr (w.heap.size + 1) w1.heap.size f c n1 k1 d m l (aQ X k) T∧Var3 wr w.heap.size (.bool false) (.slice none 0 0) (.slice none 0 0)∧Below w.heap.size w wr∧w1.heap.size + 1≤wr.heap.size) (fun t _=>n - (intOf t).toNat)
 case atStart=>exact ⟨0,_,_,_,_,_,_,_,Nat.zero_le _,rfl,V0,G0,R0,hb0,by omega⟩
 case round =>
  obtain ⟨k,f,c,n1,k1,d,m,l,hk,rfl,V,G,R,hbel,hsw2⟩:=hrel
  clear V0 G0 R0 hb0
  by_cases hlt:k < n
  ·have hkI:(k:Int) < (n:Int):=by omega
   obtain ⟨hz1,hz2⟩:=hz k hlt
   rcases hl with h0 | ⟨b,o,rfl,hl⟩
   ·omega
   obtain ⟨pA,aA,nA,cA,dA,mA,lA,c0,c1,c2,hA⟩:=hl k hlt
   replace c0:=aF hbel c0
   replace c1:=aF hbel c1
   replace c2:=aF hbel c2
   replace hA:=hA.below hbel
   have hkI2:(k:Int) * 3 = ((k * 3:Nat):Int):=by omega
   have HS1:Hid (SzR (aQ X k + X k) T):=HS.out (k + 1) hlt
   have Z:=aN wr (.bool pA) (.slice aA nA cA) (.slice dA mA lA) 27
   have hz:=aG wr (.cells #[.bool pA,.slice aA nA cA,.slice dA mA lA] 27)
   replace V:=V.below hz
   replace R:=R.below hz
   replace G:=G.below hz
   replace hA:=hA.below hz
   replace hT:=hT.below (aB hbel hz)
   replace hbel:=aB hbel hz
   have hzs:=Below.size hz
   clear hz hl
   obtain ⟨z0,z1,z2,z3,z4,z5⟩:=id Z
   obtain ⟨v0,v1,v2,v3,v4,v5⟩:=id V
   go_wp2_with fail
   generalize wr.alloc (.cells #[.bool pA,.slice aA nA cA,.slice dA mA lA] 27) = W2 at *
   clear z0 z1 z2 z3 z4 z5 v0 v1 v2 v3 v4 v5 c0 c1 c2 Z
   refine (addQ _ G.1.tr hA (by omega) (by omega) (by omega) hT).mono ?_
   rintro e w2 ⟨g5,u5,m5,l5,u6,m6,l6,rfl,GG,h1⟩
   have hs3:=Below.size h1
   have GN:=((GG.fit HS1.out).gx (R:=w1.heap.size) (.inl (by omega))).mono (B':=w.heap.size + 1) (by omega)
   replace V:=V.below h1
   replace R:=R.below h1
   replace hbel:=aB hbel h1
   clear h1 GG G hA hT HS1
   obtain ⟨v0,v1,v2,v3,v4,v5⟩:=id V
   obtain ⟨V',O⟩:=V.set (.bool g5) (.slice u5 m5 l5) (.slice u6 m6 l6)
   have R':=R.off O (by omega)
   have hbel':Below w.heap.size w _:=hbel.trans (O.below (by omega))
   have GN':=GN.off O
   have hs4:=O.size
   clear V R hbel O GN
   go_wp2
   go_roundw
   case rel=>first | exact ⟨k + 1,_,_,_,_,_,_,_,by omega,by go_num,V',GN',R',hbel',by omega⟩ | ((repeat apply Exists.intro);refine ⟨?_,rfl⟩;exact ⟨k + 1,_,_,_,_,_,_,_,by omega,by go_num,V',GN',R',hbel',by omega⟩)
   case measure=>simp [intOf];omega
  ·have hkI:¬ (k:Int) < (n:Int):=by omega
   obtain rfl:k = n:=by omega
   clear hl hz HS
   obtain ⟨v0,v1,v2,v3,v4,v5⟩:=id V
   obtain ⟨r0,r1,r2,r3,r4,r5⟩:=id R
   obtain ⟨VV,O⟩:=R.set (.bool f) (.slice c n1 k1) (.slice d m l)
   have GF:=G.1.off O (by omega)
   have hw:=hbel.trans (O.below (by omega))
   clear R O G hbel V
   go_wp2
   refine bodyPost_ret (v:=.agg #[.bool f,.slice c n1 k1,.slice d m l]) (by simp [results,Tryz.results51,go_sem,VV.c0,VV.c1,VV.c2]) rfl ?_
   replace GF:=GF.mono (B':=w.heap.size) (by omega)
   cases f
   ·exact .inl ⟨_,_,_,_,_,_,rfl,GF,hw⟩
   ·exact .inr ⟨_,_,_,_,_,_,rfl,GF,hw⟩
theorem gK {w w1:World} {o:Obj} (h:Below w.heap.size w w1):Below w.heap.size w (w1.alloc o):=aB h (aG _ _)
theorem qO {w w1:World} {B:Nat} (h:Below B w w1):Below B w w1.drew:=dJ h 1
theorem dI {w:World} {g:Nat} {cur:Array Value} {e:TypeId} {vs:List Value} {q j:Nat} {u:Value} (hg:w.heap[g]? = some (.cells cur e (0,0))) (ht:cur.toList.take q = vs) (hj:vs[j]? = some u):w.cell? ⟨g,j,none⟩ = some u:=by
 have hlt:j < q:=by
  have h:=(List.getElem?_eq_some_iff.1 hj).1
  rw [← ht,List.length_take] at h
  omega
 have e1:cur[j]? = some u:=by
  rw [← ht,List.getElem?_take_of_lt hlt] at hj
  rw [← Array.getElem?_toList];exact hj
 simp [World.cell?,hg,e1]
def RL (w:World) (B:Nat) (v:Value) (n:Nat) (X:Nat→Rat) (S:Nat):Prop :=
 ∃ vs:List Value,w.ownsRow B 27 3 v n vs∧∀ i,i < n→∃ p a na ca d nd cd,vs[i * 3]? = some (.bool p)∧vs[i * 3 + 1]? = some (.slice a na ca)∧vs[i * 3 + 2]? = some (.slice d nd cd)∧GR w B p a na ca d nd cd (X i) S
theorem RL.nil (w:World) (B:Nat) (X:Nat→Rat) (S:Nat):RL w B (.slice none 0 0) 0 X S:=⟨[],World.ownsRow_nil _ _ _ _,fun i hi=>by omega⟩
theorem RL.below {w w':World} {B:Nat} {v:Value} {n:Nat} {X:Nat→Rat} {S:Nat} (h:RL w B v n X S) (hb:Below w.heap.size w w'):RL w' B v n X S:=by
 obtain ⟨vs,h1,h2⟩:=h
 refine ⟨vs,⟨h1.1,?_⟩,fun i hi=>?_⟩
 ·rcases h1.2 with hn | ⟨g,cap,cur,e1,e2,hgb,rest⟩
  ·exact .inl hn
  ·exact .inr ⟨g,cap,cur,e1,e2,(hb.block g (Array.getElem?_eq_some_iff.1 hgb).1).trans hgb,rest⟩
 ·obtain ⟨p,a,na,ca,d,nd,cd,g1,g2,g3,g4⟩:=h2 i hi
  exact ⟨p,a,na,ca,d,nd,cd,g1,g2,g3,g4.below hb⟩
theorem RL.form {w:World} {B:Nat} {v:Value} {n:Nat} {X:Nat→Rat} {S:Nat} (h:RL w B v n X S):∃ a cap,v = .slice a n cap:=by
 obtain ⟨vs,h1,h2⟩:=h
 rcases h1.2 with ⟨rfl,rfl⟩ | ⟨g,cap,cur,e1,_⟩
 ·exact ⟨_,_,rfl⟩
 ·exact ⟨_,_,e1⟩
theorem RL.lt {w:World} {B:Nat} {v:Value} {n:Nat} {X:Nat→Rat} {S:Nat} (h:RL w B v n X S):∀ k,v.ownBlock = some k→B≤k∧k < w.heap.size:=by
 obtain ⟨vs,h1,h2⟩:=h
 exact World.ownsRow.lt h1
theorem RL.lq {w:World} {B:Nat} {a:Option Addr} {m n cap:Nat} {X:Nat→Rat} {S:Nat} (h:RL w B (.slice a m cap) n X S):LQ w a n X (fun _=>S):=by
 obtain ⟨vs,h1,h2⟩:=h
 rcases h1.2 with ⟨e1,e2⟩ | ⟨g,cap,cur,e1,_,hg,_,_,_,ht⟩
 ·exact .inl e2
 ·simp only [Value.slice.injEq] at e1
  obtain ⟨rfl,_,_⟩:=e1
  refine .inr ⟨g,0,rfl,fun i hi=>?_⟩
  obtain ⟨p,a,na,ca,d,nd,cd,g1,g2,g3,g4⟩:=h2 i hi
  refine ⟨p,a,na,ca,d,nd,cd,?_,?_,?_,g4.tr⟩
  ·rw [Nat.zero_add];exact dI hg ht g1
  ·rw [Nat.zero_add];exact dI hg ht g2
  ·rw [Nat.zero_add];exact dI hg ht g3
theorem row_ne3 {w:World} {B B':Nat} {v u:Value} {n m:Nat} {xs ys:List Value} (h:w.ownsRow B 80 1 v n xs) (k:w.ownsRow B' 27 3 u m ys):∀ g,v.ownBlock = some g→u.ownBlock ≠ some g:=by
 intro g h1 h2
 rcases h.2 with ⟨e1,_⟩ | ⟨g1,c1,cur1,e1,_,f1,_⟩
 ·subst e1;simp [Value.ownBlock] at h1
 ·rcases k.2 with ⟨e2,_⟩ | ⟨g2,c2,cur2,e2,_,f2,_⟩
  ·subst e2;simp [Value.ownBlock] at h2
  ·subst e1 e2
   simp [Value.ownBlock] at h1 h2
   subst h1 h2
   rw [f1] at f2
   simp at f2
theorem row_or {v u:Value} (h:∀ g,v.ownBlock = some g→u.ownBlock ≠ some g):v.ownBlock = none∨v.ownBlock ≠ u.ownBlock:=by
 cases e:v.ownBlock with
 | none=>exact .inl rfl
 | some g=>exact .inr fun e2=>h g e e2.symm
theorem Got.grow3 {w w':World} {B:Nat} {v:Value} {x:Int} {S:Nat} (h:Got w B v x S) {B':Nat} {lv:Value} {n:Nat} {ys:List Value} (k:w.ownsRow B' 27 3 lv n ys) (hg:w.grownBy w' lv.ownBlock):Got w' B v x S:=by
 obtain ⟨xs,h1,h2⟩:=h
 exact ⟨xs,World.ownsRow.kept h1 hg (row_or (row_ne3 h1 k)),h2⟩
theorem GR.grow3 {w w':World} {B:Nat} {f:Bool} {c:Option Addr} {n k:Nat} {c':Option Addr} {n' k':Nat} {r:Rat} {S:Nat} (h:GR w B f c n k c' n' k' r S) {B':Nat} {lv:Value} {m:Nat} {ys:List Value} (q:w.ownsRow B' 27 3 lv m ys) (hg:w.grownBy w' lv.ownBlock):GR w' B f c n k c' n' k' r S:=by
 refine ⟨?_,h.2.grow3 q hg⟩
 obtain ⟨a,n2,c2,h1,h2⟩:=h.1
 exact ⟨a,n2,c2,h1,h2.grow3 q hg⟩
theorem Var3.grown {w w':World} {R:Nat} {u v z:Value} (h:Var3 w R u v z) {row:Option Nat} (hg:w.grownBy w' row) (hne:row ≠ some R):Var3 w' R u v z:=h.of_block (hg.block R h.lt (fun e=>hne e.symm))
theorem fK {w:World} {h:Nat} {u v z:Value} {t:TypeId} (hh:h = w.heap.size):(w.alloc (.cells #[u,v,z] t)).cell? ⟨h,0,none⟩ = some u∧(w.alloc (.cells #[u,v,z] t)).cell? ⟨h,1,none⟩ = some v∧(w.alloc (.cells #[u,v,z] t)).cell? ⟨h,2,none⟩ = some z:=by
 subst hh
 have V:=aN w u v z t
 exact ⟨V.c0,V.c1,V.c2⟩
theorem Tryz.infoRat:(Tryz.prog.info? 27).map (fun i=>(i.zero.map (fun z=>z.cells.size),i.size,i.bytes)) = some (some 3,3,56):=by kernel_rfl
theorem info3:∃ i z,Tryz.prog.info? 27 = some i∧i.zero = some z∧i.size = 3∧i.bytes = 56∧z.cells.size = 3:=by
 obtain ⟨i,hi,h⟩:=Option.map_eq_some_iff.1 Tryz.infoRat
 simp only [Prod.mk.injEq] at h
 obtain ⟨h1,h2,h3⟩:=h
 obtain ⟨z,hz,h4⟩:=Option.map_eq_some_iff.1 h1
 exact ⟨i,z,hi,hz,h2,h3,h4⟩
theorem pK {vs:List Value} {n:Nat} {x y z:Value} (h:vs.length = n * 3):(vs ++ [x,y,z])[n * 3]? = some x∧(vs ++ [x,y,z])[n * 3 + 1]? = some y∧(vs ++ [x,y,z])[n * 3 + 2]? = some z:=by
 refine ⟨?_,?_,?_⟩
 ·rw [List.getElem?_append_right (by omega),h,Nat.sub_self];rfl
 ·rw [List.getElem?_append_right (by omega),h,Nat.add_sub_cancel_left];rfl
 ·rw [List.getElem?_append_right (by omega),h,Nat.add_sub_cancel_left];rfl
theorem lY (w:World) {ops:Array Oper} {rest:List Oper} {o:Oper} {a:Act} {Q:Exit→Act→World→Prop} (hgd:o.guard = none) (s x:Operand)
 (ho:o.op = .call { callee:=.builtin .append,args:=#[s,x],argTypes:=#[32,32] }) (B:Nat) (v:Value) (n:Nat) (X:Nat→Rat) (S:Nat) (hs:a.eval s = v) (hown:RL w B v n X S) (h c:Nat) (hx:a.eval x = .slice (some ⟨h,0,none⟩) 1 c)
 (f:Bool) (c1:Option Addr) (n1 k1:Nat) (c2:Option Addr) (n2 k2:Nat) (hc:w.cell? ⟨h,0,none⟩ = some (.bool f)∧w.cell? ⟨h,1,none⟩ = some (.slice c1 n1 k1)∧w.cell? ⟨h,2,none⟩ = some (.slice c2 n2 k2)) (hG:GR w B f c1 n1 k1 c2 n2 k2 (X n) S)
 (hlen:n≤1000000000000) (hB:B≤w.heap.size) (H:Nat) (hH:w.heap.size = H)
 (hK:∀ g cap w',RL w' B (.slice (some ⟨g,0,none⟩) (n + 1) cap) (n + 1) X S→w.grownBy w' v.ownBlock→(v.ownBlock = some g∨g = H)→g < w'.heap.size→wpList Tryz.prog ops Q rest (a.put o.dst (.slice (some ⟨g,0,none⟩) (n + 1) cap)) w') :
 wpList Tryz.prog ops Q (o :: rest) a w:=by
 obtain ⟨vs,h1,h2⟩:=hown
 obtain ⟨i0,z,hi,hz,hs3,hb56,hz3⟩:=info3
 refine wpList_append_lies w hgd s x 32 ho B 27 i0 z 3 56 Tryz.underlying32 hi hz hs3 hb56 hz3 (by decide) v n vs hs h1 ⟨h,0,none⟩ 1 c [.bool f,.slice c1 n1 k1,.slice c2 n2 k2] hx rfl ?_ (fun u hu=>by simp at hu;rcases hu with rfl | rfl | rfl <;> rfl) (by decide) (by unfold maxLen;omega) (by omega) hB H hH ?_
 ·intro j u hj
  match j,hj with
  | 0,hj=>simp at hj;subst hj;simpa [Addr.add] using hc.1
  | 1,hj=>simp at hj;subst hj;simpa [Addr.add] using hc.2.1
  | 2,hj=>simp at hj;subst hj;simpa [Addr.add] using hc.2.2
 ·intro g cap w' r1 r2 r3 r4
  refine hK g cap w' ⟨_,r1,fun i hi=>?_⟩ r2 r3 r4
  rcases (by omega:i < n∨i = n) with hi | rfl
  ·obtain ⟨p,a,na,ca,d,nd,cd,g1,g2,g3,g4⟩:=h2 i hi
   have e:vs.length = n * 3:=h1.1
   refine ⟨p,a,na,ca,d,nd,cd,?_,?_,?_,g4.grow3 h1 r2⟩
   ·rw [List.getElem?_append_left (by omega)];exact g1
   ·rw [List.getElem?_append_left (by omega)];exact g2
   ·rw [List.getElem?_append_left (by omega)];exact g3
  ·obtain ⟨e1,e2,e3⟩:=pK (x:=.bool f) (y:=.slice c1 n1 k1) (z:=.slice c2 n2 k2) h1.1
   exact ⟨f,c1,n1,k1,c2,n2,k2,e1,e2,e3,hG.grow3 h1 r2⟩
end Go.Proofs.YtnokmjmefipplaaGreatDoor
