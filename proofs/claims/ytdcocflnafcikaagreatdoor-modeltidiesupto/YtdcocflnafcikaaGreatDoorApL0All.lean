import Derived.Test.YtdcocflnafcikaaGreatDoorPqBAll
import Derived.Test.YtdcocflnafcikaaGreatDoorApAll
import Derived.Test.YtdcocflnafcikaaGreatDoorPrCAll
import Derived.Test.YtdcocflnafcikaaGreatDoorPrDAll
namespace Go.Proofs.YtdcocflnafcikaaGreatDoor
open Go.RowKit
theorem SL.blk {w:World} {B:Nat} {T:TypeId} {c:Nat} {a:Option Addr} {m n cap:Nat} {E:Nat→List Value} (h:SL w B T c (.slice a m cap) n E) (hn:0<n):∃ g,a=some ⟨g,0,none⟩∧B≤g∧g<w.heap.size∧∀ j,w.frozen? ⟨g,j,none⟩=false:=by
 obtain ⟨vs,h1,h2⟩:=h
 rcases h1.2 with ⟨_,e⟩|⟨g,cap2,cur,e,hg,hgb,_⟩
 ·omega
 ·simp only [Value.slice.injEq] at e
  exact ⟨g,e.1,hg,(Array.getElem?_eq_some_iff.1 hgb).1,fun j=>frozen_of_row w g j cur T hgb⟩
theorem SL.kn {w w':World} {B:Nat} {T:TypeId} {c:Nat} {v:Value} {n:Nat} {E:Nat→List Value} (h:SL w B T c v n E) (k:KN w w') (h1:T≠63) (h2:T≠23):SL w' B T c v n E:=by
 obtain ⟨vs,r,hc⟩:=h
 refine ⟨vs,⟨r.1,?_⟩,hc⟩
 rcases r.2 with hn|⟨g,cap,cur,e1,e2,hgb,rest⟩
 ·exact .inl hn
 ·exact .inr ⟨g,cap,cur,e1,e2,k.1 g cur T h1 h2 hgb,rest⟩
theorem SL.setc {w:World} {B:Nat} {T:TypeId} {c:Nat} {a:Option Addr} {m n cap:Nat} {E:Nat→List Value} (h:SL w B T c (.slice a m cap) n E) {g i j:Nat} (hg:a=some ⟨g,0,none⟩) (hi:i<n) (hj:j<c) (u:Value) :
 SL (w.setCell ⟨g,i*c+j,none⟩ u) B T c (.slice a m cap) n (fun k=>if k=i then (E i).set j u else E k):=by
 subst hg
 obtain ⟨vs,h1,h2⟩:=h
 have hlt:i*c+j<n*c:=by
  have:(i+1)*c≤n*c:=Nat.mul_le_mul_right c hi
  rw [Nat.add_mul,Nat.one_mul] at this
  omega
 refine ⟨vs.set (i*c+j) u,⟨by rw [List.length_set];exact h1.1,?_⟩,fun k hk q x hx=>?_⟩
 ·rcases h1.2 with ⟨_,e⟩|⟨g2,cap2,cur,e,hB,hgb,q1,q2,q3,q4⟩
  ·omega
  ·simp only [Value.slice.injEq,Option.some.injEq,Addr.mk.injEq] at e
   obtain ⟨⟨rfl,_,_⟩,rfl,rfl⟩:=e
   refine .inr ⟨g,cap,cur.setIfInBounds (i*c+j) u,rfl,hB,heap_setCell_same w g (i*c+j) cur T u hgb,q1,q2,by rw [Array.size_setIfInBounds];exact q3,?_⟩
   rw [← q4,Array.toList_setIfInBounds,List.take_set]
 ·by_cases e:k=i
  ·subst e
   simp only [if_true] at hx
   rw [List.getElem?_set] at hx
   by_cases hq:j=q
   ·subst hq
    rw [if_pos rfl] at hx
    split at hx
    ·refine ⟨hj,?_⟩
     rw [List.getElem?_set,if_pos rfl,if_pos (by rw [h1.1];exact hlt)]
     exact hx
    ·cases hx
   ·rw [if_neg hq] at hx
    obtain ⟨k1,k2⟩:=h2 k hi q x hx
    refine ⟨k1,?_⟩
    rw [List.getElem?_set,if_neg (by omega)]
    exact k2
  ·simp only [if_neg e] at hx
   obtain ⟨k1,k2⟩:=h2 k hk q x hx
   refine ⟨k1,?_⟩
   have hne:¬ i*c+j=k*c+q:=fun h=>by
    rcases Nat.lt_or_gt_of_ne e with h3|h3
    ·have:(k+1)*c≤i*c:=Nat.mul_le_mul_right c h3
     rw [Nat.add_mul,Nat.one_mul] at this
     omega
    ·have:(i+1)*c≤k*c:=Nat.mul_le_mul_right c h3
     rw [Nat.add_mul,Nat.one_mul] at this
     omega
   rw [List.getElem?_set,if_neg hne]
   exact k2
theorem Addr.add_mid2 (b o j:Nat):(⟨b,o,none⟩:Addr).add j=⟨b,o+j,none⟩:=by unfold Addr.add;split <;> simp_all
theorem gZ (w:World) {ops:Array Oper} {rest:List Oper} {o:Oper} {a:Act} {Q:Exit→Act→World→Prop} (hgd:o.guard=none) (s x:Operand) (L T:TypeId) (c y:Nat)
 (ho:o.op = .call { callee:=.builtin .append,args:=#[s,x],argTypes:=#[L,L] }) (hL:Tryz.prog.underlying L=some (.slice T)) (hI:Inf T c y) (hc0:0<c) (hy:y≤1000)
 (B:Nat) (v:Value) (n:Nat) (E:Nat→List Value) (hs:a.eval s=v) (hown:SL w B T c v n E) (h k:Nat) (hx:a.eval x = .slice (some ⟨h,0,none⟩) 1 k)
 (cs:List Value) (hcs:cs.length=c) (h1:∀ u ∈ cs,u.oneCell'=true) (hbox:BoxC w h cs)
 (hlen:n≤1000000000) (hB:B≤w.heap.size)
 (hK:∀ g cap w',SL w' B T c (.slice (some ⟨g,0,none⟩) (n+1) cap) (n+1) (fun i=>if i<n then E i else cs)→Lies w w' v g cap→wpList Tryz.prog ops Q rest (a.put o.dst (.slice (some ⟨g,0,none⟩) (n+1) cap)) w') :
 wpList Tryz.prog ops Q (o::rest) a w:=by
 obtain ⟨vs,g1,g2⟩:=hown
 obtain ⟨i0,z,hi,hz,hs3,hb56,hz3⟩:=hI
 have hyn:(n+1)*y≤1000000001*1000:=Nat.mul_le_mul (by omega) hy
 have hl:vs.length=n*c:=g1.1
 have hnews:∀ j u,cs[j]? = some u→w.cell? (Addr.add ⟨h,0,none⟩ j)=some u:=by
  intro j u hj
  have:=hbox j u hj
  by_cases e:j=0
  ·subst e;simpa [Addr.add] using this
  ·simpa [Addr.add,e] using this
 have grows:∀ (ao:Option Addr) (cap:Nat),a.eval s = .slice ao n cap→(ao=none→n=0∧cap=0)→(∀ b,ao=some b→∀ j u,vs[j]? = some u→w.cell? (b.add j)=some u)→cap<n+1→wpList Tryz.prog ops Q (o::rest) a w:=by
  intro ao cap hs' hnone holds hfull
  refine wpList_append_grows w hgd s x L ho T i0 z c y hL hi hz hs3 hb56 hz3 hc0 ao n cap vs hs' hnone hl holds ⟨h,0,none⟩ 1 k cs hx (by omega) hnews h1 hfull (by unfold maxLen;omega) (by omega) ?_
  intro v' w' h2 h3
  obtain ⟨g,cap',rfl,hBg,_⟩:=h2.form (by omega)
  have hS:SL w' w.heap.size T c (.slice (some ⟨g,0,none⟩) (n+1) cap') (n+1) (fun i=>if i<n then E i else cs):=⟨_,h2,uJ g1.1 hcs g2⟩
  exact hK g cap' w' (hS.mono hB) (.inr ⟨hBg,h3⟩)
 rcases g1.2 with ⟨rfl,e2⟩|⟨g,cap,cur,e1,hBg,hgb,q1,q2,q3,q4⟩
 ·subst e2
  exact grows none 0 hs (fun _=>⟨rfl,rfl⟩) (fun b hb=>by cases hb) (by omega)
 ·subst e1
  by_cases hroom:n+1≤cap
  ·refine wpList_append_fits w hgd s x L ho B T i0 c hL hi hs3 g n cap vs hs g1 ⟨h,0,none⟩ 1 k cs hx (by omega) hnews h1 hroom ?_
   intro w' h2 h3
   exact hK g cap w' ⟨_,h2,uJ g1.1 hcs g2⟩ (.inl ⟨n,rfl,h3⟩)
  ·refine grows _ cap hs (fun e=>by cases e) ?_ (by omega)
   intro b hb j u hu
   cases hb
   rw [Addr.add_mid2,Nat.zero_add]
   exact iW hgb q4 hu
theorem SL.prefix {w:World} {B:Nat} {T:TypeId} {c:Nat} {g m cap n:Nat} {E:Nat→List Value} (h:SL w B T c (.slice (some ⟨g,0,none⟩) m cap) m E) (hn:n≤m):SL w B T c (.slice (some ⟨g,0,none⟩) n cap) n E:=by
 obtain ⟨vs,h1,h2⟩:=h
 have hle:n*c≤m*c:=Nat.mul_le_mul_right c hn
 have hl:vs.length=m*c:=h1.1
 refine ⟨vs.take (n*c),⟨by rw [List.length_take];omega,?_⟩,fun i hi j u hu=>?_⟩
 ·rcases h1.2 with ⟨e,_⟩|⟨g2,cap2,cur,e,hB,hgb,q1,q2,q3,q4⟩
  ·cases e
  ·simp only [Value.slice.injEq,Option.some.injEq,Addr.mk.injEq] at e
   obtain ⟨⟨rfl,_,_⟩,_,rfl⟩:=e
   refine .inr ⟨g,cap,cur,rfl,hB,hgb,by omega,q2,q3,?_⟩
   rw [← q4,List.take_take,Nat.min_eq_left hle]
 ·obtain ⟨k1,k2⟩:=h2 i (by omega) j u hu
  refine ⟨k1,?_⟩
  have h5:(i+1)*c≤n*c:=Nat.mul_le_mul_right c hi
  rw [Nat.add_mul,Nat.one_mul] at h5
  rw [List.getElem?_take,if_pos (by omega)]
  exact k2
def KX (Ts:TypeId→Prop) (w w':World):Prop:=∀ (k:Nat) (c:Array Value) (T:TypeId),¬ Ts T→w.heap[k]? = some (.cells c T (0,0))→w'.heap[k]? = some (.cells c T (0,0))
theorem KX.refl (Ts:TypeId→Prop) (w:World):KX Ts w w:=fun _ _ _ _ h=>h
theorem KX.trans {Ts:TypeId→Prop} {a b c:World} (h:KX Ts a b) (k:KX Ts b c):KX Ts a c:=fun i x T h1 h3=>k i x T h1 (h i x T h1 h3)
theorem KX.of_below {Ts:TypeId→Prop} {w w':World} (h:Below w.heap.size w w'):KX Ts w w':=fun k _ _ _ e=>(h.block k (Array.getElem?_eq_some_iff.1 e).1).trans e
theorem KX.of_row {Ts:TypeId→Prop} {w w':World} {g:Nat} {c0:Array Value} {T0:TypeId} (hg:w.heap[g]? = some (.cells c0 T0 (0,0))) (hT:Ts T0) (h:∀ k,k<w.heap.size→k≠g→w'.heap[k]? = w.heap[k]?):KX Ts w w':=fun k c T h1 e=>by
 have hne:k≠g:=fun e2=>by
  subst e2
  rw [hg] at e
  simp only [Option.some.injEq,Obj.cells.injEq] at e
  exact h1 (e.2.1 ▸ hT)
 exact (h k (Array.getElem?_eq_some_iff.1 e).1 hne).trans e
theorem SL.kx {Ts:TypeId→Prop} {w w':World} {B:Nat} {T:TypeId} {c:Nat} {v:Value} {n:Nat} {E:Nat→List Value} (h:SL w B T c v n E) (k:KX Ts w w') (h1:¬ Ts T):SL w' B T c v n E:=by
 obtain ⟨vs,r,hc⟩:=h
 refine ⟨vs,⟨r.1,?_⟩,hc⟩
 rcases r.2 with hn|⟨g,cap,cur,e1,e2,hgb,rest⟩
 ·exact .inl hn
 ·exact .inr ⟨g,cap,cur,e1,e2,k g cur T h1 hgb,rest⟩
theorem SL.heap {w:World} {B:Nat} {T:TypeId} {c:Nat} {v:Value} {n:Nat} {E:Nat→List Value} (h:SL w B T c v n E) {g:Nat} (hg:v.ownBlock=some g):∃ cur,w.heap[g]? = some (.cells cur T (0,0)):=by
 obtain ⟨vs,r,_⟩:=h
 rcases r.2 with ⟨e,_⟩|⟨g2,cap,cur,e1,e2,hgb,_⟩
 ·rw [e] at hg;cases hg
 ·rw [e1] at hg
  simp only [Value.ownBlock,Option.some.injEq] at hg
  subst hg
  exact ⟨cur,hgb⟩
theorem KX.lies {Ts:TypeId→Prop} {w w':World} {B:Nat} {T:TypeId} {c:Nat} {v:Value} {n:Nat} {E:Nat→List Value} (h:SL w B T c v n E) (hT:Ts T) {g cap:Nat} (hl:Lies w w' v g cap):KX Ts w w':=by
 rcases hl with ⟨m,e,hg⟩|⟨_,hg⟩
 ·obtain ⟨cur,hc⟩:=h.heap (g:=g) (by rw [e];rfl)
  exact KX.of_row hc hT fun k hk hne=>hg.block k hk (by first|exact fun e=>hne (Option.some.inj e)|exact fun e=>hne (Option.some.inj e).symm)
 ·exact fun k _ _ _ e=>(hg.block k (Array.getElem?_eq_some_iff.1 e).1 (by simp)).trans e
structure LsA (w:World) (B H0 H:Nat) (T:TypeId) (c m i:Nat) (v Y:Nat→Value) (n:Nat→Nat) (M:Nat→Nat→Value) (N:Nat→Value) (q:Nat):Prop where
 ov:∀ j,j<m→SL w B T c (v j) (n j) (fun k=>[M j k])
 oY:∀ j,j<i→SL w B T c (Y j) (n j+q) (fun k=>[if k<n j then M j k else N j])
 pl:∀ j,j<i→(Y j).ownBlock=(v j).ownBlock∨∃ g,(Y j).ownBlock=some g∧H0≤g∧g<H
 hv:∀ j,j<m→∀ g,(v j).ownBlock=some g→g<H0
 hH:B≤H0∧H0≤H∧H≤w.heap.size
def GrY (w:World) (B H:Nat) (T:TypeId) (c:Nat) (vi y:Value) (n t:Nat) (M:Nat→Value) (N:Value):Prop :=
 SL w B T c y (n+t) (fun k=>[if k<n then M k else N])∧((t=0∧y=vi)∨(∃ g cap,vi = .slice (some ⟨g,0,none⟩) n cap∧y = .slice (some ⟨g,0,none⟩) (n+t) cap)∨(∃ g cap,y = .slice (some ⟨g,0,none⟩) (n+t) cap∧H≤g))
theorem GrY.start {w:World} {B H:Nat} {T:TypeId} {c:Nat} {vi:Value} {n:Nat} {M:Nat→Value} {N:Value} (h:SL w B T c vi n (fun k=>[M k])):GrY w B H T c vi vi n 0 M N :=
 ⟨h.congr fun i hi=>by simp only [hi,if_true],.inl ⟨rfl,rfl⟩⟩
theorem LsA.kx {Ts:TypeId→Prop} {w w':World} {B H0 H:Nat} {T:TypeId} {c m i:Nat} {v Y:Nat→Value} {n:Nat→Nat} {M:Nat→Nat→Value} {N:Nat→Value} {q:Nat} (h:LsA w B H0 H T c m i v Y n M N q) (k:KX Ts w w') (hT:¬ Ts T) (hs:w.heap.size≤w'.heap.size):LsA w' B H0 H T c m i v Y n M N q :=
 ⟨fun j hj=>(h.ov j hj).kx k hT,fun j hj=>(h.oY j hj).kx k hT,h.pl,h.hv,⟨h.hH.1,h.hH.2.1,Nat.le_trans h.hH.2.2 hs⟩⟩
theorem LsA.below {w w':World} {B H0 H:Nat} {T:TypeId} {c m i:Nat} {v Y:Nat→Value} {n:Nat→Nat} {M:Nat→Nat→Value} {N:Nat→Value} {q:Nat} (h:LsA w B H0 H T c m i v Y n M N q) (hb:Below w.heap.size w w'):LsA w' B H0 H T c m i v Y n M N q :=
 ⟨fun j hj=>(h.ov j hj).below hb,fun j hj=>(h.oY j hj).below hb,h.pl,h.hv,⟨h.hH.1,h.hH.2.1,Nat.le_trans h.hH.2.2 hb.size⟩⟩
theorem GrY.kx {Ts:TypeId→Prop} {w w':World} {B H:Nat} {T:TypeId} {c:Nat} {vi y:Value} {n t:Nat} {M:Nat→Value} {N:Value} (h:GrY w B H T c vi y n t M N) (k:KX Ts w w') (hT:¬ Ts T):GrY w' B H T c vi y n t M N:=⟨h.1.kx k hT,h.2⟩
theorem GrY.below {w w':World} {B H:Nat} {T:TypeId} {c:Nat} {vi y:Value} {n t:Nat} {M:Nat→Value} {N:Value} (h:GrY w B H T c vi y n t M N) (hb:Below w.heap.size w w'):GrY w' B H T c vi y n t M N:=⟨h.1.below hb,h.2⟩
theorem LsA.step {w w':World} {B H0 H:Nat} {T:TypeId} {c m i:Nat} {v Y:Nat→Value} {n:Nat→Nat} {M:Nat→Nat→Value} {N:Nat→Value} {q t:Nat} {y:Value} {g cap:Nat} (dis:∀ i j,i<m→j<m→i≠j→∀ g,(v i).ownBlock=some g→(v j).ownBlock≠some g)
 (hp:LsA w B H0 H T c m i v Y n M N q) (hi:i<m) (hy:GrY w B H T c (v i) y (n i) t (M i) (N i)) (hown:SL w' B T c (.slice (some ⟨g,0,none⟩) (n i+t+1) cap) (n i+t+1) (fun k=>[if k<n i then M i k else N i])) (hl:Lies w w' y g cap) :
 LsA w' B H0 H T c m i v Y n M N q∧GrY w' B H T c (v i) (.slice (some ⟨g,0,none⟩) (n i+t+1) cap) (n i) (t+1) (M i) (N i)∧w.heap.size≤w'.heap.size∧Below B w w':=by
 have hHH:=hp.hH
 rcases hl with ⟨n',hyv,hg⟩|⟨hge,hg⟩
 ·have hgB:=hy.1.lt g (by rw [hyv];rfl)
  have hsz:=hg.size
  have hkeep:∀ {u:Value} {k:Nat} {E:Nat→List Value},SL w B T c u k E→u.ownBlock≠some g→SL w' B T c u k E:=fun ho hne=>ho.kept hg fun g' e1 e2=>hne (by rw [e1,← e2])
  have hplace:((v i).ownBlock=some g∧v i = .slice (some ⟨g,0,none⟩) (n i) cap)∨H≤g:=by
   rcases hy.2 with ⟨ht,e⟩|⟨g2,cap2,e1,e2⟩|⟨g2,cap2,e1,e2⟩
   ·left
    obtain ⟨a',c',e3,_⟩:=(hp.ov i hi).form
    rw [← e,hyv] at e3
    simp only [Value.slice.injEq] at e3
    obtain ⟨_,rfl,_⟩:=e3
    rw [← e,hyv];exact ⟨rfl,rfl⟩
   ·left
    rw [hyv] at e2
    simp only [Value.slice.injEq,Option.some.injEq,Addr.mk.injEq] at e2
    obtain ⟨⟨rfl,_,_⟩,_,rfl⟩:=e2
    rw [e1];exact ⟨rfl,rfl⟩
   ·right
    rw [hyv] at e1
    simp only [Value.slice.injEq,Option.some.injEq,Addr.mk.injEq] at e1
    obtain ⟨⟨rfl,_,_⟩,_,_⟩:=e1
    exact e2
  have hvj:∀ j,j<m→j≠i→(v j).ownBlock≠some g:=fun j hj hne e=>by
   rcases hplace with h|h
   ·exact dis j i hj hi hne g e h.1
   ·have:=hp.hv j hj g e;omega
  refine ⟨⟨fun j hj=>?_,fun j hj=>?_,hp.pl,hp.hv,by omega⟩,⟨hown,?_⟩,hsz,grown_below hg (by omega) (fun q hq=>by simp only [Option.some.injEq] at hq;omega)⟩
  ·by_cases e:j=i
   ·subst e
    rcases hplace with ⟨h1,h2⟩|h
    ·rw [h2]
     exact (hown.prefix (by omega)).congr fun k hk=>by simp only [hk,if_true]
    ·exact hkeep (hp.ov j hj) fun e=>by have:=hp.hv j hj g e;omega
   ·exact hkeep (hp.ov j hj) (hvj j hj e)
  ·refine hkeep (hp.oY j hj) fun e=>?_
   rcases hp.pl j hj with h|⟨g2,h,h1,h2⟩
   ·exact hvj j (by omega) (by omega) (by rw [← h];exact e)
   ·rw [h] at e
    simp only [Option.some.injEq] at e
    subst e
    rcases hplace with h3|h3
    ·have:=hp.hv i hi g2 h3.1;omega
    ·omega
  ·rcases hplace with ⟨_,h2⟩|h
   ·exact .inr (.inl ⟨g,cap,h2,rfl⟩)
   ·exact .inr (.inr ⟨g,cap,rfl,h⟩)
 ·have hsz:=hg.size
  have hkeep:∀ {u:Value} {k:Nat} {E:Nat→List Value},SL w B T c u k E→SL w' B T c u k E:=fun ho=>ho.kept hg fun g' _ e2=>by cases e2
  exact ⟨⟨fun j hj=>hkeep (hp.ov j hj),fun j hj=>hkeep (hp.oY j hj),hp.pl,hp.hv,by omega⟩,⟨hown,.inr (.inr ⟨g,cap,rfl,by omega⟩)⟩,hsz,grown_below hg (by omega) (fun q hq=>by cases hq)⟩
theorem LsA.more {w:World} {B H0 H:Nat} {T:TypeId} {c m i:Nat} {v Y:Nat→Value} {n:Nat→Nat} {M:Nat→Nat→Value} {N:Nat→Value} {q:Nat} {y:Value} (hp:LsA w B H0 H T c m i v Y n M N q) (hq:0<q) (hy:GrY w B H T c (v i) y (n i) q (M i) (N i)) :
 LsA w B H0 w.heap.size T c m (i+1) v (fun j=>if j=i then y else Y j) n M N q:=by
 have hHH:=hp.hH
 refine ⟨hp.ov,fun j hj=>?_,fun j hj=>?_,hp.hv,by omega⟩
 ·by_cases e:j=i
  ·subst e;simp only [if_true];exact hy.1
  ·simp only [if_neg e];exact hp.oY j (by omega)
 ·by_cases e:j=i
  ·subst e
   simp only [if_true]
   rcases hy.2 with ⟨ht,_⟩|⟨g2,cap2,e1,e2⟩|⟨g2,cap2,e1,e2⟩
   ·omega
   ·left;rw [e1,e2];rfl
   ·have:=hy.1.lt g2 (by rw [e1];rfl)
    exact .inr ⟨g2,by rw [e1];rfl,by omega,by omega⟩
  ·simp only [if_neg e]
   rcases hp.pl j (by omega) with h|⟨g2,h,h1,h2⟩
   ·exact .inl h
   ·exact .inr ⟨g2,h,h1,by omega⟩
theorem uV {w:World} {B:Nat} {T:TypeId} {c m i k:Nat} {v:Nat→Value} {n:Nat→Nat} {P:Nat→Nat→Value} {g cap:Nat} (dis:∀ i j,i<m→j<m→i≠j→∀ g,(v i).ownBlock=some g→(v j).ownBlock≠some g) (h:∀ j,j<m→SL w B T c (v j) (n j) (fun k=>[P j k])) (hc:0<c) (hi:i<m) (hk:k<n i) (hv:v i = .slice (some ⟨g,0,none⟩) (n i) cap) (u:Value) :
 (∀ j,j<m→SL (w.setCell ⟨g,k*c,none⟩ u) B T c (v j) (n j) (fun q=>[if j=i∧q=k then u else P j q]))∧Below B w (w.setCell ⟨g,k*c,none⟩ u)∧∀ Ts:TypeId→Prop,Ts T→KX Ts w (w.setCell ⟨g,k*c,none⟩ u):=by
 have hS:=h i hi
 have hgB:=hS.lt g (by rw [hv];rfl)
 have O:Off g w (w.setCell ⟨g,k*c,none⟩ u):=(Off.refl g w).set (k*c) u
 refine ⟨fun j hj=>?_,O.below hgB.1,fun Ts hT=>?_⟩
 ·by_cases e:j=i
  ·subst e
   have h2:=hS
   rw [hv] at h2 ⊢
   have h3:=h2.setc (j:=0) rfl hk hc u
   rw [Nat.add_zero] at h3
   refine h3.congr fun q hq=>?_
   by_cases e2:q=k
   ·subst e2;simp
   ·simp [e2]
  ·refine ((h j hj).kept O.grown fun g' e1 e2=>?_).congr fun q hq=>by simp [e]
   cases e2
   exact dis j i hj hi e g e1 (by rw [hv];rfl)
 ·obtain ⟨cur,hcur⟩:=hS.heap (g:=g) (by rw [hv];rfl)
  exact KX.of_row hcur hT fun q hq hne=>O.block q hne
theorem SL.fst {w:World} {B:Nat} {T:TypeId} {c:Nat} {v:Value} {n:Nat} {E:Nat→List Value} {x:Nat→Value} (h:SL w B T c v n E) (e:∀ i,i<n→∃ r,E i=x i::r):SL w B T c v n (fun i=>[x i]):=by
 obtain ⟨vs,h1,h2⟩:=h
 refine ⟨vs,h1,fun i hi j u hu=>?_⟩
 obtain ⟨r,er⟩:=e i hi
 match j,hu with
 | 0,hu =>
  simp at hu
  subst hu
  exact h2 i hi 0 (x i) (by rw [er];rfl)
theorem SL.hd {w:World} {C:Nat} {T:TypeId} {va:Option Addr} {m vc:Nat} {v:Nat→Value} (h:SL w C T 1 (.slice va m vc) m (fun i=>[v i])) {i:Nat} (hi:i<m):∃ gl,va=some ⟨gl,0,none⟩∧w.cell? ⟨gl,i,none⟩=some (v i):=by
 rcases h.cell with h0|⟨gl,e,hc⟩
 ·omega
 ·exact ⟨gl,e,by have:=hc i hi 0 _ rfl;simpa using this⟩
theorem wY:Inf 58 1 24:=iG (by kernel_rfl)
def mkT (j k:Nat):Value:=.int .i64 (1000*(j:Int)+k)
def mkN (j:Nat):Value:=.int .i64 (-1-(j:Int))
def prT (x:Nat→Nat→Value) (i k0 j k:Nat):Value:=if j<i∨(j=i∧k<k0) then mkT j k else x j k
theorem prT_step (x:Nat→Nat→Value) (i k:Nat):(fun j q=>if j=i∧q=k then mkT i k else prT x i k j q)=prT x i (k+1):=by
 funext j q
 unfold prT
 by_cases h1:j=i
 ·subst h1
  by_cases h2:q=k
  ·subst h2;simp
  ·have h3:q<k+1↔q<k:=by omega
   simp [h2,h3]
 ·simp [h1]
theorem prT_next (x:Nat→Nat→Value) (i n j k:Nat) (h:j=i→k<n):prT x i n j k=prT x (i+1) 0 j k:=by
 unfold prT
 by_cases h1:j=i
 ·subst h1
  have:=h rfl
  simp [this]
 ·have h2:j<i+1↔j<i:=by omega
  simp [h1,h2]
def TmS (T:TypeId):Prop:=T=62∨T=58
theorem KX.old {Ts:TypeId→Prop} {w w':World} {B:Nat} {T:TypeId} {c:Nat} {v:Value} {n:Nat} {E:Nat→List Value} (h:SL w B T c v n E) (hT:Ts T) (hg:w.grownBy w' v.ownBlock):KX Ts w w':=by
 cases e:v.ownBlock with
 | none =>
  rw [e] at hg
  exact fun k _ _ _ e=>(hg.block k (Array.getElem?_eq_some_iff.1 e).1 (by simp)).trans e
 | some g =>
  obtain ⟨cur,hc⟩:=h.heap e
  rw [e] at hg
  exact KX.of_row hc hT fun k hk hne=>hg.block k hk (by first|exact fun e=>hne (Option.some.inj e)|exact fun e=>hne (Option.some.inj e).symm)
set_option maxRecDepth 100000 in
set_option maxHeartbeats 8000000 in
theorem wZ {va:Option Addr} {m vc B C:Nat} {v:Nat→Value} {n:Nat→Nat} {E:Nat→Nat→List Value} {x:Nat→Nat→Value} (w:World) (hB:B≤C) (hC:C≤w.heap.size) (hT:SL w C 58 1 (.slice va m vc) m (fun i=>[v i])) (ho:∀ j,j<m→SL w B 62 4 (v j) (n j) (E j)) (hx:∀ j,j<m→∀ k,k<n j→∃ r,E j k=x j k::r)
 (dis:∀ i j,i<m→j<m→i≠j→∀ g,(v i).ownBlock=some g→(v j).ownBlock≠some g) (hm:m≤100000000) (hn:∀ j,j<m→n j≤100000000) :
 Calls Tryz.prog 38 #[.slice va m vc] w fun e w'=>e = .returned (.bool true)∧Below B w w'∧KX TmS w w':=by
 have hsz:=ho
 have hO:∀ j,j<m→SL w B 62 4 (v j) (n j) (fun k=>[prT x 0 0 j k]):=fun j hj=>((ho j hj).fst (hx j hj)).congr fun k hk=>by unfold prT;simp
 clear ho hx hsz
 have hTlt:∀ g,(Value.slice va m vc).ownBlock=some g→g<w.heap.size:=fun g hg=>(hT.lt g hg).2
 go_enter Tryz.func38,Tryz.ntmps38
 go_wp2
 go_loopw [4] (fun s wr=>∃ i:Nat,i≤m∧s = .int .i64 i∧SL wr C 58 1 (.slice va m vc) m (fun i=>[v i])∧(∀ j,j<m→SL wr B 62 4 (v j) (n j) (fun k=>[prT x i 0 j k]))∧(Below B w wr∧KX TmS w wr)) (fun s _=>m-(intOf s).toNat)
 case atStart=>exact ⟨0,Nat.zero_le _,rfl,hT,hO,Below.refl _ _,KX.refl _ _⟩
 case round =>
  obtain ⟨i,hi,rfl,hTr,hor,hbel⟩:=hrel
  clear hT hO
  by_cases hlt:i<m
  ·have hli:=hn i hlt
   obtain ⟨gl,rfl,c0⟩:=hTr.hd hlt
   obtain ⟨a,cap,hvi,_⟩:=(hor i hlt).form
   have hil:(i:Int)<(m:Int):=by omega
   obtain ⟨q,hq⟩:∃ q,n i=q:=⟨_,rfl⟩
   rw [hq] at hvi hli
   have HVI:Hid (v i = .slice a q cap):=hvi
   have HNN:Hid (n i=q):=hq
   rw [hvi] at c0
   clear hvi hq
   go_wp2
   clear c0
   go_loopw [5] (fun s wr=>∃ k:Nat,k≤q∧s = .int .i64 k∧SL wr C 58 1 (.slice (some ⟨gl,0,none⟩) m vc) m (fun i=>[v i])∧(∀ j,j<m→SL wr B 62 4 (v j) (n j) (fun p=>[prT x i k j p]))∧(Below B w wr∧KX TmS w wr)) (fun s _=>q-(intOf s).toNat)
   case atStart=>exact ⟨0,Nat.zero_le _,rfl,hTr,hor,hbel⟩
   case round =>
    clear hTr hor hbel
    obtain ⟨k,hk,rfl,hTr,hor,hbel⟩:=hrel
    obtain ⟨gl2,e2,c⟩:=hTr.hd hlt
    obtain rfl:gl=gl2:=by simpa using e2
    rw [HVI.out] at c
    clear e2
    by_cases hkn:k<q
    ·have hoi:=hor i hlt
     rw [HVI.out,HNN.out] at hoi
     obtain ⟨g,rfl,hgB,hgl,hfz⟩:=hoi.blk (by omega)
     have hkl:(k:Int)<(q:Int):=by omega
     have hkI4:(k:Int)*4=((k*4:Nat):Int):=by omega
     rcases hoi.cell with h0|⟨g2,e2,hcell⟩
     ·omega
     obtain rfl:g=g2:=by simpa using e2
     have s1:=hcell k hkn 0 _ rfl
     rw [Nat.add_zero] at s1
     have s2:=hfz (k*4)
     obtain ⟨M1,M2,M3⟩:=uV (k:=k) dis hor (by decide) hlt (by rw [HNN.out];exact hkn) (by rw [HVI.out,HNN.out]) (mkT i k)
     have hgne:gl≠g:=fun e=>by
      obtain ⟨c1,h1⟩:=hTr.heap (g:=gl) rfl
      obtain ⟨c2,h2⟩:=hoi.heap (g:=g) rfl
      rw [e,h2] at h1
      simp only [Option.some.injEq,Obj.cells.injEq] at h1
      exact absurd h1.2.1 (by decide)
     have hTr2:SL (wr.setCell ⟨g,k*4,none⟩ (mkT i k)) C 58 1 (.slice (some ⟨gl,0,none⟩) m vc) m (fun i=>[v i]):=hTr.kept ((Off.refl g wr).set (k*4) (mkT i k)).grown (fun g' e1 e2=>by cases e2;simp only [Value.ownBlock,Option.some.injEq] at e1;exact hgne e1)
     have hor2:∀ j,j<m→SL (wr.setCell ⟨g,k*4,none⟩ (mkT i k)) B 62 4 (v j) (n j) (fun p=>[prT x i (k+1) j p]):=fun j hj=>by rw [← prT_step];exact M1 j hj
     have hb2:=And.intro (hbel.1.trans M2) (hbel.2.trans (M3 TmS (.inl rfl)))
     clear hTr hor hbel hoi M1 M2 M3 hcell hfz hgne e2
     unfold mkT at hTr2 hor2 hb2
     go_wp2
     go_roundw
     case rel=>exact ⟨k+1,by omega,by go_num,hTr2,hor2,hb2⟩
     case measure=>simp [intOf];omega
    ·obtain rfl:k=q:=by omega
     have hor2:∀ j,j<m→SL wr B 62 4 (v j) (n j) (fun p=>[prT x (i+1) 0 j p]):=fun j hj=>(hor j hj).congr fun p hp=>by rw [prT_next x i k j p (fun e=>by subst e;rw [← HNN.out];exact hp)]
     clear hor
     go_wp2
     go_roundw
     case rel=>exact ⟨i+1,by omega,by go_num,hTr,hor2,hbel⟩
     case measure=>simp [intOf];omega
  ·obtain rfl:i=m:=by omega
   have hor2:∀ j,j<i→SL wr B 62 4 (v j) (n j) (fun k=>[mkT j k]):=fun j hj=>(hor j hj).congr fun k hk=>by unfold prT;rw [if_pos (.inl hj)]
   have hwr:=hbel.1.size
   have hP:LsA wr B wr.heap.size wr.heap.size 62 4 i 0 v (fun _=>.slice none 0 0) n mkT mkN 12 :=
    ⟨hor2,fun j hj=>by omega,fun j hj=>by omega,fun j hj g hg=>((hor2 j hj).lt g hg).2,by omega⟩
   obtain ⟨H0,eH0⟩:∃ H0,H0=wr.heap.size:=⟨_,rfl⟩
   rw [← eH0] at hP
   have hH0:w.heap.size≤H0:=by omega
   clear hor hor2 hlt hi eH0
   generalize hmi:i=m at *
   clear hmi
   go_wp2
   go_loopw [3,6] (fun lv s wr=>∃ (i:Nat) (Y:Nat→Value),i≤m∧s = .int .i64 i∧LsA wr B H0 wr.heap.size 62 4 m i v Y n mkT mkN 12∧SL wr H0 58 1 lv i (fun j=>[Y j])∧SL wr C 58 1 (.slice va m vc) m (fun i=>[v i])∧(Below B w wr∧KX TmS w wr)) (fun _ s _=>m-(intOf s).toNat)
   case atStart=>exact ⟨0,_,Nat.zero_le _,rfl,⟨hP.ov,hP.oY,fun j hj=>by omega,hP.hv,⟨hP.hH.1,hP.hH.2.2,Nat.le_refl _⟩⟩,SL.nil _ _ _ _ _,hTr,hbel⟩
   case round =>
    clear hP hbel hTr
    obtain ⟨i,Y,hi,rfl,hP,hLv,hTr,hbel⟩:=hrel
    obtain ⟨la,lc,rfl,hlc⟩:=hLv.form
    by_cases hlt:i<m
    ·have hli:=hn i hlt
     have hil:(i:Int)<(m:Int):=by omega
     obtain ⟨gl,rfl,c0⟩:=hTr.hd hlt
     obtain ⟨a,cap,hvi,_⟩:=(hP.ov i hlt).form
     obtain ⟨q,hq⟩:∃ q,n i=q:=⟨_,rfl⟩
     rw [hq] at hvi hli
     have HVI:Hid (v i = .slice a q cap):=hvi
     have HNN:Hid (n i=q):=hq
     have hY0:GrY wr B wr.heap.size 62 4 (v i) (v i) (n i) 0 (mkT i) (mkN i):=GrY.start (hP.ov i hlt)
     rw [hvi] at c0
     rw [HVI.out,HNN.out] at hY0
     obtain ⟨H,hH⟩:∃ H,wr.heap.size=H:=⟨_,rfl⟩
     rw [hH] at hP hY0
     clear hH hvi hq
     go_wp2
     clear c0
     go_loopw [7,8] (fun y s wr=>∃ k:Nat,k≤12∧s = .int .i64 k∧LsA wr B H0 H 62 4 m i v Y n mkT mkN 12∧GrY wr B H 62 4 (.slice a q cap) y q k (mkT i) (mkN i)∧SL wr H0 58 1 (.slice la i lc) i (fun j=>[Y j])∧SL wr C 58 1 (.slice (some ⟨gl,0,none⟩) m vc) m (fun i=>[v i])∧(Below B w wr∧KX TmS w wr)) (fun _ s _=>12-(intOf s).toNat)
     case atStart=>exact ⟨0,Nat.zero_le _,rfl,hP,hY0,hLv,hTr,hbel⟩
     case round =>
      clear hP hbel hY0 hLv hTr
      obtain ⟨k,hk,rfl,hP,hYS,hLv,hTr,hbel⟩:=hrel
      obtain ⟨ya,yc,rfl,_⟩:=hYS.1.form
      by_cases hk20:k<12
      ·have hkI:(k:Int)<12:=by omega
       have hHH:=hP.hH
       have hxa:=aG wr (.cells #[.int .i64 (-1-(i:Int)),.bool false,.slice none 0 0,.slice none 0 0] 62)
       have hYa:=hYS.below hxa
       go_wp2_with (at_builtin;refine gZ _ rfl _ _ 58 62 4 64 rfl Tryz.underlying58 kJ (by decide) (by decide) B (.slice ya (q+k) yc) (q+k) _ rfl hYa.1 wr.heap.size _ rfl [.int .i64 (-1-(i:Int)),.bool false,.slice none 0 0,.slice none 0 0] rfl (fun u hu=>by simp at hu;rcases hu with rfl|rfl|rfl|rfl <;> rfl) (aN wr #[.int .i64 (-1-(i:Int)),.bool false,.slice none 0 0,.slice none 0 0] 62) (by omega) (by simp;omega) ?_)
       intro g cap1 w1 hown hl
       have hown':SL w1 B 62 4 (.slice (some ⟨g,0,none⟩) (n i+k+1) cap1) (n i+k+1) (fun p=>[if p<n i then mkT i p else mkN i]):=by
        rw [HNN.out]
        refine hown.fst fun p hp=>?_
        by_cases h1:p<q+k
        ·exact ⟨[],by simp [h1]⟩
        ·have h2:¬ p<q:=by omega
         exact ⟨[.bool false,.slice none 0 0,.slice none 0 0],by simp [h1,h2,mkN]⟩
       obtain ⟨q1,q2,q3,q4⟩:=LsA.step dis (hP.below hxa) hlt (by rw [HVI.out,HNN.out];exact hYa) hown' hl
       rw [HVI.out,HNN.out] at q2
       have kx:=KX.lies (Ts:=fun T=>T=62) hYa.1 rfl hl
       have hLv2:=(hLv.below hxa).kx kx (by decide)
       have hTr2:=(hTr.below hxa).kx kx (by decide)
       have kx2:KX TmS wr w1:=(KX.of_below hxa).trans (KX.lies (Ts:=TmS) hYa.1 (.inl rfl) hl)
       have hbel2:=And.intro ((hbel.1.trans (hxa.mono (by omega))).trans q4) (hbel.2.trans kx2)
       clear hown hown' hl hP hYS q3 q4 hbel hLv hTr kx kx2 hYa hxa
       go_wp2
       go_roundw
       case rel=>exact ⟨k+1,by omega,by go_num,q1,q2,hLv2,hTr2,hbel2⟩
       case measure=>simp [intOf];omega
      ·have hkI:¬ (k:Int)<12:=by omega
       obtain rfl:k=12:=by omega
       have hHH:=hP.hH
       have hxa:=aG wr (.cells #[.slice ya (q+12) yc] 58)
       have hLa:=hLv.below hxa
       go_wp2_with (at_builtin;refine aV _ rfl _ _ 88 58 1 24 rfl Tryz.underlying88 wY (by decide) (by decide) H0 (.slice la i lc) i _ rfl hLa wr.heap.size _ rfl [.slice ya (q+12) yc] rfl (fun u hu=>by simp at hu;subst hu;rfl) (aN wr #[.slice ya (q+12) yc] 58) (by omega) (by simp;omega) (wr.heap.size+1) (by simp) ?_)
       intro g cap1 w1 hown hg hat _
       have kx0:=KX.old (Ts:=fun T=>T=58) hLa rfl hg
       have hs1:=hg.size
       have hsA:=hxa.size
       have hP1:=(hP.below hxa).kx kx0 (by decide) hs1
       have hY1:=(hYS.below hxa).kx kx0 (by decide)
       have hP2:=(LsA.more (y:=.slice ya (q+12) yc) hP1 (by decide) (by rw [HVI.out,HNN.out];exact hY1))
       have hTr2:=(hTr.below hxa).kept hg (fun g' e1 e2=>by
        have h1:=hLa.lt g' e2
        have h2:=hTlt g' e1
        omega)
       have hLv2:SL w1 H0 58 1 (.slice (some ⟨g,0,none⟩) (i+1) cap1) (i+1) (fun j=>[if j=i then .slice ya (q+12) yc else Y j]):=hown.congr fun j hj=>by
        by_cases e:j<i
        ·have e2:¬ j=i:=by omega
         simp [e,e2]
        ·have e2:j=i:=by omega
         simp [e2]
       have kx2:KX TmS wr w1:=(KX.of_below hxa).trans (KX.old (Ts:=TmS) hLa (.inr rfl) hg)
       have hb4:Below B w w1:=(hbel.1.trans (hxa.mono (by omega))).trans (grown_below hg (by omega) (fun g' e=>by have:=hLa.lt g' e;omega))
       have hbel2:=And.intro hb4 (hbel.2.trans kx2)
       clear hown hg hat hP hP1 hYS hY1 hbel hLv hLa hTr kx0 kx2 hb4 hxa
       go_wp2
       go_roundw
       case rel=>exact ⟨i+1,_,by omega,by go_num,hP2,hLv2,hTr2,hbel2⟩
       case measure=>simp [intOf];omega
    ·have hil:¬ (i:Int)<(m:Int):=by omega
     obtain rfl:i=m:=by omega
     clear hlt hi
     generalize hmi:i=m at *
     clear hmi
     go_wp2
     generalize wr=wL at *
     go_loopw [9] (fun s wq=>∃ i:Nat,i≤m∧s = .int .i64 i∧Below wL.heap.size wL wq) (fun s _=>m-(intOf s).toNat)
     case atStart=>exact ⟨0,Nat.zero_le _,rfl,Below.refl _ _⟩
     case round =>
      obtain ⟨i,hi,rfl,hb3⟩:=hrel
      by_cases hlt:i<m
      ·have hli:=hn i hlt
       have hil:(i:Int)<(m:Int):=by omega
       obtain ⟨gl,rfl,c0⟩:=hTr.hd hlt
       obtain ⟨gy,rfl,d0⟩:=hLv.hd hlt
       obtain ⟨q,hq⟩:∃ q,n i=q:=⟨_,rfl⟩
       have HV:=hP.ov i hlt
       have HY:=hP.oY i hlt
       rw [hq] at HV HY hli
       obtain ⟨a,cap,hvi,_⟩:=HV.form
       obtain ⟨ya,yc,hyi,_⟩:=HY.form
       have HVI:Hid (v i = .slice a q cap):=hvi
       have HYI:Hid (Y i = .slice ya (q+12) yc):=hyi
       rw [hvi] at c0 HV
       rw [hyi] at d0 HY
       clear hvi hyi hq
       replace c0:=aB hb3 c0
       replace d0:=aB hb3 d0
       go_wp2
       clear c0 d0
       go_loopw [10] (fun s wq=>∃ k:Nat,k≤q+12∧s = .int .i64 k∧Below wL.heap.size wL wq) (fun s _=>q+12-(intOf s).toNat)
       case atStart=>exact ⟨0,Nat.zero_le _,rfl,hb3⟩
       case round =>
        clear hb3
        obtain ⟨k,hk,rfl,hb3⟩:=hrel
        obtain ⟨gl2,e2,c0⟩:=hTr.hd hlt
        obtain rfl:gl=gl2:=by simpa using e2
        obtain ⟨gy2,e3,d0⟩:=hLv.hd hlt
        obtain rfl:gy=gy2:=by simpa using e3
        rw [HVI.out] at c0
        rw [HYI.out] at d0
        replace c0:=aB hb3 c0
        replace d0:=aB hb3 d0
        have hk12:(((q+12:Nat):Nat):Int)=(q:Int)+12:=by omega
        by_cases hk2:k<q+12
        ·have hkl:(k:Int)<((q+12:Nat):Int):=by omega
         have hkI4:(k:Int)*4=((k*4:Nat):Int):=by omega
         rcases HY.cell with h0|⟨g1,e1,hcy⟩
         ·omega
         subst e1
         have y0:=hcy k hk2 0 _ rfl
         rw [Nat.add_zero] at y0
         replace y0:=aB hb3 y0
         by_cases hkq:k<q
         ·have hkq2:(k:Int)<(q:Int):=by omega
          rcases HV.cell with h0|⟨g2,e4,hcv⟩
          ·omega
          subst e4
          have x0:=hcv k hkq 0 _ rfl
          rw [Nat.add_zero] at x0
          replace x0:=aB hb3 x0
          simp only [hkq,if_true] at y0
          unfold mkT at x0 y0
          go_wp2
          go_roundw
          case rel=>exact ⟨k+1,by omega,by go_num,hb3⟩
          case measure=>simp [intOf];omega
         ·have hkq2:¬ (k:Int)<(q:Int):=by omega
          simp only [hkq,if_false] at y0
          unfold mkN at y0
          go_wp2
          go_roundw
          case rel=>exact ⟨k+1,by omega,by go_num,hb3⟩
          case measure=>simp [intOf];omega
        ·have hkl:¬ (k:Int)<((q+12:Nat):Int):=by omega
         go_wp2
         go_roundw
         case rel=>exact ⟨i+1,by omega,by go_num,hb3⟩
         case measure=>simp [intOf];omega
      ·have hil:¬ (i:Int)<(m:Int):=by omega
       have hfin:Below B w _:=hbel.1.trans (hb3.mono (by have:=hP.hH;omega))
       have hfk:=hbel.2.trans (KX.of_below (Ts:=TmS) hb3)
       go_wp2
       go_ret
       exact ⟨rfl,hfin,hfk⟩
end Go.Proofs.YtdcocflnafcikaaGreatDoor
