import Derived.Test.YtnokmjmefipplaaGreatDoorTtDAll
import Derived.Test.YtnokmjmefipplaaGreatDoorTtEAll
set_option maxRecDepth 100000
set_option maxHeartbeats 16000000
namespace Go.Proofs.YtnokmjmefipplaaGreatDoor
open Go.RowKit
theorem uJ (w:World) {o:Oper} {a:Act} {K:Act→World→Prop} {Q:Exit→Act→World→Prop} (s x:Operand) (L T:TypeId) (c y q:Nat)
 (ho:o.op = .call { callee:=.builtin .append,args:=#[s,x],argTypes:=#[L,L] }) (hL:Tryz.prog.underlying L = some (.slice T)) (hI:Inf T c y) (hc0:0 < c) (hy:y≤1000) (hq:0 < q∧q≤10)
 (B:Nat) (v:Value) (n:Nat) (E:Nat→List Value) (hs:a.eval s = v) (hown:SL w B T c v n E) (h k:Nat) (hx:a.eval x = .slice (some ⟨h,0,none⟩) q k)
 (D:Nat→List Value) (cs:List Value) (hcs:cs.length = q * c) (hD:∀ i,i < q→∀ j u,(D i)[j]? = some u→j < c∧cs[i * c + j]? = some u) (h1:∀ u ∈ cs,u.oneCell' = true) (hbox:BoxC w h cs)
 (hlen:n≤1000000000) (hB:B≤w.heap.size) (H:Nat) (hH:w.heap.size = H)
 (hK:∀ g cap w',SL w' B T c (.slice (some ⟨g,0,none⟩) (n + q) cap) (n + q) (fun i=>if i < n then E i else D (i - n))→w.grownBy w' v.ownBlock→(v.ownBlock = some g∨g = H)→g < w'.heap.size→K (a.put o.dst (.slice (some ⟨g,0,none⟩) (n + q) cap)) w') :
 Oper.wp Tryz.prog o a w K Q:=by
 obtain ⟨vs,g1,g2⟩:=hown
 obtain ⟨i0,z,hi,hz,hs3,hb56,hz3⟩:=hI
 have hyn:(n + q) * y≤1000000010 * 1000:=Nat.mul_le_mul (by omega) hy
 refine wp_append_lies w s x L ho B T i0 z c y hL hi hz hs3 hb56 hz3 hc0 v n vs hs g1 ⟨h,0,none⟩ q k cs hx (by omega) ?_ h1 hq.1 (by unfold maxLen;omega) (by omega) hB H hH ?_
 ·intro j u hj
  have:=hbox j u hj
  by_cases e:j = 0
  ·subst e;simpa [Addr.add] using this
  ·simpa [Addr.add,e] using this
 ·intro g cap w' r1 r2 r3 r4
  refine hK g cap w' ⟨_,r1,fun i hi j u hu=>?_⟩ r2 r3 r4
  have hl:vs.length = n * c:=g1.1
  by_cases e:i < n
  ·simp only [e,if_true] at hu
   obtain ⟨k1,k2⟩:=g2 i e j u hu
   have hlt:i * c + j < vs.length:=(List.getElem?_eq_some_iff.1 k2).1
   exact ⟨k1,by rw [List.getElem?_append_left hlt];exact k2⟩
  ·simp only [e,if_false] at hu
   obtain ⟨k1,k2⟩:=hD (i - n) (by omega) j u hu
   refine ⟨k1,?_⟩
   have e2:i * c = n * c + (i - n) * c:=by rw [← Nat.add_mul,Nat.add_sub_cancel' (Nat.le_of_not_lt e)]
   rw [e2,List.getElem?_append_right (by omega),hl,show n * c + (i - n) * c + j - n * c = (i - n) * c + j by omega]
   exact k2
theorem qV {t:TypeId} {w:World} {R:Nat} {cs:Array Value} (h:Rw t w R cs) (i:Nat) (v:Value):Rw t (w.setCell ⟨R,i,none⟩ v) R (cs.setIfInBounds i v):=heap_setCell_same w R i cs t v h
theorem aK7:Inf 114 3 24:=aH6 (by kernel_rfl)
theorem aK8:Inf 155 14 216:=aH6 (by kernel_rfl)
theorem uK (w:World) {ops:Array Oper} {rest:List Oper} {o:Oper} {a:Act} {Q:Exit→Act→World→Prop} (hgd:o.guard = none) (s x:Operand) (L T:TypeId) (c y q:Nat)
 (ho:o.op = .call { callee:=.builtin .append,args:=#[s,x],argTypes:=#[L,L] }) (hL:Tryz.prog.underlying L = some (.slice T)) (hI:Inf T c y) (hc0:0 < c) (hy:y≤1000) (hq:0 < q∧q≤10)
 (B:Nat) (v:Value) (n:Nat) (E:Nat→List Value) (hs:a.eval s = v) (hown:SL w B T c v n E) (h k:Nat) (hx:a.eval x = .slice (some ⟨h,0,none⟩) q k)
 (D:Nat→List Value) (cs:List Value) (hcs:cs.length = q * c) (hD:∀ i,i < q→∀ j u,(D i)[j]? = some u→j < c∧cs[i * c + j]? = some u) (h1:∀ u ∈ cs,u.oneCell' = true) (hbox:BoxC w h cs)
 (hlen:n≤1000000000) (hB:B≤w.heap.size) (H:Nat) (hH:w.heap.size = H)
 (hK:∀ g cap w',SL w' B T c (.slice (some ⟨g,0,none⟩) (n + q) cap) (n + q) (fun i=>if i < n then E i else D (i - n))→w.grownBy w' v.ownBlock→(v.ownBlock = some g∨g = H)→g < w'.heap.size→wpList Tryz.prog ops Q rest (a.put o.dst (.slice (some ⟨g,0,none⟩) (n + q) cap)) w') :
 wpList Tryz.prog ops Q (o :: rest) a w :=
 wpList_plain hgd fun _ hK'=>uJ w s x L T c y q ho hL hI hc0 hy hq B v n E hs hown h k hx D cs hcs hD h1 hbox hlen hB H hH fun g cap w' r1 r2 r3 r4=>hK' _ _ (hK g cap w' r1 r2 r3 r4)
theorem aH8 {w0 w:World} {F:Nat} {P:Prob} {T:Nat→Nod} {ZT:Nat→Nat} {x:WyD} (h:WyQ w0 w F P T ZT x) :
 Calls Tryz.prog 56 #[.pointer (some ⟨x.p,0,none⟩)] w fun e w'=>e = .returned (.bool (decide (0 < x.hn)))∧w' = w:=by
 have c8:w.cell? ⟨x.p,8,none⟩ = some (.slice x.ha x.hn x.hc):=h.st.cell 8
 by_cases hp:0 < x.hn
 ·have hpI:(0:Int) < (x.hn:Int):=by omega
  rw [decide_eq_true hp]
  go_enter Tryz.func56,Tryz.ntmps56
  go_wp2
  go_ret
  exact ⟨by simp,rfl⟩
 ·have hpI:¬ (0:Int) < (x.hn:Int):=by omega
  rw [decide_eq_false hp]
  go_enter Tryz.func56,Tryz.ntmps56
  go_wp2
  go_ret
  exact ⟨by simp,rfl⟩
def WyD.fork (x:WyD) (k:Nat) (B:Nat→BxV) (Z:Nat→Nat) (ha:Option Addr) (hc:Nat):WyD :=
 { x with ha:=ha,hc:=hc,hn:=x.hn + 2,f:=fun i=>if i < x.hn then x.f i else if i = x.hn then ⟨k,x.d,true,B,Z⟩ else ⟨k,x.d,false,B,Z⟩ }
def FkR (w0:World) (F:Nat) (P:Prob) (T:Nat→Nod) (ZT:Nat→Nat) (x:WyD) (k:Nat) (B:Nat→BxV) (Z:Nat→Nat) (w:World) (e:Ending) (w':World):Prop :=
 (∃ v,e = .returned v)∧∃ ha hc,WyQ w0 w' F P T ZT (x.fork k B Z ha hc)∧Below F w w'
theorem aK9 {w0 w w2 w3:World} {F:Nat} {P:Prob} {T:Nat→Nod} {ZT:Nat→Nat} {x:WyD} {k:Nat} {B:Nat→BxV} {Z:Nat→Nat} {g cap:Nat} (h:WyQ w0 w F P T ZT x) (hs:Std w0 w F P ZT k B Z x.C) (hb:Bx P T k B) (hsp:(T k).sp = true) (hd:x.hn≤x.d) (hdk:x.d≤k)
 (k1:Kb F [114] w w2) (hS:SL w2 F 114 3 (.slice (some ⟨g,0,none⟩) (x.hn + 2) cap) (x.hn + 2) (fun i=>if i < x.hn then [.int .i64 ((x.f i).par:Nat),.int .i64 ((x.f i).abv:Nat),.bool (x.f i).rt] else (fun j=>if j = 0 then [.int .i64 (k:Nat),.int .i64 (x.d:Nat),.bool true] else [.int .i64 (k:Nat),.int .i64 (x.d:Nat),.bool false]) (i - x.hn)))
 (e3:w3 = w2.setCell ⟨x.p,8,none⟩ (.slice (some ⟨g,0,none⟩) (x.hn + 2) cap)) :
 WyQ w0 w3 F P T ZT (x.fork k B Z (some ⟨g,0,none⟩) cap)∧Below F w w3:=by
 have st2:=h.st.kb k1 (by decide)
 have O:Off x.p w2 w3:=by rw [e3];exact (Off.refl _ _).set 8 _
 have k2:Kb F [97] w2 w3:=jV st2 h.pF O
 have st3:Rw 97 w3 x.p ((x.fork k B Z (some ⟨g,0,none⟩) cap).cells P):=by
  have:=qV st2 8 (.slice (some ⟨g,0,none⟩) (x.hn + 2) cap)
  rw [e3]
  exact this
 have kk:Kb F [97,114] w w3:=(k1.up (by decide)).trans (k2.up (by decide))
 have hold:∀ i,i < x.hn→(x.fork k B Z (some ⟨g,0,none⟩) cap).f i = x.f i:=fun i hi=>if_pos hi
 have h1:(x.fork k B Z (some ⟨g,0,none⟩) cap).f x.hn = ⟨k,x.d,true,B,Z⟩:=by
  show (if x.hn < x.hn then _ else if x.hn = x.hn then _ else _) = _
  rw [if_neg (Nat.lt_irrefl _),if_pos rfl]
 have h2:(x.fork k B Z (some ⟨g,0,none⟩) cap).f (x.hn + 1) = ⟨k,x.d,false,B,Z⟩:=by
  show (if x.hn + 1 < x.hn then _ else if x.hn + 1 = x.hn then _ else _) = _
  rw [if_neg (by omega),if_neg (by omega)]
 have sd3:Std w0 w3 F P ZT k B Z (und x.pv x.pw x.d x.d x.C):=by rw [oL (Nat.le_refl _)];exact hs.kb kk (by decide)
 refine ⟨⟨st3,h.pF,h.vs.kb kk (by decide),h.vcc,h.ps.kb kk (by decide),h.pl,?_,?_,?_⟩,kk.below⟩
 ·refine (hS.kb k2 (by decide)).congr fun i hi=>?_
  dsimp only
  rcases (by omega:i < x.hn∨i = x.hn∨i = x.hn + 1) with q | rfl | rfl
  ·rw [if_pos q,hold i q]
  ·rw [if_neg (Nat.lt_irrefl _),Nat.sub_self,if_pos rfl,h1]
  ·rw [if_neg (by omega),Nat.add_sub_cancel_left,if_neg (by decide),h2]
 ·intro i hi
  rcases (by have:i < x.hn + 2:=hi;omega:i < x.hn∨i = x.hn∨i = x.hn + 1) with q | rfl | rfl
  ·have hp:=h.pt i q
   have e:=hold i q
   exact ⟨by rw [e];exact hp.rc,by rw [e];exact hp.sp,by rw [e];exact hp.ad,by rw [e];exact hp.ap,by rw [e];exact hp.ia,by rw [e];exact hp.sd.kb kk (by decide)⟩
  ·exact ⟨by rw [h1];exact hb,by rw [h1];exact hsp,by rw [h1];exact Nat.le_refl _,by rw [h1];exact hdk,by rw [h1];show x.hn≤x.d + 1;omega,by rw [h1];exact sd3⟩
  ·exact ⟨by rw [h2];exact hb,by rw [h2];exact hsp,by rw [h2];exact Nat.le_refl _,by rw [h2];exact hdk,by rw [h2];show x.hn + 1≤x.d + 1;omega,by rw [h2];exact sd3⟩
 ·intro i j hij hj
  have hab:∀ i,i < x.hn + 2→((x.fork k B Z (some ⟨g,0,none⟩) cap).f i).abv≤x.d:=fun i hi=>by
   rcases (by omega:i < x.hn∨i = x.hn∨i = x.hn + 1) with q | rfl | rfl
   ·rw [hold i q];exact (h.pt i q).ad
   ·rw [h1];exact Nat.le_refl _
   ·rw [h2];exact Nat.le_refl _
  rcases (by have:j < x.hn + 2:=hj;omega:j < x.hn∨j = x.hn∨j = x.hn + 1) with q | rfl | rfl
  ·rw [hold i (by omega),hold j q];exact h.mo i j hij q
  ·rw [h1];exact hab i (by omega)
  ·rw [h2];exact hab i (by omega)
theorem aQ6 {w0:World} {F:Nat} {P:Prob} {T:Nat→Nod} {ZT:Nat→Nat} {x:WyD} {k:Nat} {B:Nat→BxV} {Z:Nat→Nat} (w:World) (h:WyQ w0 w F P T ZT x) (hF:F≤w.heap.size) (hs:Std w0 w F P ZT k B Z x.C) (hb:Bx P T k B) (hsp:(T k).sp = true) (hd:x.hn≤x.d) (hdk:x.d≤k) (hk:k≤2000000) :
 Calls Tryz.prog 55 #[.pointer (some ⟨x.p,0,none⟩),.int .i64 (k:Nat)] w fun e w'=>FkR w0 F P T ZT x k B Z w e w':=by
 have hpl:x.p < w.heap.size:=h.st.lt
 have c7:w.cell? ⟨x.p,7,none⟩ = some (.slice x.pa x.d x.pc):=h.st.cell 7
 have c8:w.cell? ⟨x.p,8,none⟩ = some (.slice x.ha x.hn x.hc):=h.st.cell 8
 have Eb:=aJ w #[.int .i64 (k:Nat),.int .i64 (x.d:Nat),.bool true,.int .i64 (k:Nat),.int .i64 (x.d:Nat),.bool false] 114
 have hz:=aG w (.cells #[.int .i64 (k:Nat),.int .i64 (x.d:Nat),.bool true,.int .i64 (k:Nat),.int .i64 (x.d:Nat),.bool false] 114)
 have k0:Kb F [114] w (w.alloc (.cells #[.int .i64 (k:Nat),.int .i64 (x.d:Nat),.bool true,.int .i64 (k:Nat),.int .i64 (x.d:Nat),.bool false] 114)):=bZ _ hz hF
 have hS0:=h.ah.below hz
 have hhn:x.hn≤2000000:=by omega
 have hsz:(w.alloc (.cells #[.int .i64 (k:Nat),.int .i64 (x.d:Nat),.bool true,.int .i64 (k:Nat),.int .i64 (x.d:Nat),.bool false] 114)).heap.size = w.heap.size + 1:=by simp
 have HD:Hid (∀ i,i < 2→∀ j u,((fun j=>if j = 0 then [.int .i64 (k:Nat),.int .i64 (x.d:Nat),.bool true] else [.int .i64 (k:Nat),.int .i64 (x.d:Nat),.bool false]:Nat→List Value) i)[j]? = some u→j < 3∧([.int .i64 (k:Nat),.int .i64 (x.d:Nat),.bool true,.int .i64 (k:Nat),.int .i64 (x.d:Nat),.bool false]:List Value)[i * 3 + j]? = some u):=fun i hi j u hu=>by
  dsimp only at hu
  rcases (by omega:i = 0∨i = 1) with rfl | rfl
  ·rw [if_pos rfl] at hu
   have hj:j < 3:=by simpa using (List.getElem?_eq_some_iff.1 hu).1
   rcases (by omega:j = 0∨j = 1∨j = 2) with rfl | rfl | rfl <;> exact ⟨by decide,hu⟩
  ·rw [if_neg (by decide)] at hu
   have hj:j < 3:=by simpa using (List.getElem?_eq_some_iff.1 hu).1
   rcases (by omega:j = 0∨j = 1∨j = 2) with rfl | rfl | rfl <;> exact ⟨by decide,hu⟩
 have H1:Hid (∀ u ∈ ([.int .i64 (k:Nat),.int .i64 (x.d:Nat),.bool true,.int .i64 (k:Nat),.int .i64 (x.d:Nat),.bool false]:List Value),u.oneCell' = true):=fun u hu=>by
  simp only [List.mem_cons,List.not_mem_nil,or_false] at hu
  rcases hu with rfl | rfl | rfl | rfl | rfl | rfl <;> rfl
 go_enter Tryz.func55,Tryz.ntmps55
 go_wp2_with (at_builtin;refine uK _ rfl _ _ 95 114 3 24 2 rfl Tryz.underlying95 aK7 (by decide) (by decide) (by decide) F (.slice x.ha x.hn x.hc) x.hn _ rfl hS0 w.heap.size _ rfl _ [.int .i64 (k:Nat),.int .i64 (x.d:Nat),.bool true,.int .i64 (k:Nat),.int .i64 (x.d:Nat),.bool false] rfl HD.out H1.out Eb (by omega) (by omega) (w.heap.size + 1) hsz ?_)
 intro g cap w2 S2 hg _ _
 have k1:Kb F [114] w w2:=k0.trans (zB hS0 (Nat.le_refl _) (by omega) hg)
 have st2:=h.st.kb k1 (by decide)
 have d8:w2.cell? ⟨x.p,8,none⟩ = some (.slice x.ha x.hn x.hc):=st2.cell 8
 have f8:=st2.frozen 8
 have HE:=(show Hid (_∧_) from aK9 h hs hb hsp hd hdk k1 S2 rfl)
 clear c7 c8 Eb hz k0 hS0 hsz HD H1 S2 hg k1 st2
 go_wp2
 go_end0
 exact ⟨⟨_,rfl⟩,_,_,HE.out.1,HE.out.2⟩
theorem VL.up {w0 w:World} {B B':Nat} {a:Option Addr} {n:Nat} {V:Nat→PV} {Z:Nat→Nat} (h:VL w0 B w a n V Z) (hB:B'≤B):VL w0 B' w a n V Z:=by
 rcases h with h | ⟨g,cur,h1,h2,h3⟩
 ·exact .inl h
 ·exact .inr ⟨g,cur,h1,by omega,h3⟩
def BgR (w0:World) (F:Nat) (P:Prob) (T:Nat→Nod) (ZT:Nat→Nat) (w:World) (e:Ending) (w':World):Prop :=
 ∃ x,e = .returned (.pointer (some ⟨x.p,0,none⟩))∧x.d = 0∧x.hn = 0∧WyQ w0 w' F P T ZT x∧Std w0 w' F P ZT 0 (box0 P) P.ZV x.C∧Below w.heap.size w w'
theorem aH9 {w0 w w1:World} {F:Nat} {P:Prob} {T:Nat→Nod} {ZT:Nat→Nat} {ga:Option Addr} {gc p:Nat} (hV:VL w0 F w1 ga P.vn P.V P.ZV) (hgc:P.vn≤gc) (hst:Rw 97 w1 p #[.bool P.mx,.string P.nm,.bool P.p,.slice P.a P.na P.ca,.slice P.d P.nd P.cd,.slice ga P.vn gc,.slice P.ra P.rn P.rc,.slice none 0 0,.slice none 0 0]) (hp:F≤p) (hb:Below w.heap.size w w1) :
 BgR w0 F P T ZT w (.returned (.pointer (some ⟨p,0,none⟩))) w1:=by
 have key:∃ C:Nat→List Value,VB w1 F ga P.vn C∧∀ j,j < P.vn→VX w0 w1 F (C j) (P.V j) (P.ZV j):=by
  rcases hV with h0 | ⟨g,cur,e1,e2,e3,e4,e5⟩
  ·exact ⟨fun _=>[],.inl h0,fun j hj=>by omega⟩
  ·obtain ⟨C,hC⟩:=pick ([]:List Value) (P:=fun j c=>VX w0 w1 F c (P.V j) (P.ZV j)∧w1.rangeAt g (j * 13) c) (m:=P.vn) (fun j hj=>by
    obtain ⟨pO,aO,nO,cO,dO,mO,lO,pl,al,nl,cl,dl,ml,ll,ph,ah,nh,ch,dh,mh,lh,hB,t1,t2,t3,rest⟩:=e5 j hj
    exact ⟨_,⟨pO,aO,nO,cO,dO,mO,lO,pl,al,nl,cl,dl,ml,ll,ph,ah,nh,ch,dh,mh,lh,rfl,.inl t1,.inl t2,.inl t3,rest⟩,hB⟩)
   exact ⟨C,.inr ⟨g,cur,e1,e2,e3,fun j hj=>⟨(hC j hj).1.len,(hC j hj).2⟩⟩,fun j hj=>(hC j hj).1⟩
 obtain ⟨C,hC1,hC2⟩:=key
 refine ⟨⟨p,ga,gc,none,0,none,0,0,0,C,fun _=>0,fun _=>[],fun _=>⟨0,0,false,box0 P,P.ZV⟩⟩,rfl,rfl,rfl,⟨hst,hp,hC1,hgc,SL.nil _ _ _ _ _,fun i hi=>absurd hi (Nat.not_lt_zero _),SL.nil _ _ _ _ _,fun i hi=>absurd hi (Nat.not_lt_zero _),fun i j _ hj=>absurd hj (Nat.not_lt_zero _)⟩,⟨fun j hj=>hC2 j hj,Nat.le_add_right _ _⟩,hb⟩
theorem aO1 {w0:World} {F:Nat} {P:Prob} {T:Nat→Nod} {ZT:Nat→Nat} (w:World) (hP:PQ w0 P) (hb0:Below w0.heap.size w0 w) (hF:F≤w.heap.size) (hK:P.K≤1048576) :
 Calls Tryz.prog 54 #[P.val] w fun e w'=>BgR w0 F P T ZT w e w':=by
 have hvn:P.vn≤1048576:=by have:=hP.all;have:=aT P.ZV P.vn;omega
 unfold Prob.val
 have Rp:=Rw.new 31 w #[.bool P.mx,.string P.nm,.bool P.p,.slice P.a P.na P.ca,.slice P.d P.nd P.cd,.slice P.va P.vn P.vc,.slice P.ra P.rn P.rc]
 have hz:=aG w (.cells #[.bool P.mx,.string P.nm,.bool P.p,.slice P.a P.na P.ca,.slice P.d P.nd P.cd,.slice P.va P.vn P.vc,.slice P.ra P.rn P.rc] 31)
 have hs0:(w.alloc (.cells #[.bool P.mx,.string P.nm,.bool P.p,.slice P.a P.na P.ca,.slice P.d P.nd P.cd,.slice P.va P.vn P.vc,.slice P.ra P.rn P.rc] 31)).heap.size = w.heap.size + 1:=by simp
 have p5:(w.alloc (.cells #[.bool P.mx,.string P.nm,.bool P.p,.slice P.a P.na P.ca,.slice P.d P.nd P.cd,.slice P.va P.vn P.vc,.slice P.ra P.rn P.rc] 31)).cell? ⟨w.heap.size,5,none⟩ = some (.slice P.va P.vn P.vc):=Rp.cell 5
 go_enter Tryz.func54,Tryz.ntmps54
 go_wp2_with fail
 clear p5
 generalize w.alloc (.cells #[.bool P.mx,.string P.nm,.bool P.p,.slice P.a P.na P.ca,.slice P.d P.nd P.cd,.slice P.va P.vn P.vc,.slice P.ra P.rn P.rc] 31) = W0 at *
 refine (aG6 w0 W0 hP.v (hb0.trans (hz.mono hb0.size)) (by omega)).mono ?_
 rintro e w1 ⟨ga,gc,rfl,hgc,VC,h1⟩
 replace Rp:=Rp.below h1
 have hb1:=aB hz h1
 have O:Off w.heap.size w1 (w1.setCell ⟨w.heap.size,5,none⟩ (.slice ga P.vn gc)):=(Off.refl _ _).set 5 _
 have Rp2:Rw 31 (w1.setCell ⟨w.heap.size,5,none⟩ (.slice ga P.vn gc)) w.heap.size #[.bool P.mx,.string P.nm,.bool P.p,.slice P.a P.na P.ca,.slice P.d P.nd P.cd,.slice ga P.vn gc,.slice P.ra P.rn P.rc]:=qV Rp 5 _
 have hVg:VL w0 (w.heap.size + 1) (w1.setCell ⟨w.heap.size,5,none⟩ (.slice ga P.vn gc)) ga P.vn P.V P.ZV:=by
  rw [hs0] at VC
  rcases VC with h | ⟨g,cur,rfl,k1,k2,k3,k4⟩
  ·exact .inl h
  ·exact .inr ⟨g,cur,rfl,k1,(O.block g (by omega)).trans k2,k3,fun j hj=>(k4 j hj).move fun r _=>World.cell?_of_block (O.block g (by omega))⟩
 have hb2:Below w.heap.size w (w1.setCell ⟨w.heap.size,5,none⟩ (.slice ga P.vn gc)):=hb1.trans (O.below (Nat.le_refl _))
 have q0:w1.cell? ⟨w.heap.size,0,none⟩ = some (.bool P.mx):=Rp.cell 0
 have q1:w1.cell? ⟨w.heap.size,1,none⟩ = some (.string P.nm):=Rp.cell 1
 have q2:w1.cell? ⟨w.heap.size,2,none⟩ = some (.bool P.p):=Rp.cell 2
 have q3:w1.cell? ⟨w.heap.size,3,none⟩ = some (.slice P.a P.na P.ca):=Rp.cell 3
 have q4:w1.cell? ⟨w.heap.size,4,none⟩ = some (.slice P.d P.nd P.cd):=Rp.cell 4
 have q5:w1.cell? ⟨w.heap.size,5,none⟩ = some (.slice P.va P.vn P.vc):=Rp.cell 5
 have q6:w1.cell? ⟨w.heap.size,6,none⟩ = some (.slice P.ra P.rn P.rc):=Rp.cell 6
 have f5:=Rp.frozen 5
 have hbx:=aG (w1.setCell ⟨w.heap.size,5,none⟩ (.slice ga P.vn gc)) (.cells #[.bool P.mx,.string P.nm,.bool P.p,.slice P.a P.na P.ca,.slice P.d P.nd P.cd,.slice ga P.vn gc,.slice P.ra P.rn P.rc,.slice none 0 0,.slice none 0 0] 97)
 have Rw9:=Rw.new 97 (w1.setCell ⟨w.heap.size,5,none⟩ (.slice ga P.vn gc)) #[.bool P.mx,.string P.nm,.bool P.p,.slice P.a P.na P.ca,.slice P.d P.nd P.cd,.slice ga P.vn gc,.slice P.ra P.rn P.rc,.slice none 0 0,.slice none 0 0]
 rw [O.size] at Rw9
 have hsz2:=hb1.size
 have HE:=(show Hid (BgR w0 F P T ZT w _ _) from aH9 (VL.up (hVg.below hbx) (by omega:F≤w.heap.size + 1)) hgc Rw9 (by omega) (aB hb2 hbx))
 clear VC O Rp hb1 h1 hz hs0 hVg Rp2 hbx Rw9 hb2
 go_wp2
 go_ret
 exact HE.out
theorem mJ {T:TypeId} (g:Nat):∀ (vs:List Value) (o:Nat) (w:World) (cur:Array Value),w.heap[g]? = some (.cells cur T (0,0))→∃ cur',(w.setCells g o vs).heap[g]? = some (.cells cur' T (0,0))
 | [],_,_,cur,h=>⟨cur,h⟩
 | v :: r,o,w,_,h=>mJ g r (o + 1) _ _ (heap_setCell_same w g o _ _ v h)
theorem nS {w:World} {g o n:Nat} {cur:Array Value} {T:TypeId} {cs:List Value} (hg:w.heap[g]? = some (.cells cur T (0,0))) (h:w.rangeAt g o cs) (hn:n≤cs.length):w.there g o n:=fun j hj=>⟨h.isSome j (by omega),frozen_of_row w g (o + j) cur T hg⟩
theorem uM {w:World} {g o:Nat} {c0 c1 c2 c3 c4 c5 c6 c7 c8 c9 c10 c11 c12:Value} (h:w.rangeAt g o [c0,c1,c2,c3,c4,c5,c6,c7,c8,c9,c10,c11,c12]):w.rangeAt g (o + 4) [c4,c5,c6,c7]:=fun j u hu=>by
 have hj:j < 4:=by simpa using (List.getElem?_eq_some_iff.1 hu).1
 rw [Nat.add_assoc]
 rcases (by omega:j = 0∨j = 1∨j = 2∨j = 3) with rfl | rfl | rfl | rfl
 ·exact h 4 u hu
 ·exact h 5 u hu
 ·exact h 6 u hu
 ·exact h 7 u hu
theorem aO2 {w:World} {g o:Nat} {c0 c1 c2 c3 c4 c5 c6 c7 c8 c9 c10 c11 c12 b0 b1 b2 b3:Value} (h:w.rangeAt g o [c0,c1,c2,c3,c4,c5,c6,c7,c8,c9,c10,c11,c12]):(w.setCells g (o + 4) [b0,b1,b2,b3]).rangeAt g o [c0,c1,c2,c3,b0,b1,b2,b3,c8,c9,c10,c11,c12]:=fun j u hu=>by
 have hin:∀ i (hi:i < 4),(w.setCells g (o + 4) [b0,b1,b2,b3]).cell? ⟨g,o + 4 + i,none⟩ = some ([b0,b1,b2,b3][i]'hi):=World.cell?_setCells_in g [b0,b1,b2,b3] (o + 4) w (fun i hi=>(uM h).isSome i hi)
 have hout:∀ i,(i < 4∨4 + 4≤i)→(w.setCells g (o + 4) [b0,b1,b2,b3]).cell? ⟨g,o + i,none⟩ = w.cell? ⟨g,o + i,none⟩:=fun i hi=>World.cell?_setCells_out g [b0,b1,b2,b3] (o + 4) w ⟨g,o + i,none⟩ (fun _ _=>by simp;omega)
 match j,hu with
 | 0,hu=>simp at hu;subst hu;rw [hout 0 (by omega)];exact h 0 _ rfl
 | 1,hu=>simp at hu;subst hu;rw [hout 1 (by omega)];exact h 1 _ rfl
 | 2,hu=>simp at hu;subst hu;rw [hout 2 (by omega)];exact h 2 _ rfl
 | 3,hu=>simp at hu;subst hu;rw [hout 3 (by omega)];exact h 3 _ rfl
 | 4,hu=>simp at hu;subst hu;have:=hin 0 (by decide);rw [Nat.add_assoc] at this;exact this
 | 5,hu=>simp at hu;subst hu;have:=hin 1 (by decide);rw [Nat.add_assoc] at this;exact this
 | 6,hu=>simp at hu;subst hu;have:=hin 2 (by decide);rw [Nat.add_assoc] at this;exact this
 | 7,hu=>simp at hu;subst hu;have:=hin 3 (by decide);rw [Nat.add_assoc] at this;exact this
 | 8,hu=>simp at hu;subst hu;rw [hout 8 (by omega)];exact h 8 _ rfl
 | 9,hu=>simp at hu;subst hu;rw [hout 9 (by omega)];exact h 9 _ rfl
 | 10,hu=>simp at hu;subst hu;rw [hout 10 (by omega)];exact h 10 _ rfl
 | 11,hu=>simp at hu;subst hu;rw [hout 11 (by omega)];exact h 11 _ rfl
 | 12,hu=>simp at hu;subst hu;rw [hout 12 (by omega)];exact h 12 _ rfl
 | n + 13,hu=>simp at hu
theorem uN {w:World} {g o:Nat} {c0 c1 c2 c3 c4 c5 c6 c7 c8 c9 c10 c11 c12:Value} (h:w.rangeAt g o [c0,c1,c2,c3,c4,c5,c6,c7,c8,c9,c10,c11,c12]):w.rangeAt g (o + 8) [c8,c9,c10,c11]:=fun j u hu=>by
 have hj:j < 4:=by simpa using (List.getElem?_eq_some_iff.1 hu).1
 rw [Nat.add_assoc]
 rcases (by omega:j = 0∨j = 1∨j = 2∨j = 3) with rfl | rfl | rfl | rfl
 ·exact h 8 u hu
 ·exact h 9 u hu
 ·exact h 10 u hu
 ·exact h 11 u hu
theorem aO3 {w:World} {g o:Nat} {c0 c1 c2 c3 c4 c5 c6 c7 c8 c9 c10 c11 c12 b0 b1 b2 b3:Value} (h:w.rangeAt g o [c0,c1,c2,c3,c4,c5,c6,c7,c8,c9,c10,c11,c12]):(w.setCells g (o + 8) [b0,b1,b2,b3]).rangeAt g o [c0,c1,c2,c3,c4,c5,c6,c7,b0,b1,b2,b3,c12]:=fun j u hu=>by
 have hin:∀ i (hi:i < 4),(w.setCells g (o + 8) [b0,b1,b2,b3]).cell? ⟨g,o + 8 + i,none⟩ = some ([b0,b1,b2,b3][i]'hi):=World.cell?_setCells_in g [b0,b1,b2,b3] (o + 8) w (fun i hi=>(uN h).isSome i hi)
 have hout:∀ i,(i < 8∨8 + 4≤i)→(w.setCells g (o + 8) [b0,b1,b2,b3]).cell? ⟨g,o + i,none⟩ = w.cell? ⟨g,o + i,none⟩:=fun i hi=>World.cell?_setCells_out g [b0,b1,b2,b3] (o + 8) w ⟨g,o + i,none⟩ (fun _ _=>by simp;omega)
 match j,hu with
 | 0,hu=>simp at hu;subst hu;rw [hout 0 (by omega)];exact h 0 _ rfl
 | 1,hu=>simp at hu;subst hu;rw [hout 1 (by omega)];exact h 1 _ rfl
 | 2,hu=>simp at hu;subst hu;rw [hout 2 (by omega)];exact h 2 _ rfl
 | 3,hu=>simp at hu;subst hu;rw [hout 3 (by omega)];exact h 3 _ rfl
 | 4,hu=>simp at hu;subst hu;rw [hout 4 (by omega)];exact h 4 _ rfl
 | 5,hu=>simp at hu;subst hu;rw [hout 5 (by omega)];exact h 5 _ rfl
 | 6,hu=>simp at hu;subst hu;rw [hout 6 (by omega)];exact h 6 _ rfl
 | 7,hu=>simp at hu;subst hu;rw [hout 7 (by omega)];exact h 7 _ rfl
 | 8,hu=>simp at hu;subst hu;have:=hin 0 (by decide);rw [Nat.add_assoc] at this;exact this
 | 9,hu=>simp at hu;subst hu;have:=hin 1 (by decide);rw [Nat.add_assoc] at this;exact this
 | 10,hu=>simp at hu;subst hu;have:=hin 2 (by decide);rw [Nat.add_assoc] at this;exact this
 | 11,hu=>simp at hu;subst hu;have:=hin 3 (by decide);rw [Nat.add_assoc] at this;exact this
 | 12,hu=>simp at hu;subst hu;rw [hout 12 (by omega)];exact h 12 _ rfl
 | n + 13,hu=>simp at hu
theorem lI {r:Rat} {S R:Nat} (h:SzR r S) (hS:S≤R):SzR r R:=h.le hS
theorem VX.up {w0 w:World} {F:Nat} {c:List Value} {v:PV} {S R:Nat} (h:VX w0 w F c v S) (hS:S≤R):VX w0 w F c v R:=by
 obtain ⟨pO,aO,nO,cO,dO,mO,lO,pl,al,nl,cl,dl,ml,ll,ph,ah,nh,ch,dh,mh,lh,e,h1,h2,h3,s1,s2,s3,s4,s5⟩:=h
 exact ⟨pO,aO,nO,cO,dO,mO,lO,pl,al,nl,cl,dl,ml,ll,ph,ah,nh,ch,dh,mh,lh,e,h1.up hS,h2.up hS,h3.up hS,by omega,lI s2 hS,lI s3 hS,lI s4 hS,by omega⟩
theorem VX.nlo {w0 w:World} {F:Nat} {v:PV} {S R:Nat} {pO:Bool} {aO:Option Addr} {nO cO:Nat} {dO:Option Addr} {mO lO:Nat} {ph:Bool} {ah:Option Addr} {nh ch:Nat} {dh:Option Addr} {mh lh:Nat} {pl:Bool} {al:Option Addr} {nl cl:Nat} {dl:Option Addr} {ml ll:Nat} {r:Rat}
 (h1:NX w0 w F pO aO nO cO dO mO lO v.obj S) (h3:NX w0 w F ph ah nh ch dh mh lh v.hi S) (g:GR w F pl al nl cl dl ml ll r R) (s2:SzR v.obj S) (s4:SzR v.hi S) (s5:v.nm.size≤S) (hR:1≤R) :
 VX w0 w F [.string v.nm,.bool pO,.slice aO nO cO,.slice dO mO lO,.bool true,.bool pl,.slice al nl cl,.slice dl ml ll,.bool v.hhi,.bool ph,.slice ah nh ch,.slice dh mh lh,.bool v.whole] { v with hlo:=true,lo:=r } (S + R) :=
 ⟨pO,aO,nO,cO,dO,mO,lO,pl,al,nl,cl,dl,ml,ll,ph,ah,nh,ch,dh,mh,lh,rfl,h1.up (by omega),.inr (g.le (by omega)),h3.up (by omega),by omega,lI s2 (by omega),lI (g.tr.sz hR) (by omega),lI s4 (by omega),by show v.nm.size≤S + R;omega⟩
theorem VX.nhi {w0 w:World} {F:Nat} {v:PV} {S R:Nat} {pO:Bool} {aO:Option Addr} {nO cO:Nat} {dO:Option Addr} {mO lO:Nat} {ph:Bool} {ah:Option Addr} {nh ch:Nat} {dh:Option Addr} {mh lh:Nat} {pl:Bool} {al:Option Addr} {nl cl:Nat} {dl:Option Addr} {ml ll:Nat} {r:Rat}
 (h1:NX w0 w F pO aO nO cO dO mO lO v.obj S) (h2:NX w0 w F pl al nl cl dl ml ll v.lo S) (g:GR w F ph ah nh ch dh mh lh r R) (s2:SzR v.obj S) (s3:SzR v.lo S) (s5:v.nm.size≤S) (hR:1≤R) :
 VX w0 w F [.string v.nm,.bool pO,.slice aO nO cO,.slice dO mO lO,.bool v.hlo,.bool pl,.slice al nl cl,.slice dl ml ll,.bool true,.bool ph,.slice ah nh ch,.slice dh mh lh,.bool v.whole] { v with hhi:=true,hi:=r } (S + R) :=
 ⟨pO,aO,nO,cO,dO,mO,lO,pl,al,nl,cl,dl,ml,ll,ph,ah,nh,ch,dh,mh,lh,rfl,h1.up (by omega),h2.up (by omega),.inr (g.le (by omega)),by omega,lI s2 (by omega),lI s3 (by omega),lI (g.tr.sz hR) (by omega),by show v.nm.size≤S + R;omega⟩
theorem VB.put {w w':World} {F g:Nat} {n:Nat} {C:Nat→List Value} {cur:Array Value} {v o:Nat} {vs c:List Value} (hF:F≤g) (h1:w.heap[g]? = some (.cells cur 45 (0,0))) (h2:∀ j,j < n→(C j).length = 13∧w.rangeAt g (j * 13) (C j)) (ho:v * 13≤o) (ho2:o + vs.length≤v * 13 + 13) (e:w' = w.setCells g o vs) (hc:w'.rangeAt g (v * 13) c) (hl:c.length = 13) :
 VB w' F (some ⟨g,0,none⟩) n (jU v c C)∧Kb F [45] w w':=by
 subst e
 obtain ⟨cur',h3⟩:=mJ g vs o w cur h1
 refine ⟨.inr ⟨g,cur',rfl,hF,h3,fun j hj=>?_⟩,jV h1 hF (fH g vs o w)⟩
 unfold jU
 by_cases ej:j = v
 ·subst ej;rw [if_pos rfl];exact ⟨hl,hc⟩
 ·rw [if_neg ej]
  obtain ⟨h4,h5⟩:=h2 j hj
  refine ⟨h4,World.rangeAt_setCells_apart h5 g o vs (.inr ?_)⟩
  rw [h4]
  rcases (by omega:j < v∨v < j) with q | q
  ·left;omega
  ·right;omega
def WyD.push (x:WyD) (v:Nat) (pa:Option Addr) (pc:Nat):WyD:={ x with pa:=pa,pc:=pc,d:=x.d + 1,pv:=fun i=>if i < x.d then x.pv i else v,pw:=fun i=>if i < x.d then x.pw i else x.C v }
theorem aL0 {w0 w w2 w3:World} {F:Nat} {P:Prob} {T:Nat→Nod} {ZT:Nat→Nat} {x:WyD} {v:Nat} {g cap:Nat} (h:WyQ w0 w F P T ZT x) (hv:v < P.vn) (hsh:Sh13 (x.C v))
 (k1:Kb F [155] w w2) (hS:SL w2 F 155 14 (.slice (some ⟨g,0,none⟩) (x.d + 1) cap) (x.d + 1) (fun i=>if i < x.d then .int .i64 (x.pv i:Nat) :: x.pw i else .int .i64 (v:Nat) :: x.C v))
 (e3:w3 = w2.setCell ⟨x.p,7,none⟩ (.slice (some ⟨g,0,none⟩) (x.d + 1) cap)) :
 WyQ w0 w3 F P T ZT (x.push v (some ⟨g,0,none⟩) cap)∧Kb F [97,155] w w3:=by
 have st2:=h.st.kb k1 (by decide)
 have O:Off x.p w2 w3:=by rw [e3];exact (Off.refl _ _).set 7 _
 have k2:Kb F [97] w2 w3:=jV st2 h.pF O
 have st3:Rw 97 w3 x.p ((x.push v (some ⟨g,0,none⟩) cap).cells P):=by
  have:=qV st2 7 (.slice (some ⟨g,0,none⟩) (x.d + 1) cap)
  rw [e3]
  exact this
 have kk:Kb F [97,155] w w3:=(k1.up (by decide)).trans (k2.up (by decide))
 refine ⟨⟨st3,h.pF,h.vs.kb kk (by decide),h.vcc,?_,?_,h.ah.kb kk (by decide),?_,h.mo⟩,kk⟩
 ·refine (hS.kb k2 (by decide)).congr fun i hi=>?_
  show (if i < x.d then _ else _) = Value.int .i64 (((if i < x.d then x.pv i else v:Nat):Nat):Int) :: (if i < x.d then x.pw i else x.C v)
  by_cases q:i < x.d
  ·rw [if_pos q,if_pos q,if_pos q]
  ·rw [if_neg q,if_neg q,if_neg q]
 ·intro i hi
  show (if i < x.d then x.pv i else v) < P.vn∧Sh13 (if i < x.d then x.pw i else x.C v)
  by_cases q:i < x.d
  ·rw [if_pos q,if_pos q];exact h.pl i q
  ·rw [if_neg q,if_neg q];exact ⟨hv,hsh⟩
 ·intro i hi
  have hp:=h.pt i hi
  refine ⟨hp.rc,hp.sp,Nat.le_succ_of_le hp.ad,hp.ap,hp.ia,?_⟩
  have e:und (x.push v (some ⟨g,0,none⟩) cap).pv (x.push v (some ⟨g,0,none⟩) cap).pw (x.f i).abv (x.d + 1) x.C = und x.pv x.pw (x.f i).abv x.d x.C:=by
   have:=aH5 (pv:=x.pv) (pw:=x.pw) (pv':=(x.push v (some ⟨g,0,none⟩) cap).pv) (pw':=(x.push v (some ⟨g,0,none⟩) cap).pw) (v:=v) (c:=x.C v) (C:=x.C) hp.ad (fun i hi=>⟨if_pos hi,if_pos hi⟩) (if_neg (Nat.lt_irrefl _)) (if_neg (Nat.lt_irrefl _))
   rw [show jU v (x.C v) x.C = x.C from by funext j;unfold jU;split;(rename_i q;rw [q]);rfl] at this
   exact this
  show Std w0 w3 F P ZT (x.f i).par (x.f i).B (x.f i).Z (und (x.push v (some ⟨g,0,none⟩) cap).pv (x.push v (some ⟨g,0,none⟩) cap).pw (x.f i).abv (x.d + 1) x.C)
  rw [e]
  exact hp.sd.kb kk (by decide)
theorem aC9 {w0 w w4:World} {F:Nat} {P:Prob} {T:Nat→Nod} {ZT:Nat→Nat} {x:WyD} {v d:Nat} {c:List Value} (h:WyQ w0 w F P T ZT x) (hd:x.d = d + 1) (hpv:x.pv d = v) (ha:∀ i,i < x.hn→(x.f i).abv≤d) (kk:Kb F [45] w w4) (hV:VB w4 F x.va P.vn (jU v c x.C)) :
 WyQ w0 w4 F P T ZT { x with C:=jU v c x.C }:=by
 refine ⟨h.st.kb kk (by decide),h.pF,hV,h.vcc,h.ps.kb kk (by decide),h.pl,h.ah.kb kk (by decide),fun i hi=>?_,h.mo⟩
 have hp:=h.pt i hi
 refine ⟨hp.rc,hp.sp,hp.ad,hp.ap,hp.ia,?_⟩
 show Std w0 w4 F P ZT (x.f i).par (x.f i).B (x.f i).Z (und x.pv x.pw (x.f i).abv x.d (jU v c x.C))
 have e:und x.pv x.pw (x.f i).abv x.d (jU v c x.C) = und x.pv x.pw (x.f i).abv x.d x.C:=by
  rw [hd,gQ (ha i hi),gQ (ha i hi),hpv]
  congr 1
  funext j
  unfold jU
  by_cases q:j = v
  ·rw [if_pos q,if_pos q]
  ·rw [if_neg q,if_neg q,if_neg q]
 rw [e]
 exact hp.sd.kb kk (by decide)
theorem Std.part {w0 w w':World} {F:Nat} {P:Prob} {ZT:Nat→Nat} {k c v D:Nat} {B B':Nat→BxV} {Z:Nat→Nat} {C:Nat→List Value} {cc:List Value} (h:Std w0 w F P ZT k B Z C) (kk:Kb F [45] w w') (hkc:k < c) (hD:D≤ZT k + 1) (hB:∀ j,j ≠ v→B' j = B j) (hx:VX w0 w' F cc ((P.box B').V v) (Z v + D)) :
 Std w0 w' F P ZT c B' (fun j=>if j = v then Z v + D else Z j) (jU v cc C):=by
 refine ⟨fun j hj=>?_,?_⟩
 ·unfold jU
  dsimp only
  by_cases e:j = v
  ·subst e;rw [if_pos rfl,if_pos rfl];exact hx
  ·rw [if_neg e,if_neg e]
   have:=(h.1 j hj).kb kk (by decide)
   have e2:(P.box B').V j = (P.box B).V j:=by
    show ({ P.V j with hlo:=(B' j).hlo,lo:=(B' j).lo,hhi:=(B' j).hhi,hi:=(B' j).hi }:PV) = { P.V j with hlo:=(B j).hlo,lo:=(B j).lo,hhi:=(B j).hhi,hi:=(B j).hi }
    rw [hB j e]
   rw [e2]
   exact this
 ·have h1:=aK5 (Z:=Z) (Z':=fun j=>if j = v then Z v + D else Z j) (v:=v) (D:=D) (fun j hj=>if_neg hj) (by show (if v = v then _ else _)≤_;rw [if_pos rfl];exact Nat.le_refl _) P.vn
  have h2:=h.2
  have h3:tot ZT (k + 1)≤tot ZT c:=pJ ZT hkc
  have h4:tot ZT (k + 1) = tot ZT k + ZT k + 1:=rfl
  omega
def PsF (w0:World) (F:Nat) (P:Prob) (T:Nat→Nod) (ZT:Nat→Nat) (x:WyD) (f:Prt) (w w':World):Prop :=
 ∃ x' Z',WyQ w0 w' F P T ZT x'∧Std w0 w' F P ZT (f.to T) (f.box T) Z' x'.C∧x'.d = x.d + 1∧x'.hn = x.hn∧x'.p = x.p∧x'.f = x.f∧x'.ha = x.ha∧Kb F [97,155,45] w w'
theorem aQ7 {w0 y z z':World} {F:Nat} {P:Prob} {T:Nat→Nod} {ZT:Nat→Nat} {x:WyD} {k v tn D:Nat} {B:Nat→BxV} {Z:Nat→Nat} {pa:Option Addr} {pc g:Nat} {e:Ending} (h:WyQ w0 y F P T ZT (x.push v pa pc)) (hs:Std w0 y F P ZT k B Z x.C) (hF:F≤y.heap.size) (hva:x.va = some ⟨g,0,none⟩) (hok:OkN P T tn k) (hv:(T k).var = (v:Int)) (hab:∀ i,i < x.hn→(x.f i).abv≤x.d) (hD:D≤ZT k + 1) (hD1:1≤D)
 (hyz:Below y.heap.size y z) (hB:BdR ((P.box B).V v).hlo (((P.box B).V v).lo < ((((T k).at' + 1):Int):Rat)) g (v * 13 + 4) ((((T k).at' + 1):Int):Rat) D z e z'):PsF w0 F P T ZT x ⟨k,0,true,B,Z⟩ y z':=by
 have hvl:v < P.vn:=by have:=hok.vn;rw [hv] at this;omega
 have hkc:k < (T k).rt.toNat:=by have:=hok.r0;omega
 have hvn:(T k).var.toNat = v:=by rw [hv];rfl
 obtain ⟨_,w1,hb1,hcase⟩:=hB
 have hb2:=aB hyz hb1
 have h2:=h.below hb2
 have hs2:=hs.kb (bZ [] hb2 hF) (by decide)
 have hto:(⟨k,0,true,B,Z⟩:Prt).to T = (T k).rt.toNat:=by unfold Prt.to;exact if_pos rfl
 have hbx:(⟨k,0,true,B,Z⟩:Prt).box T = gV B v (T k).at':=by unfold Prt.box;rw [if_pos rfl];show gV B (T k).var.toNat (T k).at' = _;rw [hvn]
 have hoth:∀ j,j ≠ v→gV B v (T k).at' j = B j:=fun j hj=>if_neg hj
 unfold PsF
 rw [hto,hbx]
 rcases hcase with ⟨⟨c1,c2⟩,rfl⟩ | ⟨hn,f,c,n,kk,c',n',k',G,rfl⟩
 ·-- the bound stays
  refine ⟨x.push v pa pc,fun j=>if j = v then Z v + D else Z j,h2,?_,rfl,rfl,rfl,rfl,rfl,bZ _ hb2 hF⟩
  have hbv:gV B v (T k).at' v = B v:=by
   show (if v = v then (if (B v).hlo = true∧_ then B v else _) else B v) = B v
   rw [if_pos rfl,if_pos ⟨c1,Rat.not_lt.1 c2⟩]
  have hx:VX w0 z' F (x.C v) ((P.box (gV B v (T k).at')).V v) (Z v + D):=by
   have:=(hs2.1 v hvl).up (Nat.le_add_right (Z v) D)
   have e2:(P.box (gV B v (T k).at')).V v = (P.box B).V v:=by
    show ({ P.V v with hlo:=(gV B v (T k).at' v).hlo,lo:=(gV B v (T k).at' v).lo,hhi:=(gV B v (T k).at' v).hhi,hi:=(gV B v (T k).at' v).hi }:PV) = { P.V v with hlo:=(B v).hlo,lo:=(B v).lo,hhi:=(B v).hhi,hi:=(B v).hi }
    rw [hbv]
   rw [e2]
   exact this
  have hst:=hs2.part (w':=z') (B':=gV B v (T k).at') (c:=(T k).rt.toNat) (v:=v) (D:=D) (cc:=x.C v) (Kb.refl _ _ _) hkc hD hoth hx
  rw [show jU v (x.C v) x.C = x.C from by funext j;unfold jU;split;(rename_i qq;rw [qq]);rfl] at hst
  exact hst
 ·obtain ⟨pO,aO,nO,cO,dO,mO,lO,pl,al,nl,cl,dl,ml,ll,ph,ah,nh,ch,dh,mh,lh,eC,n1,n2,n3,s1,s2,s3,s4,s5⟩:=hs2.1 v hvl
  have G2:=G.mono (B':=F) (Nat.le_trans hF (Nat.le_trans hyz.size (Nat.le_refl _)))
  rcases h2.vs with h0 | ⟨g',cur,hva',hFg,hg,hrg⟩
  ·omega
  have hgg:g' = g:=by
   have:(some ⟨g',0,none⟩:Option Addr) = some ⟨g,0,none⟩:=hva'.symm.trans hva
   simpa using this
  subst hgg
  have hrv:=(hrg v hvl).2
  have hrv2:w1.rangeAt g' (v * 13) (x.C v):=hrv
  rw [eC] at hrv2
  have hnew:=aO2 (b0:=.bool true) (b1:=.bool f) (b2:=.slice c n kk) (b3:=.slice c' n' k') hrv2
  obtain ⟨V4,K4⟩:=VB.put (n:=P.vn) (v:=v) (o:=v * 13 + 4) (vs:=[.bool true,.bool f,.slice c n kk,.slice c' n' k']) hFg hg hrg (by omega) (by show v * 13 + 4 + 4≤_;omega) rfl hnew rfl
  have h4:=aC9 (v:=v) (d:=x.d) h2 rfl (if_neg (Nat.lt_irrefl _)) hab K4 (by rw [show (x.push v pa pc).va = some ⟨g',0,none⟩ from hva];exact V4)
  refine ⟨_,fun j=>if j = v then Z v + D else Z j,h4,?_,rfl,rfl,rfl,rfl,rfl,(bZ _ hb2 hF).trans (K4.up (by decide))⟩
  have hbv:gV B v (T k).at' v = ⟨true,(((T k).at' + 1:Int):Rat),(B v).hhi,(B v).hi⟩:=by
   show (if v = v then (if (B v).hlo = true∧_ then B v else _) else B v) = _
   rw [if_pos rfl,if_neg (fun hq=>hn ⟨hq.1,Rat.not_lt.2 hq.2⟩)]
  have hx:=VX.nlo (v:=(P.box B).V v) (n1.kb K4 (by decide)) (n3.kb K4 (by decide)) (G2.kb K4 (by decide)) s2 s4 s5 hD1
  have e2:(P.box (gV B v (T k).at')).V v = { (P.box B).V v with hlo:=true,lo:=((((T k).at' + 1):Int):Rat) }:=by
   show ({ P.V v with hlo:=(gV B v (T k).at' v).hlo,lo:=(gV B v (T k).at' v).lo,hhi:=(gV B v (T k).at' v).hhi,hi:=(gV B v (T k).at' v).hi }:PV) = _
   rw [hbv]
   rfl
  rw [← e2] at hx
  exact hs2.part (B':=gV B v (T k).at') (c:=(T k).rt.toNat) (v:=v) (D:=D) K4 hkc hD hoth hx
theorem aQ8 {w0 y z z':World} {F:Nat} {P:Prob} {T:Nat→Nod} {ZT:Nat→Nat} {x:WyD} {k v tn D:Nat} {B:Nat→BxV} {Z:Nat→Nat} {pa:Option Addr} {pc g:Nat} {e:Ending} (h:WyQ w0 y F P T ZT (x.push v pa pc)) (hs:Std w0 y F P ZT k B Z x.C) (hF:F≤y.heap.size) (hva:x.va = some ⟨g,0,none⟩) (hok:OkN P T tn k) (hv:(T k).var = (v:Int)) (hab:∀ i,i < x.hn→(x.f i).abv≤x.d) (hD:D≤ZT k + 1) (hD1:1≤D)
 (hyz:Below y.heap.size y z) (hB:BdR ((P.box B).V v).hhi (((((T k).at':Int):Rat)) < ((P.box B).V v).hi) g (v * 13 + 8) (((T k).at':Int):Rat) D z e z'):PsF w0 F P T ZT x ⟨k,0,false,B,Z⟩ y z':=by
 have hvl:v < P.vn:=by have:=hok.vn;rw [hv] at this;omega
 have hkc:k < (T k).lf.toNat:=by have:=hok.l0;omega
 have hvn:(T k).var.toNat = v:=by rw [hv];rfl
 obtain ⟨_,w1,hb1,hcase⟩:=hB
 have hb2:=aB hyz hb1
 have h2:=h.below hb2
 have hs2:=hs.kb (bZ [] hb2 hF) (by decide)
 have hto:(⟨k,0,false,B,Z⟩:Prt).to T = (T k).lf.toNat:=by unfold Prt.to;exact if_neg Bool.false_ne_true
 have hbx:(⟨k,0,false,B,Z⟩:Prt).box T = gU B v (T k).at':=by unfold Prt.box;rw [if_neg Bool.false_ne_true];show gU B (T k).var.toNat (T k).at' = _;rw [hvn]
 have hoth:∀ j,j ≠ v→gU B v (T k).at' j = B j:=fun j hj=>if_neg hj
 unfold PsF
 rw [hto,hbx]
 rcases hcase with ⟨⟨c1,c2⟩,rfl⟩ | ⟨hn,f,c,n,kk,c',n',k',G,rfl⟩
 ·-- the bound stays
  refine ⟨x.push v pa pc,fun j=>if j = v then Z v + D else Z j,h2,?_,rfl,rfl,rfl,rfl,rfl,bZ _ hb2 hF⟩
  have hbv:gU B v (T k).at' v = B v:=by
   show (if v = v then (if (B v).hhi = true∧_ then B v else _) else B v) = B v
   rw [if_pos rfl,if_pos ⟨c1,Rat.not_lt.1 c2⟩]
  have hx:VX w0 z' F (x.C v) ((P.box (gU B v (T k).at')).V v) (Z v + D):=by
   have:=(hs2.1 v hvl).up (Nat.le_add_right (Z v) D)
   have e2:(P.box (gU B v (T k).at')).V v = (P.box B).V v:=by
    show ({ P.V v with hlo:=(gU B v (T k).at' v).hlo,lo:=(gU B v (T k).at' v).lo,hhi:=(gU B v (T k).at' v).hhi,hi:=(gU B v (T k).at' v).hi }:PV) = { P.V v with hlo:=(B v).hlo,lo:=(B v).lo,hhi:=(B v).hhi,hi:=(B v).hi }
    rw [hbv]
   rw [e2]
   exact this
  have hst:=hs2.part (w':=z') (B':=gU B v (T k).at') (c:=(T k).lf.toNat) (v:=v) (D:=D) (cc:=x.C v) (Kb.refl _ _ _) hkc hD hoth hx
  rw [show jU v (x.C v) x.C = x.C from by funext j;unfold jU;split;(rename_i qq;rw [qq]);rfl] at hst
  exact hst
 ·obtain ⟨pO,aO,nO,cO,dO,mO,lO,pl,al,nl,cl,dl,ml,ll,ph,ah,nh,ch,dh,mh,lh,eC,n1,n2,n3,s1,s2,s3,s4,s5⟩:=hs2.1 v hvl
  have G2:=G.mono (B':=F) (Nat.le_trans hF (Nat.le_trans hyz.size (Nat.le_refl _)))
  rcases h2.vs with h0 | ⟨g',cur,hva',hFg,hg,hrg⟩
  ·omega
  have hgg:g' = g:=by
   have:(some ⟨g',0,none⟩:Option Addr) = some ⟨g,0,none⟩:=hva'.symm.trans hva
   simpa using this
  subst hgg
  have hrv:=(hrg v hvl).2
  have hrv2:w1.rangeAt g' (v * 13) (x.C v):=hrv
  rw [eC] at hrv2
  have hnew:=aO3 (b0:=.bool true) (b1:=.bool f) (b2:=.slice c n kk) (b3:=.slice c' n' k') hrv2
  obtain ⟨V4,K4⟩:=VB.put (n:=P.vn) (v:=v) (o:=v * 13 + 8) (vs:=[.bool true,.bool f,.slice c n kk,.slice c' n' k']) hFg hg hrg (by omega) (by show v * 13 + 8 + 4≤_;omega) rfl hnew rfl
  have h4:=aC9 (v:=v) (d:=x.d) h2 rfl (if_neg (Nat.lt_irrefl _)) hab K4 (by rw [show (x.push v pa pc).va = some ⟨g',0,none⟩ from hva];exact V4)
  refine ⟨_,fun j=>if j = v then Z v + D else Z j,h4,?_,rfl,rfl,rfl,rfl,rfl,(bZ _ hb2 hF).trans (K4.up (by decide))⟩
  have hbv:gU B v (T k).at' v = ⟨(B v).hlo,(B v).lo,true,(((T k).at':Int):Rat)⟩:=by
   show (if v = v then (if (B v).hhi = true∧_ then B v else _) else B v) = _
   rw [if_pos rfl,if_neg (fun hq=>hn ⟨hq.1,Rat.not_lt.2 hq.2⟩)]
  have hx:=VX.nhi (v:=(P.box B).V v) (n1.kb K4 (by decide)) (n2.kb K4 (by decide)) (G2.kb K4 (by decide)) s2 s3 s5 hD1
  have e2:(P.box (gU B v (T k).at')).V v = { (P.box B).V v with hhi:=true,hi:=(((T k).at':Int):Rat) }:=by
   show ({ P.V v with hlo:=(gU B v (T k).at' v).hlo,lo:=(gU B v (T k).at' v).lo,hhi:=(gU B v (T k).at' v).hhi,hi:=(gU B v (T k).at' v).hi }:PV) = _
   rw [hbv]
   rfl
  rw [← e2] at hx
  exact hs2.part (B':=gU B v (T k).at') (c:=(T k).lf.toNat) (v:=v) (D:=D) K4 hkc hD hoth hx
theorem zC {h:Bool} {ch:Prop} {g o:Nat} {x:Rat} {D:Nat} {z z':World} {e:Ending} {t U:TypeId} {H:Nat} {cs cur:Array Value} (hB:BdR h ch g o x D z e z') (hr:Rw t z H cs) (hg:z.heap[g]? = some (.cells cur U (0,0))) (hne:t ≠ U):Rw t z' H cs:=by
 obtain ⟨_,w1,hb1,⟨_,rfl⟩ | ⟨_,f,c,n,kk,c',n',k',_,rfl⟩⟩:=hB
 ·exact hr.below hb1
 ·refine (hr.below hb1).off (fH g _ o w1) fun e=>?_
  subst e
  unfold Rw at hr
  rw [hr] at hg
  simp only [Option.some.injEq,Obj.cells.injEq] at hg
  exact hne hg.2.1
def PsR (w0:World) (F:Nat) (P:Prob) (T:Nat→Nod) (ZT:Nat→Nat) (x:WyD) (f:Prt) (w:World) (e:Ending) (w':World):Prop:=(∃ v,e = .returned v)∧PsF w0 F P T ZT x f w w'
theorem PsF.from {w0 w w1 w2:World} {F:Nat} {P:Prob} {T:Nat→Nod} {ZT:Nat→Nat} {x:WyD} {f:Prt} (h:PsF w0 F P T ZT x f w1 w2) (hb:Kb F [97,155,45] w w1):PsF w0 F P T ZT x f w w2:=by
 obtain ⟨x',Z',h1,h2,h3,h4,h5,h6,h8,h7⟩:=h
 exact ⟨x',Z',h1,h2,h3,h4,h5,h6,h8,hb.trans h7⟩
theorem aQ9 {w0:World} {F:Nat} {P:Prob} {T:Nat→Nod} {ZT:Nat→Nat} {x:WyD} {k v tn:Nat} {B:Nat→BxV} {Z:Nat→Nat} {b0 o0:Nat} (rt:Bool) (w:World) (hb0:Below w0.heap.size w0 w) (h:WyQ w0 w F P T ZT x) (hF:F≤w.heap.size) (hs:Std w0 w F P ZT k B Z x.C) (hok:OkN P T tn k) (hv:(T k).var = (v:Int)) (hN:NodeAt w0 b0 o0 (T k) (ZT k)) (hd:x.d≤2000000) (hZ:Z v≤3000000) (hZT:ZT k≤1048576) (hab:∀ i,i < x.hn→(x.f i).abv≤x.d) (hT:TB w0) (hFw:w0.heap.size≤F) :
 Calls Tryz.prog 115 #[.pointer (some ⟨x.p,0,none⟩),.agg #[.bool (T k).sp,.int .i64 (T k).var,.bool (T k).p,.slice (T k).a (T k).na (T k).ca,.int .i64 (T k).lf,.int .i64 (T k).rt,.int .i64 (T k).C.vd,.bool (T k).C.p,.slice (T k).C.a (T k).C.na (T k).C.ca,.slice (T k).C.d (T k).C.nd (T k).C.cd,.slice (T k).C.xa (T k).C.xn (T k).C.xc,.slice (T k).C.ya (T k).C.yn (T k).C.yc,.slice (T k).C.za (T k).C.zn (T k).C.zc],.bool rt] w fun e w'=>PsR w0 F P T ZT x ⟨k,0,rt,B,Z⟩ w e w':=by
 rw [hv]
 have hvl:v < P.vn:=by have:=hok.vn;rw [hv] at this;omega
 have hVv:=hs.1 v hvl
 have hsh:=hVv.sh
 obtain ⟨pO,aO,nO,cO,dO,mO,lO,pl,al,nl,cl,dl,ml,ll,ph,ah,nh,ch,dh,mh,lh,eC,n1,n2,n3,s1,s2,s3,s4,s5⟩:=hVv
 obtain ⟨Tk,ti,tk1,tk2⟩:=hN.ti
 have hCK4:4≤(T k).C.K:=by have:=hN.cq.all;have:=hN.cq.s1;have:=bJ (T k).C.ZX (T k).C.xn;have:=bJ (T k).C.ZY (T k).C.yn;have:=bJ (T k).C.ZZ (T k).C.zn;omega
 rcases h.vs with h0 | ⟨g,cur,hva,hFg,hg,hrg⟩
 ·omega
 -- the node's box
 have Nb:=Rw.new 49 w #[.bool (T k).sp,.int .i64 (v:Nat),.bool (T k).p,.slice (T k).a (T k).na (T k).ca,.int .i64 (T k).lf,.int .i64 (T k).rt,.int .i64 (T k).C.vd,.bool (T k).C.p,.slice (T k).C.a (T k).C.na (T k).C.ca,.slice (T k).C.d (T k).C.nd (T k).C.cd,.slice (T k).C.xa (T k).C.xn (T k).C.xc,.slice (T k).C.ya (T k).C.yn (T k).C.yc,.slice (T k).C.za (T k).C.zn (T k).C.zc]
 have hz:=aG w (.cells #[.bool (T k).sp,.int .i64 (v:Nat),.bool (T k).p,.slice (T k).a (T k).na (T k).ca,.int .i64 (T k).lf,.int .i64 (T k).rt,.int .i64 (T k).C.vd,.bool (T k).C.p,.slice (T k).C.a (T k).C.na (T k).C.ca,.slice (T k).C.d (T k).C.nd (T k).C.cd,.slice (T k).C.xa (T k).C.xn (T k).C.xc,.slice (T k).C.ya (T k).C.yn (T k).C.yc,.slice (T k).C.za (T k).C.zn (T k).C.zc] 49)
 have hF1:F≤(w.alloc (.cells #[.bool (T k).sp,.int .i64 (v:Nat),.bool (T k).p,.slice (T k).a (T k).na (T k).ca,.int .i64 (T k).lf,.int .i64 (T k).rt,.int .i64 (T k).C.vd,.bool (T k).C.p,.slice (T k).C.a (T k).C.na (T k).C.ca,.slice (T k).C.d (T k).C.nd (T k).C.cd,.slice (T k).C.xa (T k).C.xn (T k).C.xc,.slice (T k).C.ya (T k).C.yn (T k).C.yc,.slice (T k).C.za (T k).C.zn (T k).C.zc] 49)).heap.size:=Nat.le_trans hF hz.size
 have h1:=h.below hz
 have hs1:=hs.kb (bZ [] hz hF) (by decide)
 obtain ⟨nmV,enm⟩:∃ nmV,nmV = ((P.box B).V v).nm:=⟨_,rfl⟩
 obtain ⟨hl,ehl⟩:∃ hl,hl = ((P.box B).V v).hlo:=⟨_,rfl⟩
 obtain ⟨hh,ehh⟩:∃ hh,hh = ((P.box B).V v).hhi:=⟨_,rfl⟩
 obtain ⟨wh,ewh⟩:∃ wh,wh = ((P.box B).V v).whole:=⟨_,rfl⟩
 rw [← enm,← ehl,← ehh,← ewh] at eC
 have HE:Hid (hl = ((P.box B).V v).hlo∧hh = ((P.box B).V v).hhi):=⟨ehl,ehh⟩
 clear enm ehl ehh ewh
 have HC:Hid (x.C v = [.string nmV,.bool pO,.slice aO nO cO,.slice dO mO lO,.bool hl,.bool pl,.slice al nl cl,.slice dl ml ll,.bool hh,.bool ph,.slice ah nh ch,.slice dh mh lh,.bool wh]∧Sh13 (x.C v)):=⟨eC,hsh⟩
 have hrv:=(hrg v hvl).2
 rw [eC] at hrv
 go_enter Tryz.func115,Tryz.ntmps115
 go_wp2_with fail
 generalize w.alloc (.cells #[.bool (T k).sp,.int .i64 (v:Nat),.bool (T k).p,.slice (T k).a (T k).na (T k).ca,.int .i64 (T k).lf,.int .i64 (T k).rt,.int .i64 (T k).C.vd,.bool (T k).C.p,.slice (T k).C.a (T k).C.na (T k).C.ca,.slice (T k).C.d (T k).C.nd (T k).C.cd,.slice (T k).C.xa (T k).C.xn (T k).C.xc,.slice (T k).C.ya (T k).C.yn (T k).C.yc,.slice (T k).C.za (T k).C.zn (T k).C.zc] 49) = U at *
 obtain ⟨H,hH⟩:∃ H,w.heap.size = H:=⟨_,rfl⟩
 rw [hH] at Nb ⊢
 have hUw:Below F w U:=hz.mono hF
 have kWU:Kb F [97,155] w U:=bZ _ hz hF
 have hb0U:=hb0.trans (hz.mono hb0.size)
 have hrU:=bK hrv hz
 have hgU:U.heap[g]? = some (.cells cur 45 (0,0)):=(hz.block g (Array.getElem?_eq_some_iff.1 hg).1).trans hg
 have hkV:(v:Int) * 13 = ((v * 13:Nat):Int):=by omega
 have hvI:(v:Int) < (P.vn:Int):=by omega
 have hv0:¬ (v:Int) < 0:=by omega
 have HVA:Hid (x.va = some ⟨g,0,none⟩):=hva
 clear hz hH hg hrv hs h hb0 hsh eC hrg hva
 have HBX:∀ w',Kb F [155] U w'→(w'.cell? ⟨x.p,5,none⟩ = some (.slice (some ⟨g,0,none⟩) P.vn x.vc)∧w'.cell? ⟨x.p,7,none⟩ = some (.slice x.pa x.d x.pc)∧w'.cell? ⟨H,1,none⟩ = some (.int .i64 (v:Nat))∧w'.cell? ⟨H,2,none⟩ = some (.bool (T k).p)∧w'.cell? ⟨H,3,none⟩ = some (.slice (T k).a (T k).na (T k).ca)∧w'.cell? ⟨g,v * 13,none⟩ = some (.string nmV)∧w'.cell? ⟨g,v * 13 + 1,none⟩ = some (.bool pO)∧w'.cell? ⟨g,v * 13 + 2,none⟩ = some (.slice aO nO cO)∧w'.cell? ⟨g,v * 13 + 3,none⟩ = some (.slice dO mO lO)∧w'.cell? ⟨g,v * 13 + 4,none⟩ = some (.bool hl)∧w'.cell? ⟨g,v * 13 + 5,none⟩ = some (.bool pl)∧w'.cell? ⟨g,v * 13 + 6,none⟩ = some (.slice al nl cl)∧w'.cell? ⟨g,v * 13 + 7,none⟩ = some (.slice dl ml ll)∧w'.cell? ⟨g,v * 13 + 8,none⟩ = some (.bool hh)∧w'.cell? ⟨g,v * 13 + 9,none⟩ = some (.bool ph)∧w'.cell? ⟨g,v * 13 + 10,none⟩ = some (.slice ah nh ch)∧w'.cell? ⟨g,v * 13 + 11,none⟩ = some (.slice dh mh lh)∧w'.cell? ⟨g,v * 13 + 12,none⟩ = some (.bool wh)):=fun w' hk=>by
  have st2:Rw 97 w' x.p (x.cells P):=h1.st.kb hk (by decide)
  have nb2:=Nb.kb hk (by decide)
  have e:=hk.high g _ _ _ hgU (by decide)
  have hr2:w'.rangeAt g (v * 13) [.string nmV,.bool pO,.slice aO nO cO,.slice dO mO lO,.bool hl,.bool pl,.slice al nl cl,.slice dl ml ll,.bool hh,.bool ph,.slice ah nh ch,.slice dh mh lh,.bool wh]:=fun i u hu=>(World.cell?_of_block e).trans (hrU i u hu)
  have c5:w'.cell? ⟨x.p,5,none⟩ = some (.slice x.va P.vn x.vc):=st2.cell 5
  rw [HVA.out] at c5
  exact ⟨c5,st2.cell 7,nb2.cell 1,nb2.cell 2,nb2.cell 3,hr2 0 _ rfl,hr2 1 _ rfl,hr2 2 _ rfl,hr2 3 _ rfl,hr2 4 _ rfl,hr2 5 _ rfl,hr2 6 _ rfl,hr2 7 _ rfl,hr2 8 _ rfl,hr2 9 _ rfl,hr2 10 _ rfl,hr2 11 _ rfl,hr2 12 _ rfl⟩
 refine wp_region_noPanic (aY (fun _ w'=>w'.cell? ⟨x.p,5,none⟩ = some (.slice (some ⟨g,0,none⟩) P.vn x.vc)∧w'.cell? ⟨x.p,7,none⟩ = some (.slice x.pa x.d x.pc)∧w'.cell? ⟨H,1,none⟩ = some (.int .i64 (v:Nat))∧w'.cell? ⟨H,2,none⟩ = some (.bool (T k).p)∧w'.cell? ⟨H,3,none⟩ = some (.slice (T k).a (T k).na (T k).ca)∧w'.cell? ⟨g,v * 13,none⟩ = some (.string nmV)∧w'.cell? ⟨g,v * 13 + 1,none⟩ = some (.bool pO)∧w'.cell? ⟨g,v * 13 + 2,none⟩ = some (.slice aO nO cO)∧w'.cell? ⟨g,v * 13 + 3,none⟩ = some (.slice dO mO lO)∧w'.cell? ⟨g,v * 13 + 4,none⟩ = some (.bool hl)∧w'.cell? ⟨g,v * 13 + 5,none⟩ = some (.bool pl)∧w'.cell? ⟨g,v * 13 + 6,none⟩ = some (.slice al nl cl)∧w'.cell? ⟨g,v * 13 + 7,none⟩ = some (.slice dl ml ll)∧w'.cell? ⟨g,v * 13 + 8,none⟩ = some (.bool hh)∧w'.cell? ⟨g,v * 13 + 9,none⟩ = some (.bool ph)∧w'.cell? ⟨g,v * 13 + 10,none⟩ = some (.slice ah nh ch)∧w'.cell? ⟨g,v * 13 + 11,none⟩ = some (.slice dh mh lh)∧w'.cell? ⟨g,v * 13 + 12,none⟩ = some (.bool wh)) (by kernel_rfl) ?_)
 have hc0:Kb F [155] U U.drew:=bZ _ (aK _) hF1
 have hbz0:Below U.heap.size U U.drew:=aK _
 generalize U.drew = z0 at *
 refine wpAnyG.tA 0 (v:=.pointer (some ⟨x.p,0,none⟩)) (by decide) 8 (by kernel_rfl) (by rfl) ?y0 (HBX _ hc0) ?_
 case y0 =>
  rintro w' ⟨q0,q1,q2,q3,q4,q5,q6,q7,q8,q9,q10,q11,q12,q13,q14,q15,q16,q17⟩
  simp only [lgA,lgZ]
  go_simp
 simp only [lgA,lgZ,Act.put,lsA,lsZ,lsS]
 refine wpAnyG.tA 1 (v:=.pointer (some ⟨x.p,0,none⟩)) (by decide) 8 (by kernel_rfl) (by rfl) ?y1 (HBX _ hc0) ?_
 case y1 =>
  rintro w' ⟨q0,q1,q2,q3,q4,q5,q6,q7,q8,q9,q10,q11,q12,q13,q14,q15,q16,q17⟩
  simp only [lgA,lgZ,lgS]
  go_simp
 simp only [lgA,lgZ,lgS,Act.put,lsA,lsZ,lsS]
 refine wpAnyG.tA 2 (v:=.pointer (some ⟨x.p,0,none⟩)) (by decide) 8 (by kernel_rfl) (by rfl) ?y2 (HBX _ hc0) ?_
 case y2 =>
  rintro w' ⟨q0,q1,q2,q3,q4,q5,q6,q7,q8,q9,q10,q11,q12,q13,q14,q15,q16,q17⟩
  simp only [lgA,lgZ,lgS]
  go_simp
 simp only [lgA,lgZ,lgS,Act.put,lsA,lsZ,lsS]
 refine wpAnyG.tA 3 (v:=.pointer (some ⟨x.p,5,none⟩)) (by decide) 8 (by kernel_rfl) (by rfl) ?y3 (HBX _ hc0) ?_
 case y3 =>
  rintro w' ⟨q0,q1,q2,q3,q4,q5,q6,q7,q8,q9,q10,q11,q12,q13,q14,q15,q16,q17⟩
  simp only [lgA,lgZ,lgS]
  go_simp
 simp only [lgA,lgZ,lgS,Act.put,lsA,lsZ,lsS]
 refine wpAnyG.tA 4 (v:=.slice (some ⟨g,0,none⟩) P.vn x.vc) (by decide) 8 (by kernel_rfl) (by rfl) ?y4 (HBX _ hc0) ?_
 case y4 =>
  rintro w' ⟨q0,q1,q2,q3,q4,q5,q6,q7,q8,q9,q10,q11,q12,q13,q14,q15,q16,q17⟩
  simp only [lgA,lgZ,lgS]
  go_simp
 simp only [lgA,lgZ,lgS,Act.put,lsA,lsZ,lsS]
 refine wpAnyG.tA 5 (v:=.pointer (some ⟨H,1,none⟩)) (by decide) 8 (by kernel_rfl) (by rfl) ?y5 (HBX _ hc0) ?_
 case y5 =>
  rintro w' ⟨q0,q1,q2,q3,q4,q5,q6,q7,q8,q9,q10,q11,q12,q13,q14,q15,q16,q17⟩
  simp only [lgA,lgZ,lgS]
  go_simp
 simp only [lgA,lgZ,lgS,Act.put,lsA,lsZ,lsS]
 refine wpAnyG.tA 6 (v:=.int .i64 (v:Nat)) (by decide) 8 (by kernel_rfl) (by rfl) ?y6 (HBX _ hc0) ?_
 case y6 =>
  rintro w' ⟨q0,q1,q2,q3,q4,q5,q6,q7,q8,q9,q10,q11,q12,q13,q14,q15,q16,q17⟩
  simp only [lgA,lgZ,lgS]
  go_simp
 simp only [lgA,lgZ,lgS,Act.put,lsA,lsZ,lsS]
 refine wpAnyG.tA 7 (v:=.pointer (some ⟨g,v * 13,none⟩)) (by decide) 8 (by kernel_rfl) (by rfl) ?y7 (HBX _ hc0) ?_
 case y7 =>
  rintro w' ⟨q0,q1,q2,q3,q4,q5,q6,q7,q8,q9,q10,q11,q12,q13,q14,q15,q16,q17⟩
  simp only [lgA,lgZ,lgS]
  go_simp
 simp only [lgA,lgZ,lgS,Act.put,lsA,lsZ,lsS]
 refine wpAnyG.one 8 (by kernel_rfl) (by decide) (by rfl) (fun K hK=>?_)
 simp only [lgA,lgZ,lgS]
 go_simp
 refine hK _ _ (HBX _ hc0) ?_
 clear hK K
 refine wpAnyG.done (by kernel_rfl) (NoPanic.normal ?_)
 try simp only [Act.put,List.setIfInBounds_toArray,List.set_cons_zero,List.set_cons_succ]
 have HD:Hid (∀ i,i < 1→∀ j u,((fun _=>[.int .i64 (v:Nat),.string nmV,.bool pO,.slice aO nO cO,.slice dO mO lO,.bool hl,.bool pl,.slice al nl cl,.slice dl ml ll,.bool hh,.bool ph,.slice ah nh ch,.slice dh mh lh,.bool wh]:Nat→List Value) i)[j]? = some u→j < 14∧([.int .i64 (v:Nat),.string nmV,.bool pO,.slice aO nO cO,.slice dO mO lO,.bool hl,.bool pl,.slice al nl cl,.slice dl ml ll,.bool hh,.bool ph,.slice ah nh ch,.slice dh mh lh,.bool wh]:List Value)[i * 14 + j]? = some u):=fun i hi j u hu=>by
  obtain rfl:i = 0:=by omega
  exact ⟨by simpa using (List.getElem?_eq_some_iff.1 hu).1,by rw [Nat.zero_mul,Nat.zero_add];exact hu⟩
 have H1:Hid (∀ u ∈ ([.int .i64 (v:Nat),.string nmV,.bool pO,.slice aO nO cO,.slice dO mO lO,.bool hl,.bool pl,.slice al nl cl,.slice dl ml ll,.bool hh,.bool ph,.slice ah nh ch,.slice dh mh lh,.bool wh]:List Value),u.oneCell' = true):=fun u hu=>by
  simp only [List.mem_cons,List.not_mem_nil,or_false] at hu
  rcases hu with rfl | rfl | rfl | rfl | rfl | rfl | rfl | rfl | rfl | rfl | rfl | rfl | rfl | rfl <;> rfl
 have hsz0:=hbz0.size
 go_wp2_with fail
 refine wp_region_noPanic (aY (Till 15 15 (fun w'=>w'.cell? ⟨x.p,5,none⟩ = some (.slice (some ⟨g,0,none⟩) P.vn x.vc)∧w'.cell? ⟨x.p,7,none⟩ = some (.slice x.pa x.d x.pc)∧w'.cell? ⟨H,1,none⟩ = some (.int .i64 (v:Nat))∧w'.cell? ⟨H,2,none⟩ = some (.bool (T k).p)∧w'.cell? ⟨H,3,none⟩ = some (.slice (T k).a (T k).na (T k).ca)∧w'.cell? ⟨g,v * 13,none⟩ = some (.string nmV)∧w'.cell? ⟨g,v * 13 + 1,none⟩ = some (.bool pO)∧w'.cell? ⟨g,v * 13 + 2,none⟩ = some (.slice aO nO cO)∧w'.cell? ⟨g,v * 13 + 3,none⟩ = some (.slice dO mO lO)∧w'.cell? ⟨g,v * 13 + 4,none⟩ = some (.bool hl)∧w'.cell? ⟨g,v * 13 + 5,none⟩ = some (.bool pl)∧w'.cell? ⟨g,v * 13 + 6,none⟩ = some (.slice al nl cl)∧w'.cell? ⟨g,v * 13 + 7,none⟩ = some (.slice dl ml ll)∧w'.cell? ⟨g,v * 13 + 8,none⟩ = some (.bool hh)∧w'.cell? ⟨g,v * 13 + 9,none⟩ = some (.bool ph)∧w'.cell? ⟨g,v * 13 + 10,none⟩ = some (.slice ah nh ch)∧w'.cell? ⟨g,v * 13 + 11,none⟩ = some (.slice dh mh lh)∧w'.cell? ⟨g,v * 13 + 12,none⟩ = some (.bool wh)) (fun _=>True)) (by kernel_rfl) ?_)
 have hc0:Kb F [155] U z0.drew:=hc0.trans (bZ _ (aK _) (Nat.le_trans hF1 hsz0))
 have hby0:Below U.heap.size U z0.drew:=aB hbz0 (aK _)
 generalize z0.drew = y0 at *
 refine wpAnyG.tT 0 (v:=.pointer (some ⟨x.p,0,none⟩)) (by decide) 15 (by kernel_rfl) (by rfl) ?y0 (HBX _ hc0) ?_
 case y0 =>
  rintro w' ⟨q0,q1,q2,q3,q4,q5,q6,q7,q8,q9,q10,q11,q12,q13,q14,q15,q16,q17⟩
  simp only [lgA,lgZ]
  go_simp
 simp only [lgA,lgZ,Act.put,lsA,lsZ,lsS]
 refine wpAnyG.tT 1 (v:=.pointer (some ⟨x.p,0,none⟩)) (by decide) 15 (by kernel_rfl) (by rfl) ?y1 (HBX _ hc0) ?_
 case y1 =>
  rintro w' ⟨q0,q1,q2,q3,q4,q5,q6,q7,q8,q9,q10,q11,q12,q13,q14,q15,q16,q17⟩
  simp only [lgA,lgZ,lgS]
  go_simp
 simp only [lgA,lgZ,lgS,Act.put,lsA,lsZ,lsS]
 refine wpAnyG.tT 2 (v:=.pointer (some ⟨x.p,0,none⟩)) (by decide) 15 (by kernel_rfl) (by rfl) ?y2 (HBX _ hc0) ?_
 case y2 =>
  rintro w' ⟨q0,q1,q2,q3,q4,q5,q6,q7,q8,q9,q10,q11,q12,q13,q14,q15,q16,q17⟩
  simp only [lgA,lgZ,lgS]
  go_simp
 simp only [lgA,lgZ,lgS,Act.put,lsA,lsZ,lsS]
 refine wpAnyG.tT 3 (v:=.pointer (some ⟨x.p,7,none⟩)) (by decide) 15 (by kernel_rfl) (by rfl) ?y3 (HBX _ hc0) ?_
 case y3 =>
  rintro w' ⟨q0,q1,q2,q3,q4,q5,q6,q7,q8,q9,q10,q11,q12,q13,q14,q15,q16,q17⟩
  simp only [lgA,lgZ,lgS]
  go_simp
 simp only [lgA,lgZ,lgS,Act.put,lsA,lsZ,lsS]
 refine wpAnyG.tT 4 (v:=.slice x.pa x.d x.pc) (by decide) 15 (by kernel_rfl) (by rfl) ?y4 (HBX _ hc0) ?_
 case y4 =>
  rintro w' ⟨q0,q1,q2,q3,q4,q5,q6,q7,q8,q9,q10,q11,q12,q13,q14,q15,q16,q17⟩
  simp only [lgA,lgZ,lgS]
  go_simp
 simp only [lgA,lgZ,lgS,Act.put,lsA,lsZ,lsS]
 refine wpAnyG.tT 5 (v:=.pointer (some ⟨H,1,none⟩)) (by decide) 15 (by kernel_rfl) (by rfl) ?y5 (HBX _ hc0) ?_
 case y5 =>
  rintro w' ⟨q0,q1,q2,q3,q4,q5,q6,q7,q8,q9,q10,q11,q12,q13,q14,q15,q16,q17⟩
  simp only [lgA,lgZ,lgS]
  go_simp
 simp only [lgA,lgZ,lgS,Act.put,lsA,lsZ,lsS]
 refine wpAnyG.tT 6 (v:=.int .i64 (v:Nat)) (by decide) 15 (by kernel_rfl) (by rfl) ?y6 (HBX _ hc0) ?_
 case y6 =>
  rintro w' ⟨q0,q1,q2,q3,q4,q5,q6,q7,q8,q9,q10,q11,q12,q13,q14,q15,q16,q17⟩
  simp only [lgA,lgZ,lgS]
  go_simp
 simp only [lgA,lgZ,lgS,Act.put,lsA,lsZ,lsS]
 refine wpAnyG.tT 7 (v:=.pointer (some ⟨g,v * 13,none⟩)) (by decide) 15 (by kernel_rfl) (by rfl) ?y7 (HBX _ hc0) ?_
 case y7 =>
  rintro w' ⟨q0,q1,q2,q3,q4,q5,q6,q7,q8,q9,q10,q11,q12,q13,q14,q15,q16,q17⟩
  simp only [lgA,lgZ,lgS]
  go_simp
 simp only [lgA,lgZ,lgS,Act.put,lsA,lsZ,lsS]
 refine wpAnyG.tT 8 (v:=.pointer (some ⟨g,v * 13,none⟩)) (by decide) 15 (by kernel_rfl) (by rfl) ?y8 (HBX _ hc0) ?_
 case y8 =>
  rintro w' ⟨q0,q1,q2,q3,q4,q5,q6,q7,q8,q9,q10,q11,q12,q13,q14,q15,q16,q17⟩
  simp only [lgA,lgZ,lgS]
  go_simp
 simp only [lgA,lgZ,lgS,Act.put,lsA,lsZ,lsS]
 refine wpAnyG.tT 9 (v:=.agg #[.string nmV,.bool pO,.slice aO nO cO,.slice dO mO lO,.bool hl,.bool pl,.slice al nl cl,.slice dl ml ll,.bool hh,.bool ph,.slice ah nh ch,.slice dh mh lh,.bool wh]) (by decide) 15 (by kernel_rfl) (by rfl) ?y9 (HBX _ hc0) ?_
 case y9 =>
  rintro w' ⟨q0,q1,q2,q3,q4,q5,q6,q7,q8,q9,q10,q11,q12,q13,q14,q15,q16,q17⟩
  simp only [lgA,lgZ,lgS]
  go_simp
 simp only [lgA,lgZ,lgS,Act.put,lsA,lsZ,lsS]
 refine wpAnyG.tT 10 (v:=.agg #[.int .i64 (v:Nat),.string nmV,.bool pO,.slice aO nO cO,.slice dO mO lO,.bool hl,.bool pl,.slice al nl cl,.slice dl ml ll,.bool hh,.bool ph,.slice ah nh ch,.slice dh mh lh,.bool wh]) (by decide) 15 (by kernel_rfl) (by rfl) ?y10 (HBX _ hc0) ?_
 case y10 =>
  rintro w' ⟨q0,q1,q2,q3,q4,q5,q6,q7,q8,q9,q10,q11,q12,q13,q14,q15,q16,q17⟩
  simp only [lgA,lgZ,lgS]
  go_simp
 simp only [lgA,lgZ,lgS,Act.put,lsA,lsZ,lsS]
 refine wpAnyG.one 11 (by kernel_rfl) (by decide) (by rfl) (fun K hK=>?_)
 simp only [lgA,lgZ,lgS]
 go_simp
 have hx:=aG y0 (.cells #[.int .i64 (v:Nat),.string nmV,.bool pO,.slice aO nO cO,.slice dO mO lO,.bool hl,.bool pl,.slice al nl cl,.slice dl ml ll,.bool hh,.bool ph,.slice ah nh ch,.slice dh mh lh,.bool wh] 155)
 have hbx:=aB hby0 hx
 have Eb:=aJ y0 #[.int .i64 (v:Nat),.string nmV,.bool pO,.slice aO nO cO,.slice dO mO lO,.bool hl,.bool pl,.slice al nl cl,.slice dl ml ll,.bool hh,.bool ph,.slice ah nh ch,.slice dh mh lh,.bool wh] 155
 have hd1:Kb F [155] U (y0.alloc (.cells #[.int .i64 (v:Nat),.string nmV,.bool pO,.slice aO nO cO,.slice dO mO lO,.bool hl,.bool pl,.slice al nl cl,.slice dl ml ll,.bool hh,.bool ph,.slice ah nh ch,.slice dh mh lh,.bool wh] 155)):=hc0.trans (bZ _ hx (Nat.le_trans hF1 hby0.size))
 have hsz1:(y0.alloc (.cells #[.int .i64 (v:Nat),.string nmV,.bool pO,.slice aO nO cO,.slice dO mO lO,.bool hl,.bool pl,.slice al nl cl,.slice dl ml ll,.bool hh,.bool ph,.slice ah nh ch,.slice dh mh lh,.bool wh] 155)).heap.size = y0.heap.size + 1:=by simp
 refine hK _ _ ⟨fun _=>HBX _ hd1,fun _=>trivial⟩ ?_
 generalize y0.alloc (.cells #[.int .i64 (v:Nat),.string nmV,.bool pO,.slice aO nO cO,.slice dO mO lO,.bool hl,.bool pl,.slice al nl cl,.slice dl ml ll,.bool hh,.bool ph,.slice ah nh ch,.slice dh mh lh,.bool wh] 155) = y1 at *
 have hyz:=hby0.size
 clear hx
 clear hK K
 refine wpAnyG.one 12 (by kernel_rfl) (by decide) (by rfl) (fun K hK=>?_)
 simp only [lgA,lgZ,lgS]
 refine uJ y1 _ _ 94 155 14 216 1 rfl Tryz.underlying94 aK8 (by decide) (by decide) (by decide) F (.slice x.pa x.d x.pc) x.d _ rfl (h1.ps.below hbx) y0.heap.size _ rfl (fun _=>[.int .i64 (v:Nat),.string nmV,.bool pO,.slice aO nO cO,.slice dO mO lO,.bool hl,.bool pl,.slice al nl cl,.slice dl ml ll,.bool hh,.bool ph,.slice ah nh ch,.slice dh mh lh,.bool wh]) [.int .i64 (v:Nat),.string nmV,.bool pO,.slice aO nO cO,.slice dO mO lO,.bool hl,.bool pl,.slice al nl cl,.slice dl ml ll,.bool hh,.bool ph,.slice ah nh ch,.slice dh mh lh,.bool wh] rfl HD.out H1.out Eb (by omega) (by omega) (y0.heap.size + 1) hsz1 ?_
 intro g2 cap2 y2 S2 hg2 _ _
 have hd2:Kb F [155] U y2:=hd1.trans (zB (h1.ps.below hbx) (Nat.le_refl _) (by omega) hg2)
 refine hK _ _ ⟨fun _=>HBX _ hd2,fun _=>trivial⟩ ?_
 clear hK K
 refine wpAnyG.one 13 (by kernel_rfl) (by decide) (by rfl) (fun K hK=>?_)
 simp only [lgA,lgZ,lgS]
 go_simp
 refine hK _ _ ⟨fun _=>HBX _ hd2,fun _=>trivial⟩ ?_
 clear hK K
 refine wpAnyG.one 14 (by kernel_rfl) (by decide) (by rfl) (fun K hK=>?_)
 simp only [lgA,lgZ,lgS]
 go_simp
 refine hK _ _ ⟨fun _=>HBX _ hd2,fun _=>trivial⟩ ?_
 clear hK K
 refine wpAnyG.one 15 (by kernel_rfl) (by decide) (by rfl) (fun K hK=>?_)
 simp only [lgA,lgZ,lgS]
 have st2:Rw 97 y2 x.p (x.cells P):=h1.st.kb hd2 (by decide)
 have d7:y2.cell? ⟨x.p,7,none⟩ = some (.slice x.pa x.d x.pc):=st2.cell 7
 have f7:=st2.frozen 7
 go_simp
 refine hK _ _ ⟨fun h=>absurd h (by decide),fun _=>trivial⟩ ?_
 clear st2 d7 f7
 clear hK K
 refine wpAnyG.done (by kernel_rfl) (NoPanic.normal ?_)
 try simp only [Act.put,List.setIfInBounds_toArray,List.set_cons_zero,List.set_cons_succ]
 have S3:=S2.congr (F:=fun i=>if i < x.d then .int .i64 (x.pv i:Nat) :: x.pw i else .int .i64 (v:Nat) :: x.C v) (fun i hi=>by
  by_cases q:i < x.d
  ·rw [if_pos q,if_pos q]
  ·rw [if_neg q,if_neg q,HC.out.1])
 obtain ⟨W3,K3⟩:=aL0 (g:=g2) (cap:=cap2) h1 hvl HC.out.2 hd2 S3 rfl
 have hs3:=hs1.kb K3 (by decide)
 have Nb3:=Nb.kb K3 (by decide)
 have hF3:F≤(y2.setCell ⟨x.p,7,none⟩ (.slice (some ⟨g2,0,none⟩) (x.d + 1) cap2)).heap.size:=Nat.le_trans hF1 K3.size
 have hb3:Below w0.heap.size w0 (y2.setCell ⟨x.p,7,none⟩ (.slice (some ⟨g2,0,none⟩) (x.d + 1) cap2)):=hb0U.trans (K3.below.mono hFw)
 have e3:=K3.high g _ _ _ hgU (by decide)
 have hr3:(y2.setCell ⟨x.p,7,none⟩ (.slice (some ⟨g2,0,none⟩) (x.d + 1) cap2)).rangeAt g (v * 13) [.string nmV,.bool pO,.slice aO nO cO,.slice dO mO lO,.bool hl,.bool pl,.slice al nl cl,.slice dl ml ll,.bool hh,.bool ph,.slice ah nh ch,.slice dh mh lh,.bool wh]:=fun i u hu=>(World.cell?_of_block e3).trans (hrU i u hu)
 have hg3:=e3.trans hgU
 have kWY:=kWU.trans K3
 have hUY:Kb F [97,155,45] w _:=kWY.up (by decide)
 replace n1:=n1.kb kWY (by decide)
 replace n2:=n2.kb kWY (by decide)
 replace n3:=n3.kb kWY (by decide)
 clear S2 S3 hd1 hd2 hg2 HD H1 Eb hbx hsz0 hsz1 hyz HBX hc0 hbz0 hby0 hs1 Nb h1 hF1 hb0U hrU hgU e3 K3 hUw kWU kWY
 generalize y2.setCell ⟨x.p,7,none⟩ (.slice (some ⟨g2,0,none⟩) (x.d + 1) cap2) = Y at *
 cases rt
 ·have HBY:∀ w',Below Y.heap.size Y w'→(w'.cell? ⟨H,2,none⟩ = some (.bool (T k).p)∧w'.cell? ⟨H,3,none⟩ = some (.slice (T k).a (T k).na (T k).ca)):=fun w' hw=>⟨(Nb3.below hw).cell 2,(Nb3.below hw).cell 3⟩
  go_wp2_with fail
  refine wp_region_noPanic (aY (fun _ w'=>w'.cell? ⟨H,2,none⟩ = some (.bool (T k).p)∧w'.cell? ⟨H,3,none⟩ = some (.slice (T k).a (T k).na (T k).ca)) (by kernel_rfl) ?_)
  have hc0:Below Y.heap.size Y Y.drew:=aK _
  generalize Y.drew = y0 at *
  refine wpAnyG.tA 0 (v:=.pointer (some ⟨g,v * 13,none⟩)) (by decide) 1 (by kernel_rfl) (by rfl) ?y0 (HBY _ hc0) ?_
  case y0 =>
   rintro w' ⟨q0,q1⟩
   simp only [lgA,lgZ]
   go_simp
  simp only [lgA,lgZ,Act.put,lsA,lsZ,lsS]
  refine wpAnyG.tA 1 (v:=.pointer (some ⟨g,v * 13,none⟩)) (by decide) 2 (by kernel_rfl) (by rfl) ?y1 (HBY _ hc0) ?_
  case y1 =>
   rintro w' ⟨q0,q1⟩
   simp only [lgA,lgZ,lgS]
   go_simp
  simp only [lgA,lgZ,lgS,Act.put,lsA,lsZ,lsS]
  refine wpAnyG.tA 2 (v:=.pointer (some ⟨g,v * 13 + 8,none⟩)) (by decide) 5 (by kernel_rfl) (by rfl) ?y2 (HBY _ hc0) ?_
  case y2 =>
   rintro w' ⟨q0,q1⟩
   simp only [lgA,lgZ,lgS]
   go_simp
  simp only [lgA,lgZ,lgS,Act.put,lsA,lsZ,lsS]
  refine wpAnyG.tA 3 (v:=.pointer (some ⟨H,2,none⟩)) (by decide) 4 (by kernel_rfl) (by rfl) ?y3 (HBY _ hc0) ?_
  case y3 =>
   rintro w' ⟨q0,q1⟩
   simp only [lgA,lgZ,lgS]
   go_simp
  simp only [lgA,lgZ,lgS,Act.put,lsA,lsZ,lsS]
  refine wpAnyG.tA 4 (v:=.agg #[.bool (T k).p,.slice (T k).a (T k).na (T k).ca]) (by decide) 5 (by kernel_rfl) (by rfl) ?y4 (HBY _ hc0) ?_
  case y4 =>
   rintro w' ⟨q0,q1⟩
   simp only [lgA,lgZ,lgS]
   go_simp
  simp only [lgA,lgZ,lgS,Act.put,lsA,lsZ,lsS]
  refine wpAnyG.one 5 (by kernel_rfl) (by decide) (by rfl) (fun K hK=>?_)
  simp only [lgA,lgZ,lgS]
  go_simp
  refine (aO0 y0 (bK (uN hr3) hc0) (n3.tr hb3 |>.below hc0) s1 (by omega) (eG (nS hg3 (uN hr3) (by show 4≤4;decide)) hc0) (ti.below (hb3.trans (hc0.mono hb3.size))) (by omega) (by omega) (hT.below (hb3.trans (hc0.mono hb3.size)))).mono ?_
  rintro e Yf hBd
  rw [HE.out.2] at hBd
  obtain ⟨⟨rv,rfl⟩,_⟩:=id hBd
  have HF:Hid (PsF w0 F P T ZT x _ w Yf):=PsF.from (aQ8 W3 hs3 hF3 HVA.out hok hv hab (D:=Tk) (by omega) (by omega) hc0 hBd) hUY
  dsimp only
  have hnF:=zC hBd (Nb3.below hc0) ((hc0.block g (Array.getElem?_eq_some_iff.1 hg3).1).trans hg3) (by decide)
  refine hK _ _ ⟨hnF.cell 2,hnF.cell 3⟩ ?_
  clear hBd hnF
  clear hK K
  refine wpAnyG.done (by kernel_rfl) (NoPanic.normal ?_)
  try simp only [Act.put,List.setIfInBounds_toArray,List.set_cons_zero,List.set_cons_succ]
  go_wp2
  first | (go_end0;exact ⟨⟨_,rfl⟩,HF.out⟩) | exact bodyPost_ret (results_none rfl _ _ _) rfl ⟨⟨_,rfl⟩,HF.out⟩
 ·have HBY:∀ w',Below Y.heap.size Y w'→(w'.cell? ⟨H,2,none⟩ = some (.bool (T k).p)∧w'.cell? ⟨H,3,none⟩ = some (.slice (T k).a (T k).na (T k).ca)):=fun w' hw=>⟨(Nb3.below hw).cell 2,(Nb3.below hw).cell 3⟩
  go_wp2_with fail
  refine wp_region_noPanic (aY (fun _ w'=>w'.cell? ⟨H,2,none⟩ = some (.bool (T k).p)∧w'.cell? ⟨H,3,none⟩ = some (.slice (T k).a (T k).na (T k).ca)) (by kernel_rfl) ?_)
  have hc0:Below Y.heap.size Y Y.drew:=aK _
  generalize Y.drew = y0 at *
  refine wpAnyG.tA 0 (v:=.pointer (some ⟨g,v * 13,none⟩)) (by decide) 1 (by kernel_rfl) (by rfl) ?y0 (HBY _ hc0) ?_
  case y0 =>
   rintro w' ⟨q0,q1⟩
   simp only [lgA,lgZ]
   go_simp
  simp only [lgA,lgZ,Act.put,lsA,lsZ,lsS]
  refine wpAnyG.tA 1 (v:=.pointer (some ⟨g,v * 13,none⟩)) (by decide) 2 (by kernel_rfl) (by rfl) ?y1 (HBY _ hc0) ?_
  case y1 =>
   rintro w' ⟨q0,q1⟩
   simp only [lgA,lgZ,lgS]
   go_simp
  simp only [lgA,lgZ,lgS,Act.put,lsA,lsZ,lsS]
  refine wpAnyG.tA 2 (v:=.pointer (some ⟨g,v * 13 + 4,none⟩)) (by decide) 7 (by kernel_rfl) (by rfl) ?y2 (HBY _ hc0) ?_
  case y2 =>
   rintro w' ⟨q0,q1⟩
   simp only [lgA,lgZ,lgS]
   go_simp
  simp only [lgA,lgZ,lgS,Act.put,lsA,lsZ,lsS]
  refine wpAnyG.tA 3 (v:=.pointer (some ⟨H,2,none⟩)) (by decide) 4 (by kernel_rfl) (by rfl) ?y3 (HBY _ hc0) ?_
  case y3 =>
   rintro w' ⟨q0,q1⟩
   simp only [lgA,lgZ,lgS]
   go_simp
  simp only [lgA,lgZ,lgS,Act.put,lsA,lsZ,lsS]
  refine wpAnyG.tA 4 (v:=.agg #[.bool (T k).p,.slice (T k).a (T k).na (T k).ca]) (by decide) 6 (by kernel_rfl) (by rfl) ?y4 (HBY _ hc0) ?_
  case y4 =>
   rintro w' ⟨q0,q1⟩
   simp only [lgA,lgZ,lgS]
   go_simp
  simp only [lgA,lgZ,lgS,Act.put,lsA,lsZ,lsS]
  refine wpAnyG.one 5 (by kernel_rfl) (by decide) (by rfl) (fun K hK=>?_)
  simp only [lgA,lgZ,lgS]
  go_simp
  refine (ofT 1 y0 (by decide) (by decide)).mono ?_
  rintro e y1 ⟨f1,c1,m1,d1,rfl,G1,hk1⟩
  have hc1:Below Y.heap.size Y y1:=aB hc0 hk1
  dsimp only
  refine hK _ _ (HBY _ hc1) ?_
  clear hK K
  refine wpAnyG.one 6 (by kernel_rfl) (by decide) (by rfl) (fun K hK=>?_)
  simp only [lgA,lgZ,lgS]
  go_simp
  refine (addT y1 (ti.below (hb3.trans (hc1.mono hb3.size))) G1.ti (by omega) (by omega)).mono ?_
  rintro e y2 ⟨f2,c2,m2,d2,rfl,G2,hk2⟩
  have hc2:Below Y.heap.size Y y2:=aB hc1 hk2
  dsimp only
  refine hK _ _ (HBY _ hc2) ?_
  clear hK K
  refine wpAnyG.one 7 (by kernel_rfl) (by decide) (by rfl) (fun K hK=>?_)
  simp only [lgA,lgZ,lgS]
  go_simp
  refine (aN9 y2 (bK (uM hr3) hc2) (n2.tr hb3 |>.below hc2) s1 (by omega) (eG (nS hg3 (uM hr3) (by show 4≤4;decide)) hc2) G2.ti (by omega) (by omega) (hT.below (hb3.trans (hc2.mono hb3.size)))).mono ?_
  rintro e Yf hBd
  rw [HE.out.1] at hBd
  obtain ⟨⟨rv,rfl⟩,_⟩:=id hBd
  have HF:Hid (PsF w0 F P T ZT x _ w Yf):=PsF.from (aQ7 W3 hs3 hF3 HVA.out hok hv hab (D:=(Tk + 1 + 1)) (by omega) (by omega) hc2 hBd) hUY
  dsimp only
  have hnF:=zC hBd (Nb3.below hc2) ((hc2.block g (Array.getElem?_eq_some_iff.1 hg3).1).trans hg3) (by decide)
  refine hK _ _ ⟨hnF.cell 2,hnF.cell 3⟩ ?_
  clear hBd hnF
  clear hK K
  refine wpAnyG.done (by kernel_rfl) (NoPanic.normal ?_)
  try simp only [Act.put,List.setIfInBounds_toArray,List.set_cons_zero,List.set_cons_succ]
  go_wp2
  first | (go_end0;exact ⟨⟨_,rfl⟩,HF.out⟩) | exact bodyPost_ret (results_none rfl _ _ _) rfl ⟨⟨_,rfl⟩,HF.out⟩
end Go.Proofs.YtnokmjmefipplaaGreatDoor
