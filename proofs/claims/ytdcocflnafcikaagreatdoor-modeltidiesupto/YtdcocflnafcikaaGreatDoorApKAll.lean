import Derived.Test.YtdcocflnafcikaaGreatDoorPqBAll
import Derived.Test.YtdcocflnafcikaaGreatDoorApVAll
import Derived.Test.YtdcocflnafcikaaGreatDoorApAll
set_option maxRecDepth 100000
set_option maxHeartbeats 8000000
namespace Go.Proofs.YtdcocflnafcikaaGreatDoor
open Go.RowKit
theorem lD (w:World) {o:Oper} {a:Act} {K:Act→World→Prop} {Q:Exit→Act→World→Prop} (s x:Operand) (L T:TypeId) (c y q:Nat)
 (ho:o.op = .call { callee:=.builtin .append,args:=#[s,x],argTypes:=#[L,L] }) (hL:Tryz.prog.underlying L=some (.slice T)) (hI:Inf T c y) (hc0:0<c) (hy:y≤1000) (hq:0<q∧q≤10)
 (B:Nat) (v:Value) (n:Nat) (E:Nat→List Value) (hs:a.eval s=v) (hown:SL w B T c v n E) (h k:Nat) (hx:a.eval x = .slice (some ⟨h,0,none⟩) q k)
 (D:Nat→List Value) (cs:List Value) (hcs:cs.length=q*c) (hD:∀ i,i<q→∀ j u,(D i)[j]? = some u→j<c∧cs[i*c+j]? = some u) (h1:∀ u ∈ cs,u.oneCell'=true) (hbox:BoxC w h cs)
 (hlen:n≤1000000000) (hB:B≤w.heap.size) (H:Nat) (hH:w.heap.size=H)
 (hK:∀ g cap w',SL w' B T c (.slice (some ⟨g,0,none⟩) (n+q) cap) (n+q) (fun i=>if i<n then E i else D (i-n))→w.grownBy w' v.ownBlock→(v.ownBlock=some g∨g=H)→g<w'.heap.size→K (a.put o.dst (.slice (some ⟨g,0,none⟩) (n+q) cap)) w') :
 Oper.wp Tryz.prog o a w K Q:=by
 obtain ⟨vs,g1,g2⟩:=hown
 obtain ⟨i0,z,hi,hz,hs3,hb56,hz3⟩:=hI
 have hyn:(n+q)*y≤1000000010*1000:=Nat.mul_le_mul (by omega) hy
 refine wp_append_lies w s x L ho B T i0 z c y hL hi hz hs3 hb56 hz3 hc0 v n vs hs g1 ⟨h,0,none⟩ q k cs hx (by omega) ?_ h1 hq.1 (by unfold maxLen;omega) (by omega) hB H hH ?_
 ·intro j u hj
  have:=hbox j u hj
  by_cases e:j=0
  ·subst e;simpa [Addr.add] using this
  ·simpa [Addr.add,e] using this
 ·intro g cap w' r1 r2 r3 r4
  refine hK g cap w' ⟨_,r1,fun i hi j u hu=>?_⟩ r2 r3 r4
  have hl:vs.length=n*c:=g1.1
  by_cases e:i<n
  ·simp only [e,if_true] at hu
   obtain ⟨k1,k2⟩:=g2 i e j u hu
   have hlt:i*c+j<vs.length:=(List.getElem?_eq_some_iff.1 k2).1
   exact ⟨k1,by rw [List.getElem?_append_left hlt];exact k2⟩
  ·simp only [e,if_false] at hu
   obtain ⟨k1,k2⟩:=hD (i-n) (by omega) j u hu
   refine ⟨k1,?_⟩
   have e2:i*c=n*c+(i-n)*c:=by rw [← Nat.add_mul,Nat.add_sub_cancel' (Nat.le_of_not_lt e)]
   rw [e2,List.getElem?_append_right (by omega),hl,show n*c+(i-n)*c+j-n*c=(i-n)*c+j by omega]
   exact k2
theorem infNatT:Inf 23 1 24:=iG (by kernel_rfl)
theorem limbsD {va:Option Addr} {n vc B:Nat} {F:Nat→Bool} {V:Nat→Value} (w:World) (hL:SL w B 27 3 (.slice va n vc) n (fun i=>[.bool (F i),V (i+i),V (i+i+1)])) (hV:∀ k,k<n+n→∃ a m c,V k = .slice a m c) (hn:n≤400000000) :
 Calls Tryz.prog 50 #[.slice va n vc] w fun e w'=>∃ ua uc,e = .returned (.slice ua (n+n) uc)∧SL w' w.heap.size 23 1 (.slice ua (n+n) uc) (n+n) (fun k=>[V k])∧Below w.heap.size w w':=by
 go_enter Tryz.func50,Tryz.ntmps50
 go_wp2
 go_loopw [3,4] (fun so si wr=>∃ (i:Nat) (ua:Option Addr) (uc:Nat),i≤n∧si = .int .i64 i∧so = .slice ua (i+i) uc∧SL wr w.heap.size 23 1 (.slice ua (i+i) uc) (i+i) (fun k=>[V k])∧Below w.heap.size w wr) (fun _ x _=>n-(intOf x).toNat)
 case atStart=>exact ⟨0,none,0,Nat.zero_le _,rfl,rfl,SL.nil _ _ _ _ _,Below.refl _ _⟩
 case round =>
  obtain ⟨i,ua,uc,hi,rfl,rfl,hSL,hbel⟩:=hrel
  by_cases hlt:i<n
  ·have hiI:(i:Int)<(n:Int):=by omega
   have hi0:¬ (i:Int)<0:=by omega
   have hi3:(i:Int)*3=((i*3:Nat):Int):=by omega
   rcases hL.cell with h0|⟨g,rfl,hc⟩
   ·omega
   have hgw:g<w.heap.size:=(hL.lt g rfl).2
   obtain ⟨a1,n1,k1,e1⟩:=hV (i+i) (by omega)
   obtain ⟨a2,n2,k2,e2⟩:=hV (i+i+1) (by omega)
   have HE:Hid (V (i+i) = .slice a1 n1 k1∧V (i+i+1) = .slice a2 n2 k2):=⟨e1,e2⟩
   have c1:=aB hbel ((hc i hlt 1 _ rfl).trans (congrArg some e1))
   have c2:=aB hbel ((hc i hlt 2 _ rfl).trans (congrArg some e2))
   have HB5:∀ w',Below wr.heap.size wr w'→(w'.cell? ⟨g,i*3+1,none⟩=some (.slice a1 n1 k1)∧w'.cell? ⟨g,i*3+2,none⟩=some (.slice a2 n2 k2)):=fun w' h=>⟨aB h c1,aB h c2⟩
   clear hc c1 c2 e1 e2
   go_wp2_with fail
   refine wp_region_noPanic (aU 14 HB5 (by kernel_rfl) ?_)
   have hc0:Below wr.heap.size wr wr.drew:=aS _
   generalize wr.drew=z0 at *
   refine wpAnyG.tT 0 (v:=.slice ua (i+i) uc) (by decide) 14 (by kernel_rfl) (by rfl) ?y0 (HB5 _ hc0) ?_
   case y0 =>
    rintro w' ⟨q0,q1⟩
    simp only [lgA,lgZ]
    go_simp
   simp only [lgA,lgZ,Act.put,lsA,lsZ,lsS]
   refine wpAnyG.tT 1 (v:=.slice (some ⟨g,0,none⟩) n vc) (by decide) 14 (by kernel_rfl) (by rfl) ?y1 (HB5 _ hc0) ?_
   case y1 =>
    rintro w' ⟨q0,q1⟩
    simp only [lgA,lgZ,lgS]
    go_simp
   simp only [lgA,lgZ,lgS,Act.put,lsA,lsZ,lsS]
   refine wpAnyG.tT 2 (v:=.int .i64 (i:Int)) (by decide) 14 (by kernel_rfl) (by rfl) ?y2 (HB5 _ hc0) ?_
   case y2 =>
    rintro w' ⟨q0,q1⟩
    simp only [lgA,lgZ,lgS]
    go_simp
   simp only [lgA,lgZ,lgS,Act.put,lsA,lsZ,lsS]
   refine wpAnyG.tT 3 (v:=.pointer (some ⟨g,i*3,none⟩)) (by decide) 14 (by kernel_rfl) (by rfl) ?y3 (HB5 _ hc0) ?_
   case y3 =>
    rintro w' ⟨q0,q1⟩
    simp only [lgA,lgZ,lgS]
    go_simp
   simp only [lgA,lgZ,lgS,Act.put,lsA,lsZ,lsS]
   refine wpAnyG.tT 4 (v:=.pointer (some ⟨g,i*3,none⟩)) (by decide) 14 (by kernel_rfl) (by rfl) ?y4 (HB5 _ hc0) ?_
   case y4 =>
    rintro w' ⟨q0,q1⟩
    simp only [lgA,lgZ,lgS]
    go_simp
   simp only [lgA,lgZ,lgS,Act.put,lsA,lsZ,lsS]
   refine wpAnyG.tT 5 (v:=.pointer (some ⟨g,i*3+1,none⟩)) (by decide) 14 (by kernel_rfl) (by rfl) ?y5 (HB5 _ hc0) ?_
   case y5 =>
    rintro w' ⟨q0,q1⟩
    simp only [lgA,lgZ,lgS]
    go_simp
   simp only [lgA,lgZ,lgS,Act.put,lsA,lsZ,lsS]
   refine wpAnyG.tT 6 (v:=.slice a1 n1 k1) (by decide) 14 (by kernel_rfl) (by rfl) ?y6 (HB5 _ hc0) ?_
   case y6 =>
    rintro w' ⟨q0,q1⟩
    simp only [lgA,lgZ,lgS]
    go_simp
   simp only [lgA,lgZ,lgS,Act.put,lsA,lsZ,lsS]
   refine wpAnyG.tT 7 (v:=.slice (some ⟨g,0,none⟩) n vc) (by decide) 14 (by kernel_rfl) (by rfl) ?y7 (HB5 _ hc0) ?_
   case y7 =>
    rintro w' ⟨q0,q1⟩
    simp only [lgA,lgZ,lgS]
    go_simp
   simp only [lgA,lgZ,lgS,Act.put,lsA,lsZ,lsS]
   refine wpAnyG.tT 8 (v:=.int .i64 (i:Int)) (by decide) 14 (by kernel_rfl) (by rfl) ?y8 (HB5 _ hc0) ?_
   case y8 =>
    rintro w' ⟨q0,q1⟩
    simp only [lgA,lgZ,lgS]
    go_simp
   simp only [lgA,lgZ,lgS,Act.put,lsA,lsZ,lsS]
   refine wpAnyG.tT 9 (v:=.pointer (some ⟨g,i*3,none⟩)) (by decide) 14 (by kernel_rfl) (by rfl) ?y9 (HB5 _ hc0) ?_
   case y9 =>
    rintro w' ⟨q0,q1⟩
    simp only [lgA,lgZ,lgS]
    go_simp
   simp only [lgA,lgZ,lgS,Act.put,lsA,lsZ,lsS]
   refine wpAnyG.tT 10 (v:=.pointer (some ⟨g,i*3+2,none⟩)) (by decide) 14 (by kernel_rfl) (by rfl) ?y10 (HB5 _ hc0) ?_
   case y10 =>
    rintro w' ⟨q0,q1⟩
    simp only [lgA,lgZ,lgS]
    go_simp
   simp only [lgA,lgZ,lgS,Act.put,lsA,lsZ,lsS]
   refine wpAnyG.tT 11 (v:=.slice a2 n2 k2) (by decide) 14 (by kernel_rfl) (by rfl) ?y11 (HB5 _ hc0) ?_
   case y11 =>
    rintro w' ⟨q0,q1⟩
    simp only [lgA,lgZ,lgS]
    go_simp
   simp only [lgA,lgZ,lgS,Act.put,lsA,lsZ,lsS]
   refine wpAnyG.one 12 (by kernel_rfl) (by decide) (by rfl) (fun K hK=>?_)
   simp only [lgA,lgZ,lgS]
   go_simp
   have hy:=aF hc0 (aG z0 (.cells #[.slice a1 n1 k1,.slice a2 n2 k2] 23))
   have BX:=aN z0 #[.slice a1 n1 k1,.slice a2 n2 k2] 23
   have hs4:(z0.alloc (.cells #[.slice a1 n1 k1,.slice a2 n2 k2] 23)).heap.size=z0.heap.size+1:=by simp
   generalize z0.alloc (.cells #[.slice a1 n1 k1,.slice a2 n2 k2] 23)=z5 at *
   refine hK _ _ ⟨fun _=>HB5 _ hy,fun _=>trivial⟩ ?_
   clear hK K
   refine wpAnyG.one 13 (by kernel_rfl) (by decide) (by rfl) (fun K hK=>?_)
   simp only [lgA,lgZ,lgS]
   have SLZ:=hSL.below hy
   have hsy:=hy.size
   have hbs:=hbel.size
   refine lD z5 _ _ 101 23 1 24 2 rfl Tryz.underlying101 infNatT (by decide) (by decide) (by decide) w.heap.size (.slice ua (i+i) uc) (i+i) (fun k=>[V k]) rfl SLZ z0.heap.size _ rfl (fun j=>if j=0 then [.slice a1 n1 k1] else [.slice a2 n2 k2]) [.slice a1 n1 k1,.slice a2 n2 k2] rfl (fun q hq j u hu=>?_) (fun u hu=>by simp only [List.mem_cons,List.not_mem_nil,or_false] at hu;rcases hu with rfl|rfl <;> rfl) BX (by omega) (by omega) _ rfl ?_
   ·rcases (by omega:q=0∨q=1) with rfl|rfl
    ·have hj:j=0:=by have:=(List.getElem?_eq_some_iff.1 hu).1;simp at this;exact this
     subst hj
     exact ⟨by decide,hu⟩
    ·have hj:j=0:=by have:=(List.getElem?_eq_some_iff.1 hu).1;simp at this;exact this
     subst hj
     exact ⟨by decide,hu⟩
   intro g6 cap6 w6 SN hg hat hgl
   have hnb:∀ k,k<w.heap.size→Value.ownBlock (.slice ua (i+i) uc)≠some k:=fun k hk e=>by have:=(hSL.lt k e).1;omega
   have hw6:=hbel.trans ((hy.mono hbel.size).trans (grown_below hg (by have:=hbel.size;omega) (fun k e=>(SLZ.lt k e).1)))
   have hF6:w6.cell? ⟨g,i*3+1,none⟩=some (.slice a1 n1 k1)∧w6.cell? ⟨g,i*3+2,none⟩=some (.slice a2 n2 k2):=⟨aJ hg (HB5 _ hy).1 (hnb _ hgw),aJ hg (HB5 _ hy).2 (hnb _ hgw)⟩
   refine hK _ _ ⟨fun _=>hF6,fun _=>trivial⟩ ?_
   clear hK K
   refine wpAnyG.one 14 (by kernel_rfl) (by decide) (by rfl) (fun K hK=>?_)
   simp only [lgA,lgZ,lgS]
   go_simp
   refine hK _ _ ⟨fun h=>absurd h (by decide),fun _=>trivial⟩ ?_
   clear hK K
   refine wpAnyG.done (by kernel_rfl) (NoPanic.normal ?_)
   have SN2:SL w6 w.heap.size 23 1 (.slice (some ⟨g6,0,none⟩) (i+1+(i+1)) cap6) (i+1+(i+1)) (fun k=>[V k]):=by
    have e:i+1+(i+1)=i+i+2:=by omega
    rw [e]
    refine SN.congr fun k hk=>?_
    by_cases h:k<i+i
    ·rw [if_pos h]
    ·rw [if_neg h]
     rcases (by omega:k=i+i∨k=i+i+1) with rfl|rfl
     ·rw [if_pos (by omega),HE.out.1]
     ·rw [if_neg (by omega),HE.out.2]
   have e2:(Value.slice (some ⟨g6,0,none⟩) (i+i+2) cap6) = .slice (some ⟨g6,0,none⟩) (i+1+(i+1)) cap6:=by congr 1;omega
   clear HB5 SN hat hgl hg hF6 SLZ hSL hbel hy hc0 BX hsy hs4 hnb
   go_wp2
   go_roundw
   case rel=>first|exact ⟨i+1,some ⟨g6,0,none⟩,cap6,by omega,by first|rfl|go_num,by first|exact e2|rfl,SN2,hw6⟩|((repeat apply Exists.intro);refine ⟨?_,rfl⟩;exact ⟨i+1,some ⟨g6,0,none⟩,cap6,by omega,by first|rfl|go_num,by first|exact e2|rfl,SN2,hw6⟩)
   case measure=>simp [intOf];omega
  ·have hiI:¬ (i:Int)<(n:Int):=by omega
   obtain rfl:i=n:=by omega
   go_wp2
   go_ret
   exact ⟨ua,uc,rfl,hSL,hbel⟩
theorem apart_nil (c:Nat) (va:Option Addr) (w:World):Calls Tryz.prog 51 #[.slice va 0 c] w fun e w'=>e = .returned (.bool true)∧Below w.heap.size w w':=by
 go_enter Tryz.func51,Tryz.ntmps51
 go_wp2
 refine wp_loop_once ?_
 go_wp2
 refine wp_loop_once ?_
 go_wp2
 refine wp_loop_once ?_
 go_wp2
 go_ret
 exact ⟨rfl,Below.refl _ _⟩
theorem apartD {va:Option Addr} {n vc B:Nat} {F:Nat→Bool} {V:Nat→Value} {X:Nat→List Int} (w:World) (hB:B≤w.heap.size) (hL:SL w B 27 3 (.slice va n vc) n (fun i=>[.bool (F i),V (i+i),V (i+i+1)])) (hO:∀ k,k<n+n→OwnV w B (V k) (X k)) (hX:∀ k,k<n+n→(X k).length≤1000000000)
 (dis:∀ i j,i<n+n→j<n+n→i≠j→∀ g,(V i).ownBlock=some g→(V j).ownBlock≠some g) (hn:n≤100000000) :
 Calls Tryz.prog 23 #[.slice va n vc] w fun e w'=>e = .returned (.bool true)∧Below B w w'∧KN w w':=by
 have hLm:=limbsD w hL (fun k hk=>by obtain ⟨a,cap,e⟩:=(hO k hk).slice;exact ⟨a,_,cap,e⟩) (by omega)
 go_enter Tryz.func23,Tryz.ntmps23
 go_wp2_with fail
 refine hLm.mono ?_
 clear hLm
 rintro e w1 ⟨ua,uc,rfl,hS,hb⟩
 obtain ⟨m,em⟩:∃ m,m=n+n:=⟨_,rfl⟩
 have HM:Hid (m=n+n):=em
 rw [← em] at hS hO hX dis ⊢
 have hm:m≤200000000:=by omega
 clear em
 have hO1:∀ k,k<m→OwnV w1 B (V k) (X k):=fun k hk=>(hO k hk).below hb
 obtain ⟨vs,hr,hcov⟩:=hS
 have hbB:=hb.mono hB
 have hkn:=KN.of_below hb
 rcases hr.2 with ⟨e1,e2⟩|⟨g,cap,cur,e1,hg,hgb,hcap,hmx,hcs,htk⟩
 ·subst e2
  have hA:=apart_nil uc ua w1
  clear hr hcov hO1 hO hX dis hL e1
  go_wp2_with fail
  refine hA.mono ?_
  rintro e w2 ⟨rfl,h2⟩
  have hf:=And.intro (hbB.trans (h2.mono (Nat.le_trans hB hb.size))) (hkn.trans (KN.of_below h2))
  clear hA h2
  go_wp2
  go_ret
  exact ⟨rfl,hf⟩
 ·simp only [Value.slice.injEq,true_and] at e1
  obtain ⟨rfl,rfl⟩:=e1
  have hT:TRow w1 g m V:=⟨cur,hgb,fun i hi=>by
   have h:=(hcov i hi 0 _ rfl).2
   rw [← htk] at h
   simp only [Nat.mul_one,Nat.add_zero] at h
   rw [List.getElem?_take,if_pos hi] at h
   simpa using h⟩
  have hA:=yS g uc m B V X w1 hT hO1 dis hm hX (Nat.le_trans hB hb.size)
  clear hr hcov hO1 hO hX dis hL hT htk hcs
  go_wp2_with fail
  refine hA.mono ?_
  rintro e w2 ⟨rfl,h2⟩
  have hf:=And.intro (hbB.trans h2.1) (hkn.trans h2.2)
  clear hA h2
  go_wp2
  go_ret
  exact ⟨rfl,hf⟩
def NmX (W:World) (lo hi:Nat) (l:List Value):Prop:=∃ (f:Bool) (u v:Value) (xs ys:List Int),l=[.bool f,u,v]∧OwnV W lo u xs∧OwnV W lo v ys∧xs.length≤1000000000∧ys.length≤1000000000∧(∀ g,u.ownBlock=some g∨v.ownBlock=some g→lo≤g∧g<hi)∧NB u v
theorem NmX.mono {W:World} {lo hi:Nat} {l:List Value} (h:NmX W lo hi l):∀ {B:Nat},B≤lo→∃ (f:Bool) (u v:Value) (xs ys:List Int),l=[.bool f,u,v]∧OwnV W B u xs∧OwnV W B v ys∧xs.length≤1000000000∧ys.length≤1000000000∧(∀ g,u.ownBlock=some g∨v.ownBlock=some g→lo≤g∧g<hi)∧NB u v:=by
 intro B hB
 obtain ⟨f,u,v,xs,ys,e,h1,h2,h3,h4,h5,h6⟩:=h
 exact ⟨f,u,v,xs,ys,e,h1.mono hB,h2.mono hB,h3,h4,h5,h6⟩
theorem NmX.below {W W':World} {lo hi:Nat} {l:List Value} (h:NmX W lo hi l) (hb:Below W.heap.size W W'):NmX W' lo hi l:=by
 obtain ⟨f,u,v,xs,ys,e,h1,h2,h3,h4,h5,h6⟩:=h
 exact ⟨f,u,v,xs,ys,e,h1.below hb,h2.below hb,h3,h4,h5,h6⟩
theorem apartE {va:Option Addr} {n vc B C:Nat} {E:Nat→List Value} {lo hi:Nat→Nat} (w:World) (hB:B≤C) (hC:C≤w.heap.size) (hL:SL w C 27 3 (.slice va n vc) n E) (hE:∀ i,i<n→B≤lo i∧NmX w (lo i) (hi i) (E i)) (ho:∀ i j,i<j→j<n→hi i≤lo j∨hi j≤lo i) (hn:n≤100000000) :
 Calls Tryz.prog 23 #[.slice va n vc] w fun e w'=>e = .returned (.bool true)∧Below B w w'∧KN w w':=by
 have hsk:∀ i,∃ q:(Bool × Value × Value × List Int × List Int),i<n→E i=[.bool q.1,q.2.1,q.2.2.1]∧OwnV w B q.2.1 q.2.2.2.1∧OwnV w B q.2.2.1 q.2.2.2.2∧q.2.2.2.1.length≤1000000000∧q.2.2.2.2.length≤1000000000∧(∀ g,q.2.1.ownBlock=some g∨q.2.2.1.ownBlock=some g→lo i≤g∧g<hi i)∧NB q.2.1 q.2.2.1:=fun i=>by
  by_cases h:i<n
  ·obtain ⟨f,u,v,xs,ys,e,h1,h2,h3,h4,h5,h6⟩:=(hE i h).2.mono (hE i h).1
   exact ⟨(f,u,v,xs,ys),fun _=>⟨e,h1,h2,h3,h4,h5,h6⟩⟩
  ·exact ⟨(false,.bool false,.bool false,[],[]),fun e=>absurd e h⟩
 obtain ⟨q,hq⟩:=Classical.skolem.1 hsk
 have ev:∀ i,(i+i)/2=i∧(i+i+1)/2=i∧(i+i)%2=0∧(i+i+1)%2=1:=fun i=>by omega
 refine (apartD (B:=B) (F:=fun i=>(q i).1) (V:=fun k=>if k%2=0 then (q (k/2)).2.1 else (q (k/2)).2.2.1) (X:=fun k=>if k%2=0 then (q (k/2)).2.2.2.1 else (q (k/2)).2.2.2.2) w (by omega) ?_ (fun k hk=>?_) (fun k hk=>?_) (fun i j gi gj hij g e1 e2=>?_) hn)
 ·refine (hL.mono hB).congr fun i hi=>?_
  obtain ⟨a1,a2,a3,a4⟩:=ev i
  simp only [a1,a2,a3,a4]
  rw [if_pos trivial,if_neg (by decide)]
  exact (hq i hi).1
 ·have h:=hq (k/2) (by omega)
  by_cases hp:k%2=0
  ·simp only [if_pos hp];exact h.2.1
  ·simp only [if_neg hp];exact h.2.2.1
 ·have h:=hq (k/2) (by omega)
  by_cases hp:k%2=0
  ·simp only [if_pos hp];exact h.2.2.2.1
  ·simp only [if_neg hp];exact h.2.2.2.2.1
 ·have h1:=hq (i/2) (by omega)
  have h2:=hq (j/2) (by omega)
  have b1:lo (i/2)≤g∧g<hi (i/2):=h1.2.2.2.2.2.1 g (by
   by_cases hp:i%2=0
   ·simp only [if_pos hp] at e1;exact .inl e1
   ·simp only [if_neg hp] at e1;exact .inr e1)
  have b2:lo (j/2)≤g∧g<hi (j/2):=h2.2.2.2.2.2.1 g (by
   by_cases hp:j%2=0
   ·simp only [if_pos hp] at e2;exact .inl e2
   ·simp only [if_neg hp] at e2;exact .inr e2)
  rcases Nat.lt_trichotomy (i/2) (j/2) with h|h|h
  ·rcases ho _ _ h (by omega) with h|h <;> omega
  ·have hne:=h1.2.2.2.2.2.2
   rw [← h] at e2
   by_cases hp:i%2=0
   ·have hp2:¬ j%2=0:=by omega
    simp only [if_pos hp] at e1
    simp only [if_neg hp2] at e2
    exact hne g e1 e2
   ·have hp2:j%2=0:=by omega
    simp only [if_neg hp] at e1
    simp only [if_pos hp2] at e2
    exact hne g e2 e1
  ·rcases ho _ _ h (by omega) with h|h <;> omega
end Go.Proofs.YtdcocflnafcikaaGreatDoor
