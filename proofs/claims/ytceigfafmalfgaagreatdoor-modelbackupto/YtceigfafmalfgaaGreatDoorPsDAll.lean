import Derived.Test.YtceigfafmalfgaaGreatDoorPsABll
import Derived.Test.YtceigfafmalfgaaGreatDoorQ3OAll
import Derived.Test.YtceigfafmalfgaaGreatDoorMbG
import Derived.Test.YtceigfafmalfgaaGreatDoorMbDAll
namespace Go.Proofs.YtceigfafmalfgaaGreatDoor
open Go.RowKit
theorem sp_gr {w:World} {B:Nat} {f:Bool} {c:Option Addr} {n k:Nat} {d:Option Addr} {nd kd:Nat} {r:Rat} {S:Nat} {B':Nat} {g:Bool} {c2:Option Addr} {n2 k2:Nat} {d2:Option Addr} {nd2 kd2:Nat} {s:Rat} {R:Nat} (ha:GR w B f c n k d nd kd r S) (hb:GR w B' g c2 n2 k2 d2 nd2 kd2 s R) (e:s=r) (hS:S≤100000000) :
  SP w (.agg #[.bool f,.slice c n k,.slice d nd kd]) (.agg #[.bool g,.slice c2 n2 k2,.slice d2 nd2 kd2]):=by
 subst e
 exact fun w1 h1=>refSameP w1 (ha.1.below h1) (ha.2.below h1) (hb.1.below h1) (hb.2.below h1) hS
theorem cp_gr {w:World} {B:Nat} {f:Bool} {c:Option Addr} {n k:Nat} {d:Option Addr} {nd kd:Nat} {r:Rat} {S:Nat} {B':Nat} {g:Bool} {c2:Option Addr} {n2 k2:Nat} {d2:Option Addr} {nd2 kd2:Nat} {s:Rat} {R:Nat} (ha:GR w B f c n k d nd kd r S) (hb:GR w B' g c2 n2 k2 d2 nd2 kd2 s R) (e:s=r) (hS:1≤S∧S≤1048576) (hR:1≤R∧R≤1048576) :
  CP w (.agg #[.bool f,.slice c n k,.slice d nd kd]) (.agg #[.bool g,.slice c2 n2 k2,.slice d2 nd2 kd2]):=by
 subst e
 exact fun w1 h1=>cmpD 0 w1 (ha.tr.below h1) (hb.tr.below h1) (by omega) hS.1 hR.1 (cs_same rfl)
theorem b4_gr {w:World} {B:Nat} {h f:Bool} {c:Option Addr} {n k:Nat} {d:Option Addr} {nd kd:Nat} {r:Rat} {S:Nat} {B':Nat} {h' g:Bool} {c2:Option Addr} {n2 k2:Nat} {d2:Option Addr} {nd2 kd2:Nat} {s:Rat} {R:Nat} {b o b' o':Nat} (ha:GR w B f c n k d nd kd r S) (hb:GR w B' g c2 n2 k2 d2 nd2 kd2 s R) (e:s=r) (eh:h'=h) (hS:1≤S∧S≤1048576) (hR:1≤R∧R≤1048576)
  (c0:w.cell? ⟨b,o,none⟩=some (.bool h)) (c1:w.cell? ⟨b,o+1,none⟩=some (.bool f)) (c3:w.cell? ⟨b,o+2,none⟩=some (.slice c n k)) (c4:w.cell? ⟨b,o+3,none⟩=some (.slice d nd kd)) (x0:w.cell? ⟨b',o',none⟩=some (.bool h')) (x1:w.cell? ⟨b',o'+1,none⟩=some (.bool g)) (x3:w.cell? ⟨b',o'+2,none⟩=some (.slice c2 n2 k2)) (x4:w.cell? ⟨b',o'+3,none⟩=some (.slice d2 nd2 kd2)):B4c w b o b' o':=by
 subst eh
 exact ⟨_,_,_,_,_,_,_,_,_,_,_,_,_,_,_,⟨c0,c1,c3,c4⟩,⟨x0,x1,x3,x4⟩,bp_of (sp_gr ha hb e (by omega)) (fun _=>cp_gr ha hb e hS hR)⟩
theorem r3_gr {w:World} {B:Nat} {f:Bool} {c:Option Addr} {n k:Nat} {d:Option Addr} {nd kd:Nat} {r:Rat} {S:Nat} {B':Nat} {g:Bool} {c2:Option Addr} {n2 k2:Nat} {d2:Option Addr} {nd2 kd2:Nat} {s:Rat} {R:Nat} {b o b' o':Nat} (ha:GR w B f c n k d nd kd r S) (hb:GR w B' g c2 n2 k2 d2 nd2 kd2 s R) (e:s=r) (hS:S≤1048576)
  (c1:w.cell? ⟨b,o,none⟩=some (.bool f)) (c3:w.cell? ⟨b,o+1,none⟩=some (.slice c n k)) (c4:w.cell? ⟨b,o+2,none⟩=some (.slice d nd kd)) (x1:w.cell? ⟨b',o',none⟩=some (.bool g)) (x3:w.cell? ⟨b',o'+1,none⟩=some (.slice c2 n2 k2)) (x4:w.cell? ⟨b',o'+2,none⟩=some (.slice d2 nd2 kd2)):R3c w b o b' o' :=
 ⟨_,_,_,_,_,_,_,_,_,_,_,_,_,_,⟨c1,c3,c4⟩,⟨x1,x3,x4⟩,sp_gr ha hb e (by omega)⟩
theorem VC.pair {w:World} {B:Nat} {cs:List Value} {v:PV} {Y:Nat} (h:VC w B cs v Y) {B':Nat} {cs':List Value} {v':PV} (h':VC w B' cs' v' Y) (en:v'.nm=v.nm) (eo:v'.obj=v.obj) (el:v'.hlo=v.hlo) (el2:bat v'.hlo v'.lo=bat v.hlo v.lo) (eh:v'.hhi=v.hhi) (eh2:bat v'.hhi v'.hi=bat v.hhi v.hi) (ew:v'.whole=v.whole) (hY:1≤Y∧Y≤1048576) {g o g' o':Nat} (hc:∀ j u,cs[j]? = some u→w.cell? ⟨g,o+j,none⟩=some u) (hc':∀ j u,cs'[j]? = some u→w.cell? ⟨g',o'+j,none⟩=some u):VarC w g o g' o':=by
 obtain ⟨p1,a1,n1,k1,d1,m1,l1,p2,a2,n2,k2,d2,m2,l2,p3,a3,n3,k3,d3,m3,l3,e,g1,g2,g3⟩:=h
 obtain ⟨P1,A1,N1,K1,D1,M1,L1,P2,A2,N2,K2,D2,M2,L2,P3,A3,N3,K3,D3,M3,L3,e',G1,G2,G3⟩:=h'
 subst e e'
 refine ⟨⟨v.nm,hc 0 _ rfl,by rw [← en];exact hc' 0 _ rfl⟩,r3_gr g1 G1 eo hY.2 (hc 1 _ rfl) (hc 2 _ rfl) (hc 3 _ rfl) (hc' 1 _ rfl) (hc' 2 _ rfl) (hc' 3 _ rfl),b4_gr g2 G2 el2 el hY hY (hc 4 _ rfl) (hc 5 _ rfl) (hc 6 _ rfl) (hc 7 _ rfl) (hc' 4 _ rfl) (hc' 5 _ rfl) (hc' 6 _ rfl) (hc' 7 _ rfl),b4_gr g3 G3 eh2 eh hY hY (hc 8 _ rfl) (hc 9 _ rfl) (hc 10 _ rfl) (hc 11 _ rfl) (hc' 8 _ rfl) (hc' 9 _ rfl) (hc' 10 _ rfl) (hc' 11 _ rfl),⟨v.whole,hc 12 _ rfl,by rw [← ew];exact hc' 12 _ rfl⟩⟩
theorem TL.pair {w:World} {B B':Nat} {a a':Option Addr} {m cap cap':Nat} {u u':Nat→PT} {Y Y':Nat→Nat} (h:TL w B (.slice a m cap) m u Y) (h':TL w B' (.slice a' m cap') m u' Y') (e:∀ i,i<m→(u i).var=(u' i).var∧(u i).coef=(u' i).coef) (hY:∀ i,i<m→Y i≤1048576):LTC w a a' m:=by
 obtain ⟨E,s1,s2⟩:=h
 obtain ⟨E',s1',s2'⟩:=h'
 rcases s1.cell with h|⟨g,e1,hc⟩
 ·exact .inl h
 rcases s1'.cell with h|⟨g',e1',hc'⟩
 ·exact .inl h
 refine .inr ⟨g,0,g',0,e1,e1',fun i hi=>?_⟩
 obtain ⟨p,a,na,ca,d,nd,cd,q,k⟩:=s2 i hi
 obtain ⟨p',a',na',ca',d',nd',cd',q',k'⟩:=s2' i hi
 have hk:=hc i hi
 have hk':=hc' i hi
 rw [q] at hk
 rw [q'] at hk'
 rw [Nat.zero_add]
 exact ⟨⟨(u i).var,hk 0 _ rfl,by rw [(e i hi).1];exact hk' 0 _ rfl⟩,r3_gr k k' (e i hi).2.symm (hY i hi) (hk 1 _ rfl) (hk 2 _ rfl) (hk 3 _ rfl) (hk' 1 _ rfl) (hk' 2 _ rfl) (hk' 3 _ rfl)⟩
theorem RC.pair {w:World} {B:Nat} {cs:List Value} {r:PW} {n Y:Nat} (h:RC w B cs r n Y) {B':Nat} {cs':List Value} {r':PW} (h':RC w B' cs' r' n Y) (en:r'.nm=r.nm) (eg:∀ x:Int,0≤x→x<(n:Int)→gsum r.t r.nt x=gsum r'.t r'.nt x) (el:r'.hlo=r.hlo) (el2:bat r'.hlo r'.lo=bat r.hlo r.lo) (eh:r'.hhi=r.hhi) (eh2:bat r'.hhi r'.hi=bat r.hhi r.hi) (hY:1≤Y∧Y≤1048576) {g o g' o':Nat} (hc:∀ j u,cs[j]? = some u→w.cell? ⟨g,o+j,none⟩=some u) (hc':∀ j u,cs'[j]? = some u→w.cell? ⟨g',o'+j,none⟩=some u):RowC w g o g' o':=by
 obtain ⟨v,m,u,Z,p2,a2,n2,k2,d2,m2,l2,p3,a3,n3,k3,d3,m3,l3,e,g1,z1,z2,t1,g2,g3⟩:=h
 obtain ⟨v',m',u',Z',P2,A2,N2,K2,D2,M2,L2,P3,A3,N3,K3,D3,M3,L3,e',G1,Z1,Z2,T1,G2,G3⟩:=h'
 obtain ⟨em,eu⟩:=g1.uniq G1 eg
 subst em e e'
 obtain ⟨ta,tc,rfl,_⟩:=t1.form
 obtain ⟨ta',tc',rfl,_⟩:=T1.form
 obtain ⟨q1,q2⟩:=g1.tot z1
 have hm:m≤1048576:=by have:=tot_len (fun i=>zs r.t Z (u i).var r.nt-1) m;omega
 refine ⟨⟨r.nm,hc 0 _ rfl,by rw [← en];exact hc' 0 _ rfl⟩,⟨ta,tc,ta',tc',m,hc 1 _ rfl,hc' 1 _ rfl,t1.pair T1 eu (fun i hi=>?_),hm⟩,b4_gr g2 G2 el2 el hY hY (hc 2 _ rfl) (hc 3 _ rfl) (hc 4 _ rfl) (hc 5 _ rfl) (hc' 2 _ rfl) (hc' 3 _ rfl) (hc' 4 _ rfl) (hc' 5 _ rfl),b4_gr g3 G3 eh2 eh hY hY (hc 6 _ rfl) (hc 7 _ rfl) (hc 8 _ rfl) (hc 9 _ rfl) (hc' 6 _ rfl) (hc' 7 _ rfl) (hc' 8 _ rfl) (hc' 9 _ rfl)⟩
 have:=tot_le (Z:=fun i=>zs r.t Z (u i).var r.nt-1) hi
 have h2:zs r.t Z (u i).var r.nt-1≤tot (fun i=>zs r.t Z (u i).var r.nt-1) m:=this
 show zs r.t Z (u i).var r.nt-1≤1048576
 omega
end Go.Proofs.YtceigfafmalfgaaGreatDoor
namespace Go.Proofs.YtceigfafmalfgaaGreatDoor
open Go.RowKit Go.Maps
theorem TOc.mt {w w0:World} {B B':Nat} {P Q R S:Prob} (h:TOc w B Q S) (h':TOc w B' P R) (hS:Tid Q S) (hR:Tid P R) (m:MtP P Q) (hP:PQ w0 P) (hK:P.K≤1048576):SamP w S R:=by
 have hall:=hP.all
 have hvn:P.vn≤1048576:=by have:=tot_len P.ZV P.vn;omega
 have hrn:P.rn≤1048576:=by have:=tot_len P.ZR P.rn;omega
 refine ⟨hR.mx.trans (m.mx.symm.trans hS.mx.symm),hR.nm.trans (m.nm.symm.trans hS.nm.symm),hR.vn.trans (m.vn.symm.trans hS.vn.symm),hR.rn.trans (m.rn.symm.trans hS.rn.symm),by rw [hS.vn,m.vn];exact hvn,by rw [hS.rn,m.rn];exact hrn,sp_gr h.k h'.k m.k.symm (by rw [m.S];omega),?_,?_⟩
 ·obtain ⟨E,s1,s2⟩:=h.v
  obtain ⟨E',s1',s2'⟩:=h'.v
  rw [m.vn] at s1 s2
  rw [hS.vn,m.vn]
  rcases s1.cell with h|⟨g,e1,hc⟩
  ·exact .inl h
  rcases s1'.cell with h|⟨g',e1',hc'⟩
  ·exact .inl h
  refine .inr ⟨g,0,g',0,e1,e1',fun i hi=>?_⟩
  have k:=s2 i hi
  rw [m.V,m.ZV] at k
  rw [Nat.zero_add]
  have hs:1≤P.ZV i:=by
   rcases hP.v with h|⟨b,o,_,h⟩
   ·omega
   ·exact (h i hi).s1
  exact k.pair (s2' i hi) rfl rfl rfl rfl rfl rfl rfl ⟨hs,by have:=tot_le (Z:=P.ZV) hi;omega⟩ (hc i hi) (hc' i hi)
 ·obtain ⟨E,s1,s2⟩:=h.r
  obtain ⟨E',s1',s2'⟩:=h'.r
  rw [m.rn] at s1 s2
  rw [hS.rn,m.rn]
  rcases s1.cell with h|⟨g,e1,hc⟩
  ·exact .inl h
  rcases s1'.cell with h|⟨g',e1',hc'⟩
  ·exact .inl h
  refine .inr ⟨g,0,g',0,e1,e1',fun i hi=>?_⟩
  have k:=s2 i hi
  rw [m.ZR,m.vn] at k
  rw [Nat.zero_add]
  have hs:1≤P.ZR i:=by
   rcases hP.r with h|⟨b,o,_,h⟩
   ·omega
   ·exact (h i hi).s1
  obtain ⟨e0,e2,e3,e4,e5,gg⟩:=m.R i hi
  exact k.pair (s2' i hi) e0.symm gg e2.symm (by rw [e2,e3]) e4.symm (by rw [e4,e5]) ⟨hs,by have:=tot_le (Z:=P.ZR) hi;omega⟩ (hc i hi) (hc' i hi)
theorem buildP (P:Prob) (ia:Option Addr) (ic:Nat) (ca:Option Addr) (cc:Nat) (la:Option Addr) (lc:Nat) (wa:Option Addr) (wc:Nat) (w:World) (hT:TX w (txP P ia ic ca cc la lc wa wc)) (hP:PQ w P) (hU:UL P) (hK:P.K≤1048576) (hTB:TB w) :
  Calls Tryz.prog 7 #[(txP P ia ic ca cc la lc wa wc).val] w fun e w'=>∃ Q v w1,e = .returned (.tuple #[v,.nilIface])∧MtP P Q∧PQ w1 Q∧TO w' w.heap.size Q v∧Below w.heap.size w w':=by
 have hall:=hP.all
 have hvn:P.vn≤1048576:=by have:=tot_len P.ZV P.vn;omega
 have hrn:P.rn≤1048576:=by have:=tot_len P.ZR P.rn;omega
 have hV:∀ j,j<P.vn→1≤P.ZV j∧SzR (P.V j).obj (P.ZV j):=fun j hj=>by
  rcases hP.v with h|⟨b,o,_,h⟩
  ·omega
  ·exact ⟨(h j hj).s1,(h j hj).sobj⟩
 have eI:∀ i,(itP P (i+1))=⟨(P.V i).obj,(P.V i).nm,0,0⟩:=fun i=>by unfold itP;rw [if_neg (by omega)];rfl
 have hemp:∀ s ∈ nsP P,s.data.toList≠[]:=fun s hs=>by
  obtain ⟨k,hk,ek⟩:=List.mem_map.1 hs
  rw [← ek]
  exact hU.v0 k (List.mem_range.1 hk)
 refine buildG P (txP P ia ic ca cc la lc wa wc) (nsP P) w hT hP hK hTB (show P.K+1≤1048577 by omega) ?_ (names_P hU ..) (nsP_len P) ⟨?_,?_,?_,?_,hP.s1,?_,?_⟩ ⟨?_,?_,?_,?_,?_,?_,?_⟩ (fun j hj=>vars_P P ia ic ca cc la lc wa wc hj) ⟨?_,?_⟩ rfl ⟨rfl,rfl⟩ (fun i hi=>⟨?_,Nat.le_refl _⟩) hvn
 ·intro j hj _ h
  have hj:j<P.rn:=hj
  rcases h with h|⟨q,hq,h1,_⟩
  ·exact hU.rn j hj h
  ·exact hU.rd q j hq hj h1
 ·show 1≤P.vn+1;omega
 ·intro i hi
  obtain rfl:i=0:=by omega
  rfl
 ·intro i h1 h2
  obtain ⟨j,rfl⟩:∃ j,i=j+1:=⟨i-1,by omega⟩
  have h2:j+1<P.vn+1:=h2
  show (itP P (j+1)).nm.data.toList≠[]
  rw [eI]
  exact hU.v0 j (by omega)
 ·intro i hi
  obtain rfl:i=0:=by omega
  exact ⟨hP.s1,by show P.S+P.S≤6000000;omega⟩
 ·intro k hk
  rcases (by omega:k=0∨k=1) with rfl|rfl
  ·exact sz_zero hP.s1
  ·show SzR (0+P.k) P.S;rw [Rat.zero_add];exact hP.sk
 ·show 0+P.k=P.k;rw [Rat.zero_add]
 ·rw [nsP_len];exact hvn
 ·intro i hi h
  obtain rfl:i=0:=by omega
  exact hemp _ h rfl
 ·intro i hi
  have hi:i+1<P.vn+1:=hi
  show (nsP P)[i]? = some (itP P (i+1)).nm
  rw [eI]
  exact nsP_at (by omega)
 ·intro k hk;exact nsP_at hk
 ·intro k hk;exact nsP_at (fxq_lt P.vn k hk).1
 ·intro j hj
  rw [nsP_len] at hj
  refine ⟨(hV j hj).1,?_⟩
  have e1:tU (txP P ia ic ca cc la lc wa wc) 1 (fun i=>i)=fun i=>⟨(i:Int),(P.V i).obj⟩:=by
   funext i
   show (⟨(i:Int),(itP P (i+1)).coef⟩:PT)=_
   rw [eI]
  rw [e1]
  show SzR (gsum _ (P.vn+1-1) _) _
  rw [Nat.add_sub_cancel,gsum_one (fun i=>(P.V i).obj),if_pos hj]
  exact (hV j hj).2
 ·intro k hk;exact Nat.le_refl _
 ·intro j hj i hi
  have h2:=fR_var (P:=P) (i:=j) (q:=i) hi
  exact ⟨nsP_at (by omega),hU.v0 _ (by omega)⟩
 ·intro j hj;exact hU.r0 j hj
 ·rfl
end Go.Proofs.YtceigfafmalfgaaGreatDoor
namespace Go.Proofs.YtceigfafmalfgaaGreatDoor
open Go.RowKit Go.Maps
def VU (P:Prob) (j:Nat):Prop:=∀ a,a<j→(P.V a).nm.data.toList≠[]∧∀ c,c<a→(P.V c).nm≠(P.V a).nm
def VK (P:Prob) (j k:Nat):Prop:=∀ c,c<k→(P.V c).nm≠(P.V j).nm
def WU (P:Prob) (j:Nat):Prop:=∀ a,a<j→(P.R a).nm.data.toList≠[]∧(P.R a).nm≠P.nm∧∀ c,c<a→(P.R c).nm≠(P.R a).nm
def WK (P:Prob) (j k:Nat):Prop:=∀ c,c<k→(P.R c).nm≠(P.R j).nm
theorem UL.of {P:Prob} (h:VU P P.vn) (k:WU P P.rn):UL P :=
 ⟨fun j hj=>(h j hj).1,fun j k hj hk=>(h k hk).2 j hj,fun i hi=>(k i hi).1,fun i hi=>(k i hi).2.1,fun i q hi hq=>(k q hq).2.2 i hi⟩
theorem ne_list {a b:ByteArray} (h:a≠b):¬ a.toList=b.toList:=fun e=>h (by
 rw [ByteArray.toList_eq,ByteArray.toList_eq] at e
 exact ByteArray.ext (Array.toList_inj.1 e))
def AnyU (P:Prob) (e:Ending) (w w':World):Prop:=∃ b,e = .returned (.bool b)∧(b=true→UL P)∧Below w.heap.size w w'
set_option maxRecDepth 100000 in
set_option maxHeartbeats 16000000 in
theorem unlikeQ (P:Prob) (w:World) (hP:PQ w P) (hK:P.K≤1048576) :
  Calls Tryz.prog 6 #[P.val] w fun e w'=>AnyU P e w w':=by
 have hvn:P.vn≤1048576:=by have:=hP.all;have:=tot_len P.ZV P.vn;omega
 have hrn:P.rn≤1048576:=by have:=hP.all;have:=tot_len P.ZR P.rn;omega
 have Pb:=box_new w #[.bool P.mx,.string P.nm,.bool P.p,.slice P.a P.na P.ca,.slice P.d P.nd P.cd,.slice P.va P.vn P.vc,.slice P.ra P.rn P.rc] 31
 have hb:=bel_d0 w (.cells #[.bool P.mx,.string P.nm,.bool P.p,.slice P.a P.na P.ca,.slice P.d P.nd P.cd,.slice P.va P.vn P.vc,.slice P.ra P.rn P.rc] 31)
 unfold Prob.val
 go_enter Tryz.func6,Tryz.ntmps6
 go_wp2
 generalize w.alloc (.cells #[.bool P.mx,.string P.nm,.bool P.p,.slice P.a P.na P.ca,.slice P.d P.nd P.cd,.slice P.va P.vn P.vc,.slice P.ra P.rn P.rc] 31)=W at *
 go_loopw [3] (fun s3 wr=>∃ j:Nat,j≤P.vn∧s3 = .int .i64 j∧VU P j∧Below W.heap.size W wr) (fun s3 _=>P.vn-(intOf s3).toNat)
 case atStart=>exact ⟨0,Nat.zero_le _,rfl,fun a ha=>by omega,Below.refl _ _⟩
 case round =>
  obtain ⟨j,hj,rfl,hV,hB⟩:=hrel
  have HV:Hid (VU P j):=hV
  clear hV
  have q5:=kept_c hB (Pb 5 _ rfl)
  by_cases hlt:j<P.vn
  ·have hkI:(j:Int)<(P.vn:Int):=by omega
   have hkI2:(j:Int)*13=((j*13:Nat):Int):=by omega
   rcases hP.v with h0|⟨vb,vo,eva,hel⟩
   ·omega
   have x0:=kept_c (bel_tr hb hB) (hel j hlt).nm
   have hall:∀ k,k<P.vn→w.cell? ⟨vb,vo+k*13,none⟩=some (.string (P.V k).nm):=fun k hk=>(hel k hk).nm
   have HA:Hid (∀ k,k<P.vn→w.cell? ⟨vb,vo+k*13,none⟩=some (.string (P.V k).nm)):=hall
   obtain ⟨nm,enm⟩:∃ nm,nm=(P.V j).nm:=⟨_,rfl⟩
   rw [← enm] at x0
   have EN:Hid (nm=(P.V j).nm):=enm
   clear hel hall enm
   rw [eva] at q5
   by_cases he:nm.data.toList=[]
   ·have he2:nm.toList=[]:=by rw [ByteArray.toList_eq];exact he
    have he3:nm.toList.isEmpty=true:=by simpa using he2
    have hBB:=bel_tr hb hB
    go_wp2
    go_ret
    exact ⟨false,rfl,(fun h=>by cases h),hBB⟩
   ·have he2:¬ nm.toList=[]:=by rw [ByteArray.toList_eq];exact he
    have he3:nm.toList.isEmpty=false:=by simpa using he2
    have HE:Hid (nm.data.toList≠[]):=he
    clear he
    go_wp2
    generalize hww:wr=w2 at *
    clear hww
    go_loopw [4] (fun s4 wr=>∃ k:Nat,k≤j∧s4 = .int .i64 k∧VK P j k∧Below w2.heap.size w2 wr) (fun s4 _=>j-(intOf s4).toNat)
    case atStart=>exact ⟨0,Nat.zero_le _,rfl,fun a ha=>by omega,Below.refl _ _⟩
    case round =>
     obtain ⟨k,hk,rfl,hV2,hB2⟩:=hrel
     have HV2:Hid (VK P j k):=hV2
     clear hV2
     by_cases hlt2:k<j
     ·have hkJ:(k:Int)<(j:Int):=by omega
      have hkJ2:(k:Int)*13=((k*13:Nat):Int):=by omega
      have y5:=kept_c hB2 q5
      have y0:=kept_c hB2 x0
      have z0:=kept_c (bel_tr (bel_tr hb hB) hB2) (HA.out k (by omega))
      have hkV:(k:Int)<(P.vn:Int):=by omega
      have hBE:=bel_tr (bel_tr hb hB) hB2
      by_cases hee:(P.V k).nm=nm
      ·rw [hee] at z0
       go_wp2_with fail
       go_quiet (fail)
       have hBB:=belN hBE nq
       go_wp2
       go_ret
       exact ⟨false,rfl,(fun h=>by cases h),hBB⟩
      ·obtain ⟨nk,enk⟩:∃ nk,nk=(P.V k).nm:=⟨_,rfl⟩
       rw [← enk] at z0 hee
       have hl:=ne_list hee
       have hl3:(nk.toList == nm.toList)=false:=by simpa using hl
       have PN:VK P j (k+1):=fun c hc=>by
        rcases (by omega:c<k∨c=k) with h|rfl
        ·exact HV2.out c h
        ·rw [← EN.out,← enk];exact hee
       clear enk
       go_wp2_with fail
       go_quiet (fail)
       have hB3:=belN hB2 nq
       go_wp2
       go_roundw
       case rel=>first|exact ⟨k+1,by omega,by go_num,PN,hB3⟩|((repeat apply Exists.intro);refine ⟨?_,rfl⟩;exact ⟨k+1,by omega,by go_num,PN,hB3⟩)
       case measure=>simp [intOf];omega
     ·have hkJ:¬ (k:Int)<(j:Int):=by omega
      obtain rfl:k=j:=by omega
      have hB3:=bel_tr hB hB2
      have PN:VU P (k+1):=fun a ha=>by
       rcases (by omega:a<k∨a=k) with h|rfl
       ·exact HV.out a h
       ·rw [← EN.out];exact ⟨HE.out,fun c hc=>by rw [EN.out];exact HV2.out c hc⟩
      go_wp2
      go_roundw
      case rel=>first|exact ⟨k+1,by omega,by go_num,PN,hB3⟩|((repeat apply Exists.intro);refine ⟨?_,rfl⟩;exact ⟨k+1,by omega,by go_num,PN,hB3⟩)
      case measure=>simp [intOf];omega
  ·have hkI:¬ (j:Int)<(P.vn:Int):=by omega
   obtain rfl:j=P.vn:=by omega
   go_wp2
   generalize hww:wr=w2 at *
   clear hww q5
   go_loopw [5] (fun s5 wr=>∃ i:Nat,i≤P.rn∧s5 = .int .i64 i∧WU P i∧Below w2.heap.size w2 wr) (fun s5 _=>P.rn-(intOf s5).toNat)
   case atStart=>exact ⟨0,Nat.zero_le _,rfl,fun a ha=>by omega,Below.refl _ _⟩
   case round =>
    obtain ⟨i,hi,rfl,hU,hB2⟩:=hrel
    have HU:Hid (WU P i):=hU
    clear hU
    have hB2':=bel_tr hB hB2
    have q6:=kept_c hB2' (Pb 6 _ rfl)
    have q1:=kept_c hB2' (Pb 1 _ rfl)
    by_cases hlt:i<P.rn
    ·have hkJ:(i:Int)<(P.rn:Int):=by omega
     have hkJ2:(i:Int)*10=((i*10:Nat):Int):=by omega
     rcases hP.r with h0|⟨rb,ro,era,hel⟩
     ·omega
     have x0:=kept_c (bel_tr hb hB2') (hel i hlt).nm
     have hall:∀ k,k<P.rn→w.cell? ⟨rb,ro+k*10,none⟩=some (.string (P.R k).nm):=fun k hk=>(hel k hk).nm
     have HA:Hid (∀ k,k<P.rn→w.cell? ⟨rb,ro+k*10,none⟩=some (.string (P.R k).nm)):=hall
     obtain ⟨nm,enm⟩:∃ nm,nm=(P.R i).nm:=⟨_,rfl⟩
     rw [← enm] at x0
     have EN:Hid (nm=(P.R i).nm):=enm
     clear hel hall enm
     rw [era] at q6
     have hBE:=bel_tr (bel_tr hb hB) hB2
     by_cases he:nm.data.toList=[]
     ·have he2:nm.toList=[]:=by rw [ByteArray.toList_eq];exact he
      have he3:nm.toList.isEmpty=true:=by simpa using he2
      go_wp2_with fail
      go_quiet (fail)
      have hBB:=belN hBE nq
      go_wp2
      go_ret
      exact ⟨false,rfl,(fun h=>by cases h),hBB⟩
     ·have he2:¬ nm.toList=[]:=by rw [ByteArray.toList_eq];exact he
      have he3:nm.toList.isEmpty=false:=by simpa using he2
      have HE:Hid (nm.data.toList≠[]):=he
      clear he
      by_cases hpn:nm=P.nm
      ·rw [← hpn] at q1
       clear hpn
       go_wp2_with fail
       go_quiet (fail)
       have hBB:=belN hBE nq
       go_wp2
       go_ret
       exact ⟨false,rfl,(fun h=>by cases h),hBB⟩
      ·have HPN:Hid (nm≠P.nm):=hpn
       have hp2:=ne_list hpn
       have hp3:(nm.toList == P.nm.toList)=false:=by simpa using hp2
       go_wp2_with fail
       go_quiet (fail)
       have hNq:Below wr.heap.size wr (wr.drewN nq):=belN (Below.refl _ wr) nq
       have x1:=kept_c hNq x0
       have q61:=kept_c hNq q6
       have hBd:=belN hB2 nq
       have hBB:=belN hBE nq
       clear x0 q6 q1 hp2 hp3 hpn hNq
       generalize wr.drewN nq=w3 at *
       go_wp2
       go_loopw [6] (fun s6 wr=>∃ k:Nat,k≤i∧s6 = .int .i64 k∧WK P i k∧Below w3.heap.size w3 wr) (fun s6 _=>i-(intOf s6).toNat)
       case atStart=>exact ⟨0,Nat.zero_le _,rfl,fun a ha=>by omega,Below.refl _ _⟩
       case round =>
        obtain ⟨k,hk,rfl,hV2,hB3⟩:=hrel
        have HV2:Hid (WK P i k):=hV2
        clear hV2
        by_cases hlt2:k<i
        ·have hkL:(k:Int)<(i:Int):=by omega
         have hkL2:(k:Int)*10=((k*10:Nat):Int):=by omega
         have y5:=kept_c hB3 q61
         have y0:=kept_c hB3 x1
         have z0:=kept_c (bel_tr hBB hB3) (HA.out k (by omega))
         have hkV:(k:Int)<(P.rn:Int):=by omega
         have hBF:=bel_tr hBB hB3
         by_cases hee:(P.R k).nm=nm
         ·rw [hee] at z0
          go_wp2_with fail
          go_quiet (fail)
          have hBG:=belN hBF nq
          go_wp2
          go_ret
          exact ⟨false,rfl,(fun h=>by cases h),hBG⟩
         ·obtain ⟨nk,enk⟩:∃ nk,nk=(P.R k).nm:=⟨_,rfl⟩
          rw [← enk] at z0 hee
          have hl:=ne_list hee
          have hl3:(nk.toList == nm.toList)=false:=by simpa using hl
          have PN:WK P i (k+1):=fun c hc=>by
           rcases (by omega:c<k∨c=k) with h|rfl
           ·exact HV2.out c h
           ·rw [← EN.out,← enk];exact hee
          clear enk
          go_wp2_with fail
          go_quiet (fail)
          have hB4:=belN hB3 nq
          go_wp2
          go_roundw
          case rel=>first|exact ⟨k+1,by omega,by go_num,PN,hB4⟩|((repeat apply Exists.intro);refine ⟨?_,rfl⟩;exact ⟨k+1,by omega,by go_num,PN,hB4⟩)
          case measure=>simp [intOf];omega
        ·have hkL:¬ (k:Int)<(i:Int):=by omega
         obtain rfl:k=i:=by omega
         have hB5:=bel_tr hBd hB3
         have PN:WU P (k+1):=fun a ha=>by
          rcases (by omega:a<k∨a=k) with h|rfl
          ·exact HU.out a h
          ·rw [← EN.out];exact ⟨HE.out,HPN.out,fun c hc=>by rw [EN.out];exact HV2.out c hc⟩
         go_wp2
         go_roundw
         case rel=>first|exact ⟨k+1,by omega,by go_num,PN,hB5⟩|((repeat apply Exists.intro);refine ⟨?_,rfl⟩;exact ⟨k+1,by omega,by go_num,PN,hB5⟩)
         case measure=>simp [intOf];omega
    ·have hkJ:¬ (i:Int)<(P.rn:Int):=by omega
     obtain rfl:i=P.rn:=by omega
     have hBB:=bel_tr hb hB2'
     go_wp2
     go_ret
     exact ⟨true,rfl,fun _=>UL.of HV.out HU.out,hBB⟩
end Go.Proofs.YtceigfafmalfgaaGreatDoor
