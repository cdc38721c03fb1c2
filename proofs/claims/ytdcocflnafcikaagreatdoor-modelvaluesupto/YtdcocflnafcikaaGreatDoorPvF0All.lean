import Derived.Test.YtdcocflnafcikaaGreatDoorWdAAll
import Derived.Test.YtdcocflnafcikaaGreatDoorPuE
import Derived.Test.YtdcocflnafcikaaGreatDoorPqKAll
import Derived.Test.YtdcocflnafcikaaGreatDoorPqEAll
import Derived.Test.YtdcocflnafcikaaGreatDoorQ3OAll
import Derived.Test.YtdcocflnafcikaaGreatDoorPqCAll
import Derived.Test.YtdcocflnafcikaaGreatDoorLentAll
import Derived.Test.YtdcocflnafcikaaGreatDoorRefAll
import Derived.Test.YtdcocflnafcikaaGreatDoorRwAAll
import Derived.Test.YtdcocflnafcikaaGreatDoorTxAll
namespace Go.Proofs.YtdcocflnafcikaaGreatDoor
open Go.RowKit
theorem Wd.ov {d:Nat} {D:Int} {r:Rat} (h:Wd d D r):Ov D (pw d) r:=by
 obtain ⟨h1,_,m,h3,h4⟩:=h
 refine ⟨m,h3,?_⟩
 have h5:pw d*1≤pw d*D:=Int.mul_le_mul_of_nonneg_left (by omega) (Int.le_of_lt (pw_pos d))
 omega
theorem pw_up (K:Nat):pw K<pw (K+1):=by have:=pw_succ K;have:=pw_pos K;omega
theorem Wd.xn {X:Nat→Rat} {n d:Nat} {D:Int} (hD:0<D) (hd:D<pw d) (h:∀ j,j<n→Wd d D (X j)) (j:Nat):Wd d D (xn X n j):=by
 unfold Go.Proofs.YtdcocflnafcikaaGreatDoor.xn
 split
 ·exact h j (by assumption)
 ·exact Wd.zero hD hd
theorem PQ.row_sz3 {w:World} {P:Prob} (hP:PQ w P) {n Kx:Nat} {X:Nat→Rat} {Dx:Int} (dx1:0<Dx) (dx2:Dx<pw Kx) (dx3:∀ j,j<n→Wd Kx Dx (X j)) (hK:P.K≤1048576):∀ i k,i<P.rn→k≤(P.R i).nt→SzR (rsum (tv (P.R i) (xn X n) P.vn) k) (P.K+Kx+1):=by
 intro i k hi hk
 obtain ⟨b,o,hR⟩:=hP.row hi
 obtain ⟨a,cap,Z,_,h2,h3,_⟩:=hR.terms
 obtain ⟨D,d1,d2,d3⟩:=Wd.list (X:=fun k=>((P.R i).t k).coef) h2.sz h3
 have hZi:=tot_le (Z:=P.ZR) hi
 have hall:=hP.all
 have hl:=tot_len Z (P.R i).nt
 have q:=mul_pw (Int.le_of_lt d1) d2 (Int.le_of_lt dx1) dx2
 have h4:=Wd.sum (Y:=tv (P.R i) (xn X n) P.vn) (n:=(P.R i).nt) (Int.mul_pos d1 dx1) q.1 (fun j hj=>by
  unfold tv
  split
  ·exact (d3 j hj).mul (Wd.xn dx1 dx2 dx3 _)
  ·exact Wd.zero (Int.mul_pos d1 dx1) q.1) (by omega) k hk
 exact (h4.up (show _≤P.K+Kx+1 by omega)).sz (by omega)
theorem PQ.val_sz3 {w:World} {P:Prob} (hP:PQ w P) {n Kx:Nat} {X:Nat→Rat} {Dx:Int} (dx1:0<Dx) (dx2:Dx<pw Kx) (dx3:∀ j,j<n→Wd Kx Dx (X j)) (hK:P.K≤1048576):∀ k,k≤P.vn+1→SzR (rsum (prt P.k P.V (xn X n)) k) (P.K+Kx+1):=by
 intro k hk
 have hall:=hP.all
 have hl:=tot_len P.ZV P.vn
 obtain ⟨Do,o1,o2,o3⟩:=Wd.list (X:=fun j=>(P.V j).obj) (Z:=P.ZV) (n:=P.vn) (K:=tot P.ZV P.vn) (fun j hj=>by
  obtain ⟨b,o,hV⟩:=hP.var hj
  exact hV.sobj) (Nat.le_refl _)
 have hs:=Wd.self hP.sk
 have k1:=hs.1
 have k2:=hs.2.1
 generalize (P.k.den:Int)=Dk at *
 have q:=mul_pw (Int.le_of_lt o1) o2 (Int.le_of_lt dx1) dx2
 have q0:0<Do*Dx:=Int.mul_pos o1 dx1
 have q2:=mul_pw (Int.le_of_lt k1) k2 q.2 q.1
 have h4:=Wd.sum (Y:=prt P.k P.V (xn X n)) (n:=P.vn+1) (D:=Dk*(Do*Dx)) (Int.mul_pos k1 q0) q2.1 (fun j hj=>by
  cases j with
  | zero=>exact (hs.lift q0 q.1)
  | succ j=>exact ((o3 j (by omega)).mul (Wd.xn dx1 dx2 dx3 _)).lift' k1 k2) (by omega) k hk
 exact (h4.up (show _≤P.K+Kx+1 by omega)).sz (by omega)
theorem valD2 (P:Prob) {xa:Option Addr} {nx xc:Nat} {X:Nat→Rat} {Zx:Nat→Nat} {Kx:Nat} (w:World) (hP:PQ w P) (hx:LQ w xa nx X Zx) (hzx:∀ i,i<nx→1≤Zx i∧SzR (X i) (Zx i)) (htx:tot Zx nx≤Kx) (hK:P.K+Kx≤1048576) :
  Calls Tryz.prog 18 #[P.val,.slice xa nx xc] w fun e w'=>∃ f c n1 k1 c' n' k',e = .returned (.agg #[.bool f,.slice c n1 k1,.slice c' n' k'])∧GR w' w.heap.size f c n1 k1 c' n' k' (vlu P (xn X nx)) 2097160∧Below w.heap.size w w':=by
 obtain ⟨Dx,dx1,dx2,dx3⟩:=Wd.list (fun i hi=>(hzx i hi).2) htx
 have hall:=hP.all
 have hl:=tot_len P.ZV P.vn
 have hk1:=tot_pos Zx nx
 have hZV:∀ i,i<P.vn→P.ZV i≤P.K:=fun i hi=>by have:=tot_le (Z:=P.ZV) hi;omega
 have hZx:∀ j,j<nx→Zx j≤Kx:=fun j hj=>by have:=tot_le (Z:=Zx) hj;omega
 exact valueD P (T:=2097160) (S:=P.K+Kx) (U:=Kx) w hP hx (fun j hj=>⟨(hzx j hj).1,hZx j hj⟩) ⟨by omega,by omega⟩ (fun j hj=>by have:=hZV j hj;omega) (by omega) (by omega) (by omega) (by omega) (fun q hq=>(hP.val_sz3 dx1 dx2 dx3 (by omega) q hq).le (by omega))
theorem rsum_stop {Y:Nat→Rat} {m:Nat}:∀ {n:Nat},m≤n→(∀ j,m≤j→j<n→Y j=0)→rsum Y n=rsum Y m:=by
 intro n
 induction n with
 | zero =>
  intro h _
  obtain rfl:m=0:=by omega
  rfl
 | succ n ih =>
  intro h h0
  rcases (by omega:m≤n∨m=n+1) with h1|rfl
  ·rw [rsum_succ,h0 n h1 (by omega),Rat.add_zero]
   exact ih h1 (fun j a b=>h0 j a (by omega))
  ·rfl
theorem vlu_cut (P:Prob) (X:Nat→Rat) (n:Nat):rsum (prt P.k P.V X) (min n P.vn+1)=vlu P (xn X n):=by
 unfold vlu
 have h1:rsum (prt P.k P.V X) (min n P.vn+1)=rsum (prt P.k P.V (xn X n)) (min n P.vn+1):=rsum_congr fun j hj=>by
  cases j with
  | zero=>rfl
  | succ j=>show (P.V j).obj*X j=(P.V j).obj*xn X n j;unfold xn;rw [if_pos (by omega)]
 rw [h1]
 refine (rsum_stop (by omega) fun j a b=>?_).symm
 obtain ⟨i,rfl⟩:∃ i,j=i+1:=⟨j-1,by omega⟩
 show (P.V i).obj*xn X n i=0
 unfold xn
 rw [if_neg (by omega),Rat.mul_zero]
theorem valQA (P:Prob) {xa:Option Addr} {nx xc:Nat} {X:Nat→Rat} {Zx:Nat→Nat} {Kx:Nat} (w:World) (hP:PQ w P) (hx:LQ w xa nx X Zx) (hzx:∀ i,i<nx→1≤Zx i∧SzR (X i) (Zx i)) (htx:tot Zx nx≤Kx) (hxc:nx≤xc) (hK:P.K+Kx≤1048576) (hT:TB w) :
  Calls Tryz.prog 14 #[P.val,.slice xa nx xc] w fun e w'=>∃ f c n1 k1 c' n' k',e = .returned (.agg #[.bool f,.slice c n1 k1,.slice c' n' k'])∧GR w' w.heap.size f c n1 k1 c' n' k' (vlu P (xn X nx)) 2097160∧Below w.heap.size w w':=by
 obtain ⟨Dx,dx1,dx2,dx3⟩:=Wd.list (fun i hi=>(hzx i hi).2) htx
 have hall:=hP.all
 have hl:=tot_len P.ZV P.vn
 have hk1:=tot_pos Zx nx
 have hS:=hP.s1
 have hZV:∀ i,i<P.vn→P.ZV i≤P.K:=fun i hi=>by have:=tot_le (Z:=P.ZV) hi;omega
 have hZx:∀ j,j<nx→Zx j≤Kx:=fun j hj=>by have:=tot_le (Z:=Zx) hj;omega
 rw [← vlu_cut]
 have e:∀ q,q≤min nx P.vn+1→rsum (prt P.k P.V X) q=rsum (prt P.k P.V (xn X nx)) q:=fun q hq=>rsum_congr fun j hj=>by
  cases j with
  | zero=>rfl
  | succ j=>show (P.V j).obj*X j=(P.V j).obj*xn X nx j;unfold xn;rw [if_pos (by omega)]
 exact valueQ P (T:=2097160) (S:=P.K+Kx) (m:=min nx P.vn) w hP hx hxc rfl (by omega) (fun j hj=>⟨(hzx j (by omega)).1,by have:=hZV j (by omega);have:=hZx j (by omega);omega⟩) (by omega) (by omega) (fun q hq=>by rw [e q hq];exact (hP.val_sz3 dx1 dx2 dx3 (by omega) q (by omega)).le (by omega)) (by omega) hT
theorem RA.congr {w:World} {B C:Nat} {v:Value} {n:Nat} {X Y:Nat→Rat} {S:Nat} (h:RA w B C v n X S) (e:∀ i,i<n→X i=Y i):RA w B C v n Y S:=by
 obtain ⟨E,lo,h1,h2,h3⟩:=h
 exact ⟨E,lo,h1,fun i hi=>by rw [← e i hi];exact h2 i hi,h3⟩
theorem sumQA (P:Prob) {xa:Option Addr} {nx xc:Nat} {X:Nat→Rat} {Zx:Nat→Nat} {Kx:Nat} (w:World) (hP:PQ w P) (hx:LQ w xa nx X Zx) (hzx:∀ i,i<nx→1≤Zx i∧SzR (X i) (Zx i)) (htx:tot Zx nx≤Kx) (hxc:nx≤xc) (hK:P.K+Kx≤1048576) (hT:TB w) :
  Calls Tryz.prog 16 #[P.val,.slice xa nx xc] w fun e w'=>∃ a cap,e = .returned (.slice a P.rn cap)∧RA w' w.heap.size w'.heap.size (.slice a P.rn cap) P.rn (fun i=>cv (P.R i) (xn X nx) P.vn) 2097160∧Below w.heap.size w w':=by
 obtain ⟨Dx,dx1,dx2,dx3⟩:=Wd.list (fun i hi=>(hzx i hi).2) htx
 have hZx:∀ j,j<nx→Zx j≤Kx:=fun j hj=>by have:=tot_le (Z:=Zx) hj;omega
 have hZR:∀ i,i<P.rn→P.ZR i≤P.K:=fun i hi=>by have:=tot_le (Z:=P.ZR) hi;have:=hP.all;omega
 refine (sumsQA P (T:=2097160) (S:=3145736) (m:=min nx P.vn) (dx:=Kx) (ax:=Kx+1) w hP hx hxc rfl (fun i j hi hj=>⟨(hzx j (by omega)).1,by have:=hZR i hi;have:=hZx j (by omega);omega⟩) (by omega) (by omega) dx1 dx2 (Int.le_of_lt (pw_pos _)) (pw_up _) (fun j hj=>(dx3 j (by omega)).ov) (fun i hi=>by have:=hZR i hi;omega) (by omega) (by omega) hT).mono ?_
 rintro e w' ⟨a,cap,rfl,h1,h2⟩
 refine ⟨a,cap,rfl,h1.congr fun i hi=>?_,h2⟩
 exact (rsum_congr fun q _=>tv_xn (P.R i) X nx P.vn q).symm
theorem sumDA (P:Prob) {xa:Option Addr} {nx xc:Nat} {X:Nat→Rat} {Zx:Nat→Nat} {Kx:Nat} (w:World) (hP:PQ w P) (hx:LQ w xa nx X Zx) (hzx:∀ i,i<nx→1≤Zx i∧SzR (X i) (Zx i)) (htx:tot Zx nx≤Kx) (hK:P.K+Kx≤1048576) :
  Calls Tryz.prog 20 #[P.val,.slice xa nx xc] w fun e w'=>∃ a cap,e = .returned (.slice a P.rn cap)∧RL w' w.heap.size (.slice a P.rn cap) P.rn (fun i=>cv (P.R i) (xn X nx) P.vn) 2097160∧Below w.heap.size w w':=by
 obtain ⟨Dx,dx1,dx2,dx3⟩:=Wd.list (fun i hi=>(hzx i hi).2) htx
 have hZx:∀ j,j<nx→Zx j≤Kx:=fun j hj=>by have:=tot_le (Z:=Zx) hj;omega
 have hZR:∀ i,i<P.rn→P.ZR i≤P.K:=fun i hi=>by have:=tot_le (Z:=P.ZR) hi;have:=hP.all;omega
 have hk1:=tot_pos Zx nx
 exact sumsD P (T:=2097160) (S:=2097152) (U:=Kx) w hP hx (fun j hj=>⟨(hzx j hj).1,hZx j hj⟩) ⟨by omega,by omega⟩ (fun i hi=>by have:=hZR i hi;omega) (by omega) (by omega) (by omega) (fun i k hi hk=>(hP.row_sz3 dx1 dx2 dx3 (by omega) i k hi hk).le (by omega))
theorem refSameR {f g:Bool} {c c2:Option Addr} {n n2 k k2:Nat} {d d2:Option Addr} {nd nd2 kd kd2:Nat} {r:Rat} {B B' S R:Nat} (w:World) (ha:GR w B f c n k d nd kd r S) (hb:GR w B' g c2 n2 k2 d2 nd2 kd2 r R) (hS:S≤100000000) :
  Calls Tryz.prog 17 #[.agg #[.bool f,.slice c n k,.slice d nd kd],.agg #[.bool g,.slice c2 n2 k2,.slice d2 nd2 kd2]] w fun e w'=>e = .returned (.bool true)∧Below w.heap.size w w':=refSameP w ha.1 ha.2 hb.1 hb.2 hS
theorem RL.atB {w:World} {B:Nat} {a:Option Addr} {m n cap:Nat} {X:Nat→Rat} {S:Nat} (h:RL w B (.slice a m cap) n X S) {i:Nat} (hi:i<n):∃ g p a' na ca d nd cd,a=some ⟨g,0,none⟩∧w.cell? ⟨g,i*3,none⟩=some (.bool p)∧w.cell? ⟨g,i*3+1,none⟩=some (.slice a' na ca)∧w.cell? ⟨g,i*3+2,none⟩=some (.slice d nd cd)∧GR w 0 p a' na ca d nd cd (X i) S:=by
 obtain ⟨vs,h1,h2⟩:=h
 obtain ⟨p,a',na,ca,d,nd,cd,g1,g2,g3,g4⟩:=h2 i hi
 rcases h1.2 with ⟨_,e2⟩|⟨g,cap',cur,e1,_,hg,_,_,_,ht⟩
 ·omega
 ·simp only [Value.slice.injEq] at e1
  exact ⟨g,p,a',na,ca,d,nd,cd,e1.1,row_cell hg ht g1,row_cell hg ht g2,row_cell hg ht g3,g4.mono (Nat.zero_le _)⟩
set_option maxHeartbeats 4000000 in
theorem sameAllR {ga gb:Option Addr} {n ca cb B B' S R:Nat} {X:Nat→Rat} (w:World) (hA:RL w B (.slice ga n ca) n X S) (hB:RL w B' (.slice gb n cb) n X R) (hS:S≤100000000) (hn:n≤1000000000) :
  Calls Tryz.prog 19 #[.slice ga n ca,.slice gb n cb] w fun e w'=>e = .returned (.bool true)∧Below w.heap.size w w':=by
 go_enter Tryz.func19,Tryz.ntmps19
 go_wp2
 go_loopw [5] (fun s wr=>∃ (k:Nat),k≤n∧s = .int .i64 k∧Below w.heap.size w wr) (fun t _=>n-(intOf t).toNat)
 case atStart=>exact ⟨0,Nat.zero_le _,rfl,Below.refl _ _⟩
 case round =>
  obtain ⟨k,hk,rfl,hbel⟩:=hrel
  by_cases hlt:k<n
  ·have hkI:(k:Int)<(n:Int):=by omega
   obtain ⟨g1,p1,u1,m1,l1,v1,q1,r1,rfl,a0,a1,a2,hA1⟩:=hA.atB hlt
   obtain ⟨g2,p2,u2,m2,l2,v2,q2,r2,rfl,b0,b1,b2,hB1⟩:=hB.atB hlt
   replace a0:=kept_c hbel a0
   replace a1:=kept_c hbel a1
   replace a2:=kept_c hbel a2
   replace b0:=kept_c hbel b0
   replace b1:=kept_c hbel b1
   replace b2:=kept_c hbel b2
   replace hA1:=hA1.below hbel
   replace hB1:=hB1.below hbel
   have hkI2:(k:Int)*3=((k*3:Nat):Int):=by omega
   go_wp2_with fail
   go_region_held3 (fun w'=>w'.cell? ⟨g1,k*3,none⟩=some (.bool p1)∧w'.cell? ⟨g1,k*3+1,none⟩=some (.slice u1 m1 l1)∧w'.cell? ⟨g1,k*3+2,none⟩=some (.slice v1 q1 r1)∧w'.cell? ⟨g2,k*3,none⟩=some (.bool p2)∧w'.cell? ⟨g2,k*3+1,none⟩=some (.slice u2 m2 l2)∧w'.cell? ⟨g2,k*3+2,none⟩=some (.slice v2 q2 r2))
    (refine ⟨?_,?_,?_,?_,?_,?_⟩ <;> first|with_reducible exact kept_c hc1 (by assumption)|with_reducible exact kept_c (bel_d1 _) (by assumption))
    ((first
     | (go_at_call 17;go_fit (refSameR _ (hA1.below (bel_d1 _)) (hB1.below (bel_d1 _)) (by omega));rintro e w1 ⟨rfl,h1⟩;have hc1:=bel_tr (bel_d1 wr) h1)))
   replace hbel:=bel_tr hbel hc1
   clear h1 hc1 hA1 hB1 a0 a1 a2 b0 b1 b2
   go_wp2
   go_roundw
   case rel=>first|exact ⟨k+1,by omega,by go_num,hbel⟩|((repeat apply Exists.intro);refine ⟨?_,rfl⟩;exact ⟨k+1,by omega,by go_num,hbel⟩)
   case measure=>simp [intOf];omega
  ·have hkI:¬ (k:Int)<(n:Int):=by omega
   go_wp2
   go_ret
   exact ⟨rfl,hbel⟩
theorem lnatG (w:World) (r gf cf gw cw n:Nat) (fs ws:List Int) (h:Lnt w r gf cf gw cw n fs ws) :
  Calls Tryz.prog 41 #[.pointer (some ⟨r,0,none⟩)] w fun e w'=>e = .returned (.slice (some ⟨gf,0,none⟩) n cf)∧Below w.heap.size w w':=by
 refine (lnat_any w r gf cf gw cw n fs ws h).mono ?_
 rintro e w' ⟨rfl,m,rfl⟩
 exact ⟨rfl,belN (Below.refl _ _) m⟩
/-! ### half limbs as numbers -/
theorem infPtr1:Inf 94 1 8:=inf_of (by kernel_rfl)
theorem infBool:Inf 4 1 1:=inf_of (by kernel_rfl)
theorem infRat:Inf 27 3 56:=inf_of (by kernel_rfl)
structure Fr where
 p:Bool
 xs:List Int
 ys:List Int
def F3 (w:World) (b o:Nat) (f:Fr):Prop :=
 ∃ a ca d cd,w.cell? ⟨b,o,none⟩=some (.bool f.p)∧w.cell? ⟨b,o+1,none⟩=some (.slice a f.xs.length ca)∧w.cell? ⟨b,o+2,none⟩=some (.slice d f.ys.length cd)∧f.xs.length≤ca∧f.ys.length≤cd∧Reads w a f.xs∧Reads w d f.ys
def LF (w:World) (a:Option Addr) (n:Nat) (F:Nat→Fr):Prop:=n=0∨∃ b o,a=some ⟨b,o,none⟩∧∀ i,i<n→F3 w b (o+i*3) (F i)
theorem Reads.below' {w w':World} {a:Option Addr} {xs:List Int} (h:Reads w a xs) (hb:Below w.heap.size w w'):Reads w' a xs:=by
 rcases h with h|⟨b,o,e,h⟩
 ·exact .inl h
 ·exact .inr ⟨b,o,e,fun i hi=>kept_c hb (h i hi)⟩
theorem F3.below {w w':World} {b o:Nat} {f:Fr} (h:F3 w b o f) (hb:Below w.heap.size w w'):F3 w' b o f:=by
 obtain ⟨a,ca,d,cd,h1,h2,h3,h4,h5,h6,h7⟩:=h
 exact ⟨a,ca,d,cd,kept_c hb h1,kept_c hb h2,kept_c hb h3,h4,h5,h6.below' hb,h7.below' hb⟩
theorem LF.below {w w':World} {a:Option Addr} {n:Nat} {F:Nat→Fr} (h:LF w a n F) (hb:Below w.heap.size w w'):LF w' a n F:=by
 rcases h with h|⟨b,o,e,h⟩
 ·exact .inl h
 ·exact .inr ⟨b,o,e,fun i hi=>(h i hi).below hb⟩
structure Bk where
 rn:Nat
 gf:Nat
 cf:Nat
 gw:Nat
 cw:Nat
 rd:Nat
 hf:Nat
 cg:Nat
 hw:Nat
 ch:Nat
theorem Lnt.kept {w w':World} {r gf cf gw cw n:Nat} {fs ws:List Int} (h:Lnt w r gf cf gw cw n fs ws) (h1:w'.heap[r]? = w.heap[r]?) (h2:w'.heap[gf]? = w.heap[gf]?) (h3:w'.heap[gw]? = w.heap[gw]?) (hs:w.heap.size≤w'.heap.size):Lnt w' r gf cf gw cw n fs ws:=by
 refine ⟨(World.cell?_of_block (w:=w) h1).trans h.c0,(World.cell?_of_block (w:=w) h1).trans h.c1,(World.cell?_of_block (w:=w) h1).trans h.c2,?_,?_,h.ne,h.lf,h.lw,h.le,by have:=h.lr;omega,h.eq⟩
 ·obtain ⟨cur,k1,k2⟩:=h.rf
  exact ⟨cur,h2.trans k1,k2⟩
 ·obtain ⟨cur,k1,k2⟩:=h.rw
  exact ⟨cur,h3.trans k1,k2⟩
structure LJ (w:World) (R n ka kn kd kg km:Nat) (F:Nat→Fr) (A:Nat→Bk) (va vn vd vg:Value):Prop where
 row:Rw 93 w R #[va,vn,vd,vg,.int .i64 n]
 sa:SL w (R+1) 27 3 va ka (fun i=>if i<km then [.bool (F i).p,.slice (some ⟨(A i).gf,0,none⟩) (F i).xs.length (A i).cf,.slice (some ⟨(A i).hf,0,none⟩) (F i).ys.length (A i).cg] else [.bool true,.slice none 0 0,.slice none 0 0])
 sn:SL w (R+1) 94 1 vn kn (fun i=>[.pointer (some ⟨(A i).rn,0,none⟩)])
 sd:SL w (R+1) 94 1 vd kd (fun i=>[.pointer (some ⟨(A i).rd,0,none⟩)])
 sg:SL w (R+1) 4 1 vg kg (fun i=>[.bool (F i).p])
 ln:∀ i,i<km→Lnt w (A i).rn (A i).gf (A i).cf (A i).gw (A i).cw (F i).xs.length (lendL (F i).xs) (lendL (F i).xs)
 ld:∀ i,i<km→Lnt w (A i).rd (A i).hf (A i).cg (A i).hw (A i).ch (F i).ys.length (lendL (F i).ys) (lendL (F i).ys)
 up:∀ i,i<km→R<(A i).rn∧R<(A i).rd∧(A i).rn≠(A i).rd
 za:ka=0→va = .slice none 0 0
 zn:kn=0→vn = .slice none 0 0
 zd:kd=0→vd = .slice none 0 0
 zg:kg=0→vg = .slice none 0 0
 mn:kn≤km∧kd≤km
 od:∀ i,i<km→R<(A i).gf∧(A i).gf<(A i).hf∧∀ j,i<j→j<km→(A i).hf<(A j).gf
theorem LJ.below {w w':World} {R n ka kn kd kg km:Nat} {F:Nat→Fr} {A:Nat→Bk} {va vn vd vg:Value} (h:LJ w R n ka kn kd kg km F A va vn vd vg) (hb:Below w.heap.size w w'):LJ w' R n ka kn kd kg km F A va vn vd vg :=
 ⟨h.row.below hb,h.sa.below hb,h.sn.below hb,h.sd.below hb,h.sg.below hb,fun i hi=>(h.ln i hi).below hb,fun i hi=>(h.ld i hi).below hb,h.up,h.za,h.zn,h.zd,h.zg,h.mn,h.od⟩
theorem SL.first {w:World} {B:Nat} {T:TypeId} {c:Nat} {v:Value} {n:Nat} {E:Nat→List Value} (h:SL w B T c v n E) (hz:n=0→v = .slice none 0 0) {g:Nat} (hg:v.ownBlock=some g) {u:Value} (hu:(E 0)[0]? = some u):w.cell? ⟨g,0,none⟩=some u:=by
 rcases Nat.eq_zero_or_pos n with e|e
 ·rw [hz e] at hg;cases hg
 ·obtain ⟨a,cap,rfl,_⟩:=h.form
  rcases h.cell with h0|⟨g',e1,hc⟩
  ·omega
  ·subst e1
   simp [Value.ownBlock] at hg
   subst hg
   have:=hc 0 e 0 u hu
   simpa using this
theorem Lnt.ne_row {w:World} {r gf cf gw cw n:Nat} {fs ws:List Int} (h:Lnt w r gf cf gw cw n fs ws) {B:Nat} {T:TypeId} {c:Nat} {v:Value} {k:Nat} {E:Nat→List Value} (hl:SL w B T c v k E) (hz:k=0→v = .slice none 0 0) (hT:T≠63) {u:Value} (hu:(E 0)[0]? = some u) (hs:∀ a b d,u ≠ .slice a b d):some r≠v.ownBlock∧some gf≠v.ownBlock∧some gw≠v.ownBlock:=by
 have hn:=hl.noW hT
 refine ⟨fun e=>?_,fun e=>?_,fun e=>?_⟩
 ·have h1:=hl.first hz e.symm hu
  rw [h.c0] at h1
  exact hs _ _ _ (Option.some.inj h1).symm
 ·obtain ⟨cur,k1,_⟩:=h.rf
  obtain ⟨cur',T',k2,hT'⟩:=hn gf e.symm
  rw [k1] at k2
  simp only [Option.some.injEq,Obj.cells.injEq] at k2
  exact hT' k2.2.1.symm
 ·obtain ⟨cur,k1,_⟩:=h.rw
  obtain ⟨cur',T',k2,hT'⟩:=hn gw e.symm
  rw [k1] at k2
  simp only [Option.some.injEq,Obj.cells.injEq] at k2
  exact hT' k2.2.1.symm
theorem Lnt.lg {w:World} {r gf cf gw cw n:Nat} {fs ws:List Int} (h:Lnt w r gf cf gw cw n fs ws):gf<w.heap.size∧gw<w.heap.size:=by
 obtain ⟨cur,k1,_⟩:=h.rf
 obtain ⟨cur',k2,_⟩:=h.rw
 exact ⟨(Array.getElem?_eq_some_iff.1 k1).1,(Array.getElem?_eq_some_iff.1 k2).1⟩
theorem Lnt.step {w w1 w2:World} {r gf cf gw cw n:Nat} {fs ws:List Int} (h:Lnt w r gf cf gw cw n fs ws) (hb:Below w.heap.size w w1) {B:Nat} {T:TypeId} {c:Nat} {v:Value} {k:Nat} {E:Nat→List Value} (hl:SL w B T c v k E) (hz:k=0→v = .slice none 0 0) (hT:T≠63) {u:Value} (hu:(E 0)[0]? = some u) (hs:∀ a b d,u ≠ .slice a b d) (hg:w1.grownBy w2 v.ownBlock) {R:Nat} (hR:R<r) (i:Nat) (x:Value):Lnt (w2.setCell ⟨R,i,none⟩ x) r gf cf gw cw n fs ws:=by
 obtain ⟨n1,n2,n3⟩:=h.ne_row hl hz hT hu hs
 have h1:=h.below hb
 have l:=h1.lg
 have O:Off R w2 (w2.setCell ⟨R,i,none⟩ x):=(Off.refl R w2).set i x
 have lf:=h.lf
 have lw:=h.lw
 refine h1.kept ((O.block r (by omega)).trans (hg.block r h1.lr n1)) ((O.block gf (by omega)).trans (hg.block gf l.1 n2)) ((O.block gw (by omega)).trans (hg.block gw l.2 n3)) ?_
 rw [O.size]
 exact hg.size
theorem SL.step {w w1 w2:World} {B:Nat} {T:TypeId} {c:Nat} {v:Value} {n:Nat} {E:Nat→List Value} (h:SL w B T c v n E) (hb:Below w.heap.size w w1) {row:Option Nat} (hg:w1.grownBy w2 row) (hne:∀ g,v.ownBlock=some g→row≠some g) {R:Nat} (hR:R<B) (i:Nat) (x:Value):SL (w2.setCell ⟨R,i,none⟩ x) B T c v n E:=by
 have O:Off R w2 (w2.setCell ⟨R,i,none⟩ x):=(Off.refl R w2).set i x
 exact ((h.below hb).kept hg hne).kept O.grown (fun g e e2=>by cases e2;have:=(h.lt _ e).1;omega)
theorem SL.setR {w:World} {B:Nat} {T:TypeId} {c:Nat} {v:Value} {n:Nat} {E:Nat→List Value} (h:SL w B T c v n E) {R:Nat} (hR:R<B) (i:Nat) (x:Value):SL (w.setCell ⟨R,i,none⟩ x) B T c v n E:=by
 have O:Off R w (w.setCell ⟨R,i,none⟩ x):=(Off.refl R w).set i x
 exact h.kept O.grown (fun g e e2=>by cases e2;have:=(h.lt _ e).1;omega)
theorem SL.neT {w:World} {B B':Nat} {T U:TypeId} {c d:Nat} {v u:Value} {n m:Nat} {E E':Nat→List Value} (h:SL w B T c v n E) (k:SL w B' U d u m E') (hT:T≠U):∀ g,v.ownBlock=some g→u.ownBlock≠some g:=by
 obtain ⟨vs,h1,_⟩:=h
 obtain ⟨us,k1,_⟩:=k
 exact row_neT h1 k1 hT
theorem LJ.nd {w:World} {R n ka kn kd kg km:Nat} {F:Nat→Fr} {A:Nat→Bk} {va vn vd vg:Value} (h:LJ w R n ka kn kd kg km F A va vn vd vg):∀ g,vn.ownBlock=some g→vd.ownBlock≠some g:=by
 intro g e1 e2
 have h1:=h.sn.first h.zn e1 (u:=.pointer (some ⟨(A 0).rn,0,none⟩)) rfl
 have h2:=h.sd.first h.zd e2 (u:=.pointer (some ⟨(A 0).rd,0,none⟩)) rfl
 rw [h1] at h2
 simp only [Option.some.injEq,Value.pointer.injEq,Addr.mk.injEq,and_true] at h2
 have hk:0<km:=by
  rcases Nat.eq_zero_or_pos kn with e|e
  ·rw [h.zn e] at e1;cases e1
  ·have:=h.mn.1;omega
 exact (h.up 0 hk).2.2 h2
theorem LJ.appn {w w1 w2:World} {R n ka kn kd kg km:Nat} {F:Nat→Fr} {A:Nat→Bk} {va vn vd vg:Value} (h:LJ w R n ka kn kd kg km F A va vn vd vg) (hb:Below w.heap.size w w1) (hg:w1.grownBy w2 vn.ownBlock) {g cap:Nat}
  (hS:SL w2 (R+1) 94 1 (.slice (some ⟨g,0,none⟩) (kn+1) cap) (kn+1) (fun i=>if i<kn then [.pointer (some ⟨(A i).rn,0,none⟩)] else [.pointer (some ⟨(A kn).rn,0,none⟩)])) (hk:kn+1≤km):LJ (w2.setCell ⟨R,1,none⟩ (.slice (some ⟨g,0,none⟩) (kn+1) cap)) R n ka (kn+1) kd kg km F A va (.slice (some ⟨g,0,none⟩) (kn+1) cap) vd vg:=by
 have hr:Rw 93 w2 R #[va,vn,vd,vg,.int .i64 n]:=(h.row.below hb).kept hg (fun e=>by have:=(h.sn.lt R e).1;omega)
 have hr2:=(hr.set 1 (.slice (some ⟨g,0,none⟩) (kn+1) cap)).1
 refine ⟨by simpa using hr2,h.sa.step hb hg (fun g e=>h.sa.neT h.sn (by decide) g e) (by omega) _ _,(hS.congr (fun i hi=>?_)).setR (by omega) _ _,h.sd.step hb hg (fun g e e2=>h.nd g e2 e) (by omega) _ _,h.sg.step hb hg (fun g e=>h.sg.neT h.sn (by decide) g e) (by omega) _ _,fun i hi=>(h.ln i hi).step hb h.sn h.zn (by decide) rfl (fun _ _ _ e=>by cases e) hg (h.up i hi).1 _ _,fun i hi=>(h.ld i hi).step hb h.sn h.zn (by decide) rfl (fun _ _ _ e=>by cases e) hg (h.up i hi).2.1 _ _,h.up,h.za,fun e=>by omega,h.zd,h.zg,⟨hk,h.mn.2⟩,h.od⟩
 split
 ·rfl
 ·obtain rfl:i=kn:=by omega
  rfl
theorem LJ.appd {w w1 w2:World} {R n ka kn kd kg km:Nat} {F:Nat→Fr} {A:Nat→Bk} {va vn vd vg:Value} (h:LJ w R n ka kn kd kg km F A va vn vd vg) (hb:Below w.heap.size w w1) (hg:w1.grownBy w2 vd.ownBlock) {g cap:Nat}
  (hS:SL w2 (R+1) 94 1 (.slice (some ⟨g,0,none⟩) (kd+1) cap) (kd+1) (fun i=>if i<kd then [.pointer (some ⟨(A i).rd,0,none⟩)] else [.pointer (some ⟨(A kd).rd,0,none⟩)])) (hk:kd+1≤km):LJ (w2.setCell ⟨R,2,none⟩ (.slice (some ⟨g,0,none⟩) (kd+1) cap)) R n ka kn (kd+1) kg km F A va vn (.slice (some ⟨g,0,none⟩) (kd+1) cap) vg:=by
 have hr:Rw 93 w2 R #[va,vn,vd,vg,.int .i64 n]:=(h.row.below hb).kept hg (fun e=>by have:=(h.sd.lt R e).1;omega)
 have hr2:=(hr.set 2 (.slice (some ⟨g,0,none⟩) (kd+1) cap)).1
 refine ⟨by simpa using hr2,h.sa.step hb hg (fun g e=>h.sa.neT h.sd (by decide) g e) (by omega) _ _,h.sn.step hb hg (fun g e=>h.nd g e) (by omega) _ _,(hS.congr (fun i hi=>?_)).setR (by omega) _ _,h.sg.step hb hg (fun g e=>h.sg.neT h.sd (by decide) g e) (by omega) _ _,fun i hi=>(h.ln i hi).step hb h.sd h.zd (by decide) rfl (fun _ _ _ e=>by cases e) hg (h.up i hi).1 _ _,fun i hi=>(h.ld i hi).step hb h.sd h.zd (by decide) rfl (fun _ _ _ e=>by cases e) hg (h.up i hi).2.1 _ _,h.up,h.za,h.zn,fun e=>by omega,h.zg,⟨h.mn.1,hk⟩,h.od⟩
 split
 ·rfl
 ·obtain rfl:i=kd:=by omega
  rfl
theorem LJ.appg {w w1 w2:World} {R n ka kn kd kg km:Nat} {F:Nat→Fr} {A:Nat→Bk} {va vn vd vg:Value} (h:LJ w R n ka kn kd kg km F A va vn vd vg) (hb:Below w.heap.size w w1) (hg:w1.grownBy w2 vg.ownBlock) {g cap:Nat}
  (hS:SL w2 (R+1) 4 1 (.slice (some ⟨g,0,none⟩) (kg+1) cap) (kg+1) (fun i=>if i<kg then [.bool (F i).p] else [.bool (F kg).p])):LJ (w2.setCell ⟨R,3,none⟩ (.slice (some ⟨g,0,none⟩) (kg+1) cap)) R n ka kn kd (kg+1) km F A va vn vd (.slice (some ⟨g,0,none⟩) (kg+1) cap):=by
 have hr:Rw 93 w2 R #[va,vn,vd,vg,.int .i64 n]:=(h.row.below hb).kept hg (fun e=>by have:=(h.sg.lt R e).1;omega)
 have hr2:=(hr.set 3 (.slice (some ⟨g,0,none⟩) (kg+1) cap)).1
 refine ⟨by simpa using hr2,h.sa.step hb hg (fun g e=>h.sa.neT h.sg (by decide) g e) (by omega) _ _,h.sn.step hb hg (fun g e=>h.sn.neT h.sg (by decide) g e) (by omega) _ _,h.sd.step hb hg (fun g e=>h.sd.neT h.sg (by decide) g e) (by omega) _ _,(hS.congr (fun i hi=>?_)).setR (by omega) _ _,fun i hi=>(h.ln i hi).step hb h.sg h.zg (by decide) rfl (fun _ _ _ e=>by cases e) hg (h.up i hi).1 _ _,fun i hi=>(h.ld i hi).step hb h.sg h.zg (by decide) rfl (fun _ _ _ e=>by cases e) hg (h.up i hi).2.1 _ _,h.up,h.za,h.zn,h.zd,fun e=>by omega,h.mn,h.od⟩
 split
 ·rfl
 ·obtain rfl:i=kg:=by omega
  rfl
theorem LJ.appa {w w1 w2:World} {R n ka kn kd kg km:Nat} {F:Nat→Fr} {A:Nat→Bk} {va vn vd vg:Value} (h:LJ w R n ka kn kd kg km F A va vn vd vg) (hb:Below w.heap.size w w1) (hg:w1.grownBy w2 va.ownBlock) {g cap:Nat} {cs:List Value}
  (hS:SL w2 (R+1) 27 3 (.slice (some ⟨g,0,none⟩) (ka+1) cap) (ka+1) (fun i=>if i<ka then (if i<km then [.bool (F i).p,.slice (some ⟨(A i).gf,0,none⟩) (F i).xs.length (A i).cf,.slice (some ⟨(A i).hf,0,none⟩) (F i).ys.length (A i).cg] else [.bool true,.slice none 0 0,.slice none 0 0]) else cs))
  (hcs:cs=if ka<km then [.bool (F ka).p,.slice (some ⟨(A ka).gf,0,none⟩) (F ka).xs.length (A ka).cf,.slice (some ⟨(A ka).hf,0,none⟩) (F ka).ys.length (A ka).cg] else [.bool true,.slice none 0 0,.slice none 0 0]):LJ (w2.setCell ⟨R,0,none⟩ (.slice (some ⟨g,0,none⟩) (ka+1) cap)) R n (ka+1) kn kd kg km F A (.slice (some ⟨g,0,none⟩) (ka+1) cap) vn vd vg:=by
 have hr:Rw 93 w2 R #[va,vn,vd,vg,.int .i64 n]:=(h.row.below hb).kept hg (fun e=>by have:=(h.sa.lt R e).1;omega)
 have hr2:=(hr.set 0 (.slice (some ⟨g,0,none⟩) (ka+1) cap)).1
 have hu:∃ u,((fun i=>if i<km then [Value.bool (F i).p,.slice (some ⟨(A i).gf,0,none⟩) (F i).xs.length (A i).cf,.slice (some ⟨(A i).hf,0,none⟩) (F i).ys.length (A i).cg] else [.bool true,.slice none 0 0,.slice none 0 0]) 0)[0]? = some (.bool u):=by
  by_cases e:0<km
  ·exact ⟨(F 0).p,by simp [e]⟩
  ·exact ⟨true,by simp [e]⟩
 obtain ⟨u,hu⟩:=hu
 refine ⟨by simpa using hr2,(hS.congr (fun i hi=>?_)).setR (by omega) _ _,h.sn.step hb hg (fun g e=>h.sn.neT h.sa (by decide) g e) (by omega) _ _,h.sd.step hb hg (fun g e=>h.sd.neT h.sa (by decide) g e) (by omega) _ _,h.sg.step hb hg (fun g e=>h.sg.neT h.sa (by decide) g e) (by omega) _ _,fun i hi=>(h.ln i hi).step hb h.sa h.za (by decide) hu (fun _ _ _ e=>by cases e) hg (h.up i hi).1 _ _,fun i hi=>(h.ld i hi).step hb h.sa h.za (by decide) hu (fun _ _ _ e=>by cases e) hg (h.up i hi).2.1 _ _,h.up,fun e=>by omega,h.zn,h.zd,h.zg,h.mn,h.od⟩
 by_cases e:i<ka
 ·rw [if_pos e]
 ·obtain rfl:i=ka:=by omega
  rw [if_neg e,hcs]
theorem LJ.more {w:World} {R n k:Nat} {F:Nat→Fr} {A:Nat→Bk} {va vn vd vg:Value} (h:LJ w R n k k k k k F A va vn vd vg) (b:Bk) (h1:Lnt w b.rn b.gf b.cf b.gw b.cw (F k).xs.length (lendL (F k).xs) (lendL (F k).xs)) (h2:Lnt w b.rd b.hf b.cg b.hw b.ch (F k).ys.length (lendL (F k).ys) (lendL (F k).ys)) (h3:R<b.rn∧R<b.rd∧b.rn≠b.rd) (h4:R<b.gf∧b.gf<b.hf∧∀ i,i<k→(A i).hf<b.gf) :
  LJ w R n k k k k (k+1) F (fun i=>if i<k then A i else b) va vn vd vg:=by
 have e1:∀ i,i<k→(if i<k then A i else b)=A i:=fun i hi=>if_pos hi
 have e2:(if k<k then A k else b)=b:=if_neg (by omega)
 refine ⟨h.row,h.sa.congr (fun i hi=>?_),h.sn.congr (fun i hi=>?_),h.sd.congr (fun i hi=>?_),h.sg,fun i hi=>?_,fun i hi=>?_,fun i hi=>?_,h.za,h.zn,h.zd,h.zg,⟨by omega,by omega⟩,fun i hi=>?_⟩
 ·show (if i<k then _ else _)=(if i<k+1 then _ else _)
  rw [if_pos hi,if_pos (by omega),e1 i hi]
 ·show _=[Value.pointer (some ⟨(if i<k then A i else b).rn,0,none⟩)]
  rw [e1 i hi]
 ·show _=[Value.pointer (some ⟨(if i<k then A i else b).rd,0,none⟩)]
  rw [e1 i hi]
 ·rcases (by omega:i<k∨i=k) with hi'|rfl
  ·show Lnt w (if i<k then A i else b).rn (if i<k then A i else b).gf (if i<k then A i else b).cf (if i<k then A i else b).gw (if i<k then A i else b).cw _ _ _
   rw [e1 i hi'];exact h.ln i hi'
  ·show Lnt w (if i<i then A i else b).rn (if i<i then A i else b).gf (if i<i then A i else b).cf (if i<i then A i else b).gw (if i<i then A i else b).cw _ _ _
   rw [e2];exact h1
 ·rcases (by omega:i<k∨i=k) with hi'|rfl
  ·show Lnt w (if i<k then A i else b).rd (if i<k then A i else b).hf (if i<k then A i else b).cg (if i<k then A i else b).hw (if i<k then A i else b).ch _ _ _
   rw [e1 i hi'];exact h.ld i hi'
  ·show Lnt w (if i<i then A i else b).rd (if i<i then A i else b).hf (if i<i then A i else b).cg (if i<i then A i else b).hw (if i<i then A i else b).ch _ _ _
   rw [e2];exact h2
 ·rcases (by omega:i<k∨i=k) with hi'|rfl
  ·show R<(if i<k then A i else b).rn∧R<(if i<k then A i else b).rd∧(if i<k then A i else b).rn≠(if i<k then A i else b).rd
   rw [e1 i hi'];exact h.up i hi'
  ·show R<(if i<i then A i else b).rn∧R<(if i<i then A i else b).rd∧(if i<i then A i else b).rn≠(if i<i then A i else b).rd
   rw [e2];exact h3
 ·show R<(if i<k then A i else b).gf∧(if i<k then A i else b).gf<(if i<k then A i else b).hf∧∀ j,i<j→j<k+1→(if i<k then A i else b).hf<(if j<k then A j else b).gf
  rcases (by omega:i<k∨i=k) with hi'|rfl
  ·rw [e1 i hi']
   refine ⟨(h.od i hi').1,(h.od i hi').2.1,fun j hj hk=>?_⟩
   rcases (by omega:j<k∨j=k) with hj'|rfl
   ·rw [e1 j hj'];exact (h.od i hi').2.2 j hj hj'
   ·rw [e2];exact h4.2.2 i hi'
  ·rw [e2];exact ⟨h4.1,h4.2.1,fun j hj hk=>by omega⟩
end Go.Proofs.YtdcocflnafcikaaGreatDoor
