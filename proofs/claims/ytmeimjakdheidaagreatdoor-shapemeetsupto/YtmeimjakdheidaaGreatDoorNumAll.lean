import Derived.Test.YtmeimjakdheidaaGreatDoorSumAll
import Derived.Deep.AppendLies
set_option maxHeartbeats 1000000
namespace Go.Proofs.YtmeimjakdheidaaGreatDoor
open Go.RowKit
theorem aF {w W w1:World} (h:Below w.heap.size w W) (k:Below W.heap.size W w1):Below w.heap.size w w1:=h.trans (k.mono h.size)
theorem qV {w:World} (us:List Int):Blk (w.alloc (.cells (us.map (Value.int .u64)).toArray 118)) w.heap.size us:=by
 unfold Blk;rw [heap_alloc_new]
/-! ### What the limbs are worth -/
def pw (k:Nat):Int:=18446744073709551616^k
theorem jZ:pw 0=1:=rfl
theorem cZ (k:Nat):pw (k+1)=pw k*18446744073709551616:=Int.pow_succ _ _
theorem bG (k:Nat):0<pw k:=Int.pow_pos (by decide)
theorem gU (a b:Nat):pw (a+b)=pw a*pw b:=Int.pow_add _ _ _
theorem aT {a b:Nat} (h:a≤b):pw a≤pw b:=by
 obtain ⟨c,rfl⟩:∃ c,b=a+c:=⟨b-a,by omega⟩
 rw [gU]
 have h1:=bG c
 have h2:=bG a
 have:=Int.mul_le_mul_of_nonneg_left (a:=1) (b:=pw c) (c:=pw a) (by omega) (by omega)
 omega
def vS (us:List Int):Nat→Int
 | 0=>0
 | n+1=>vS us n+lm us n*pw n
def val (us:List Int):Int:=vS us us.length
theorem fP {us vs:List Int} {n:Nat} (h:∀ i,i<n→lm us i=lm vs i):vS us n=vS vs n:=by
 induction n with
 | zero=>rfl
 | succ n ih=>simp only [vS];rw [ih (fun i hi=>h i (by omega)),h n (by omega)]
theorem vS_set_ge {us:List Int} {n i:Nat} {z:Int} (h:n≤i):vS (us.set i z) n=vS us n :=
 fP fun j hj=>by rw [bT,if_neg (by omega)]
theorem iR {us:List Int} {n i:Nat} (z:Int) (h:i<n) (hl:i<us.length):vS (us.set i z) n=vS us n+(z-lm us i)*pw i:=by
 induction n with
 | zero=>omega
 | succ n ih =>
  simp only [vS]
  rcases Nat.lt_or_ge i n with h1|h1
  ·rw [ih h1,bT,if_neg (by omega)];omega
  ·obtain rfl:i=n:=by omega
   rw [vS_set_ge (Nat.le_refl _),bT,if_pos ⟨rfl,hl⟩,Int.sub_mul];omega
theorem mG {us:List Int} {m n:Nat} (hmn:m≤n) (h:∀ i,m≤i→i<n→lm us i=0):vS us n=vS us m:=by
 induction n with
 | zero =>
  obtain rfl:m=0:=by omega
  rfl
 | succ n ih =>
  rcases Nat.lt_or_ge n m with h1|h1
  ·obtain rfl:m=n+1:=by omega
   rfl
  ·simp only [vS];rw [ih h1 (fun i a b=>h i a (by omega)),h n h1 (by omega)];omega
theorem iG {us:List Int} {n:Nat} (h:us.length≤n):vS us n=val us:=mG h (fun _ a _=>gK a)
theorem iK {us:List Int} (hu:AllW us) (n:Nat):0≤vS us n∧vS us n<pw n:=by
 induction n with
 | zero=>simp [vS,pw]
 | succ n ih =>
  simp only [vS]
  rw [cZ]
  have h:=hu.at n
  have hp:=bG n
  have h1:0≤lm us n*pw n:=Int.mul_nonneg h.1 (by omega)
  have h2:lm us n*pw n≤18446744073709551615*pw n:=Int.mul_le_mul_of_nonneg_right (by omega) (by omega)
  omega
theorem gX {us:List Int} (hu:AllW us):0≤val us:=(iK hu _).1
theorem gZ {us:List Int} (hu:AllW us):val us<pw us.length:=(iK hu _).2
theorem jF (xs:List Int):vS xs (aJ xs)=val xs:=(mG (bQ _ _) (iF xs xs.length).1).symm
theorem aV (xs:List Int):val (trimL xs)=val xs:=by
 unfold val
 rw [aN]
 show _=val xs
 rw [← jF]
 exact fP fun i hi=>by unfold trimL;rw [fO hi]
theorem AllW.trim {xs:List Int} (h:AllW xs):AllW (trimL xs):=h.take _
theorem rU {xs:List Int} {i:Nat} (h:i<aJ xs):lm (trimL xs) i=lm xs i:=by unfold trimL;rw [fO h]
theorem kC {xs:List Int} (hx:AllW xs) (h:0<aJ xs):pw (aJ xs-1)≤val xs:=by
 rw [← jF]
 obtain ⟨k,hk⟩:∃ k,aJ xs=k+1:=⟨aJ xs-1,by omega⟩
 rw [hk]
 simp only [vS]
 have hne:=(iF xs xs.length).2 h
 have e:tl xs xs.length=k+1:=hk
 rw [e] at hne
 simp only [Nat.add_sub_cancel] at hne ⊢
 have h1:=hx.at k
 have h2:=(iK hx k).1
 have h3:1*pw k≤lm xs k*pw k:=Int.mul_le_mul_of_nonneg_right (by omega) (by have:=bG k;omega)
 omega
theorem dP {xs:List Int} (hx:AllW xs):val xs<pw (aJ xs):=by rw [← jF];exact (iK hx _).2
theorem fM {xs:List Int} (hx:AllW xs):aJ xs=0↔val xs=0:=by
 constructor
 ·intro h;have:=dP hx;have h2:=gX hx;rw [h,jZ] at this;omega
 ·intro h
  rcases Nat.eq_zero_or_pos (aJ xs) with e|e
  ·exact e
  ·have:=kC hx e;have h2:=bG (aJ xs-1);omega
theorem pK {xs ys:List Int} (hx:AllW xs) (hy:AllW ys) (h:val xs≤val ys):aJ xs≤aJ ys:=by
 rcases Nat.lt_or_ge (aJ ys) (aJ xs) with e|e
 ·have h1:=kC hx (by omega)
  have h2:=dP hy
  have h3:=aT (show aJ ys≤aJ xs-1 by omega)
  omega
 ·exact e
/-! ### the order -/
theorem cmpTo_val {xs ys:List Int} (hx:AllW xs) (hy:AllW ys) (k:Nat):(dF xs ys k=0∧vS xs k=vS ys k)∨(dF xs ys k = -1∧vS xs k<vS ys k)∨(dF xs ys k=1∧vS ys k<vS xs k):=by
 induction k with
 | zero=>simp [dF,vS]
 | succ k ih =>
  simp only [vS]
  by_cases h:lm xs k=lm ys k
  ·rw [kW h,h];omega
  ·rw [jL h]
   have a:=iK hx k
   have b:=iK hy k
   have hp:=bG k
   by_cases h2:lm xs k<lm ys k
   ·have:=Int.mul_le_mul_of_nonneg_right (a:=lm xs k+1) (b:=lm ys k) (c:=pw k) (by omega) (by omega)
    rw [Int.add_mul] at this
    right;left
    exact ⟨by simp [mZ,h2],by omega⟩
   ·have:=Int.mul_le_mul_of_nonneg_right (a:=lm ys k+1) (b:=lm xs k) (c:=pw k) (by omega) (by omega)
    rw [Int.add_mul] at this
    right;right
    exact ⟨by simp [mZ,h2],by omega⟩
theorem rV {xs ys:List Int} (hx:AllW xs) (hy:AllW ys):(cmpL xs ys=0∧val xs=val ys)∨(cmpL xs ys = -1∧val xs<val ys)∨(cmpL xs ys=1∧val ys<val xs):=by
 unfold cmpL
 by_cases h:aJ xs=aJ ys
 ·rw [if_pos h]
  have:=cmpTo_val hx hy (aJ xs)
  have e:vS ys (aJ xs)=val ys:=by rw [h,jF]
  rw [jF,e] at this
  exact this
 ·rw [if_neg h]
  by_cases h2:aJ xs<aJ ys
  ·right;left
   refine ⟨by simp [mZ,h2],?_⟩
   have h1:=kC hy (by omega)
   have h3:=dP hx
   have h4:=aT (show aJ xs≤aJ ys-1 by omega)
   omega
  ·right;right
   refine ⟨by simp [mZ,h2],?_⟩
   have h1:=kC hx (by omega)
   have h3:=dP hy
   have h4:=aT (show aJ ys≤aJ xs-1 by omega)
   omega
theorem cmpL_zero {xs ys:List Int} (hx:AllW xs) (hy:AllW ys) (h:val xs=val ys):cmpL xs ys=0:=by
 rcases rV hx hy with h1|h1|h1 <;> omega
theorem bitsL_zero {xs:List Int} (hx:AllW xs) (h:val xs=0):rQ xs=0:=by
 unfold rQ;rw [if_pos ((fM hx).2 h)]
/-! ### sums -/
theorem mod_mul (s T:Int):(s%18446744073709551616)*T+s/18446744073709551616*(T*18446744073709551616)=s*T:=by
 have h:s=s%18446744073709551616+s/18446744073709551616*18446744073709551616:=by omega
 have e:s/18446744073709551616*(T*18446744073709551616)=s/18446744073709551616*18446744073709551616*T:=by
  rw [Int.mul_comm T,Int.mul_assoc]
 rw [e,← Int.add_mul,← h]
theorem yC {us ys:List Int} (o:Nat) (k N:Nat) (h:o+k≤N) (hl:o+k≤us.length):vS (dJ us o ys k).1 N+(dJ us o ys k).2*pw (o+k)=vS us N+pw o*vS ys k:=by
 induction k with
 | zero=>simp [dJ,vS]
 | succ k ih =>
  have ih:=ih (by omega) (by omega)
  simp only [dJ,vS]
  have hlen:(dJ us o ys k).1.length=us.length:=qG _ _ _ _
  generalize (dJ us o ys k).1=U at *
  generalize (dJ us o ys k).2=C at *
  rw [iR _ (by omega) (by omega),show o+(k+1)=(o+k)+1 by omega,cZ,Int.mul_add]
  have e1:=mod_mul (lm U (o+k)+lm ys k+C) (pw (o+k))
  have e2:pw o*(lm ys k*pw k)=lm ys k*pw (o+k):=by rw [gU,Int.mul_left_comm]
  rw [e2]
  rw [Int.sub_mul]
  rw [Int.add_mul,Int.add_mul] at e1
  generalize (lm U (o+k)+lm ys k+C)%18446744073709551616*pw (o+k)=A at *
  generalize (lm U (o+k)+lm ys k+C)/18446744073709551616*(pw (o+k)*18446744073709551616)=D at *
  omega
theorem vP (o n N:Nat):∀ (f:Nat) (u:List Int) (c:Int),f≤n→AllW u→0≤c→c≤1→o+n≤N→o+n≤u.length→AllW (rip o n f u c)∧∃ c',0≤c'∧c'≤1∧vS (rip o n f u c) N+c'*pw (o+n)=vS u N+c*pw (o+(n-f))
 | 0,u,c,_,hu,h0,h1,_,_=>⟨hu,c,h0,h1,by simp [rip]⟩
 | f+1,u,c,hf,hu,h0,h1,hN,hl=>by
  unfold rip
  split
  ·have a:=hu.at (o+(n-(f+1)))
   obtain ⟨h2,c',h3,h4,h5⟩:=vP o n N f (u.set (o+(n-(f+1))) ((lm u (o+(n-(f+1)))+c)%18446744073709551616)) ((lm u (o+(n-(f+1)))+c)/18446744073709551616) (by omega) (hu.set _ _ (gQ _)) (by omega) (by omega) hN (by simpa using hl)
   refine ⟨h2,c',h3,h4,?_⟩
   rw [h5,iR _ (by omega) (by omega),show o+(n-f)=(o+(n-(f+1)))+1 by omega,cZ]
   have e1:=mod_mul (lm u (o+(n-(f+1)))+c) (pw (o+(n-(f+1))))
   rw [Int.add_mul] at e1
   rw [Int.sub_mul]
   omega
  ·exact ⟨hu,0,by omega,by omega,by
    have:c=0:=by omega
    rw [this];simp⟩
theorem yD {us ys:List Int} {n:Nat} (hu:AllW us) (hy:AllW ys) (hn:n=us.length) (hle:ys.length≤n) (hb:val us+val ys<pw n):AllW (iQ us 0 n ys)∧val (iQ us 0 n ys)=val us+val ys:=by
 obtain ⟨a1,a2,a3,a4⟩:=vK 0 hu hy ys.length
 have e:=yC (us:=us) (ys:=ys) 0 ys.length n (by omega) (by omega)
 unfold iQ
 obtain ⟨h2,c',h3,h4,h5⟩:=vP 0 n n (n-ys.length) (dJ us 0 ys ys.length).1 (dJ us 0 ys ys.length).2 (by omega) a1 a3 a4 (by omega) (by omega)
 refine ⟨h2,?_⟩
 rw [show 0+(n-(n-ys.length))=0+ys.length by omega,e,jZ] at h5
 have hlen:(rip 0 n (n-ys.length) (dJ us 0 ys ys.length).1 (dJ us 0 ys ys.length).2).length=n:=by rw [nI,a2,hn]
 have e6:vS us n=val us:=by rw [hn];rfl
 have e7:vS ys ys.length=val ys:=rfl
 have e8:vS (rip 0 n (n-ys.length) (dJ us 0 ys ys.length).1 (dJ us 0 ys ys.length).2) n=val (rip 0 n (n-ys.length) (dJ us 0 ys ys.length).1 (dJ us 0 ys ys.length).2):=iG (by omega)
 rw [e6,e7,e8] at h5
 have hnn:=gX h2
 have hc:c'=0:=by
  rcases Int.lt_or_le 0 c' with h|h
  ·have:c'=1:=by omega
   rw [this,Nat.zero_add] at h5
   omega
  ·omega
 rw [hc] at h5
 omega
theorem nX (xs:List Int):val (xs++[0])=val xs:=by
 unfold val
 rw [List.length_append]
 show vS (xs++[0]) (xs.length+1)=_
 simp only [vS]
 rw [kT (Nat.le_refl _)]
 have:vS (xs++[0]) xs.length=vS xs xs.length:=fP fun i hi=>kV hi
 rw [this]
 simp [lm]
theorem addL_val {xs ys:List Int} (hx:AllW xs) (hy:AllW ys):AllW (nU xs ys)∧val (nU xs ys)=val xs+val ys:=by
 have bx:=dP hx
 have by':=dP hy
 unfold nU
 split
 ·rename_i h
  have hm:=aT (show aJ xs≤aJ ys by omega)
  have h0:=bG (aJ ys)
  have:=yD (us:=trimL ys++[0]) (ys:=trimL xs) (n:=aJ ys+1) (hy.trim.append (AllW.replicate 1)) hx.trim (by simp [aN]) (by rw [aN];omega) (by rw [nX,aV,aV,cZ];omega)
  rw [nX,aV,aV] at this
  exact ⟨this.1,by omega⟩
 ·rename_i h
  have hm:=aT (show aJ ys≤aJ xs by omega)
  have h0:=bG (aJ xs)
  have:=yD (us:=trimL xs++[0]) (ys:=trimL ys) (n:=aJ xs+1) (hx.trim.append (AllW.replicate 1)) hy.trim (by simp [aN]) (by rw [aN];omega) (by rw [nX,aV,aV,cZ];omega)
  rw [nX,aV,aV] at this
  exact this
theorem yE (xs ys:List Int):(nU xs ys).length≤xs.length+ys.length+1:=by
 have h1:aJ xs≤xs.length:=bQ _ _
 have h2:aJ ys≤ys.length:=bQ _ _
 unfold nU
 split <;> rw [jD,List.length_append,aN] <;> simp <;> omega
/-! ### differences -/
theorem qW (x y T:Int) (hx:0≤x) (hx':x<18446744073709551616) (hy:0≤y) (hy':y≤18446744073709551616):(x-y)%18446744073709551616*T-bor x y*(T*18446744073709551616)=(x-y)*T:=by
 unfold bor
 split
 ·have h:(x-y)%18446744073709551616=x-y+18446744073709551616:=by omega
  rw [h,Int.add_mul,Int.one_mul,Int.mul_comm T];omega
 ·have h:(x-y)%18446744073709551616=x-y:=by omega
  rw [h];omega
theorem yF {us ys:List Int} (hu:AllW us) (hy:AllW ys) (o:Nat) (k N:Nat) (h:o+k≤N) (hl:o+k≤us.length):vS (dR us o ys k).1 N-(dR us o ys k).2*pw (o+k)=vS us N-pw o*vS ys k:=by
 induction k with
 | zero=>simp [dR,vS]
 | succ k ih =>
  have ih:=ih (by omega) (by omega)
  obtain ⟨h1,h2,h3,h4⟩:=qR (us:=us) (ys:=ys) o hu k
  simp only [dR,vS]
  generalize (dR us o ys k).1=U at *
  generalize (dR us o ys k).2=C at *
  rw [iR _ (by omega) (by omega),show o+(k+1)=(o+k)+1 by omega,cZ,Int.mul_add]
  have a:=h1.at (o+k)
  have b:=hy.at k
  have e1:=qW (lm U (o+k)) (lm ys k+C) (pw (o+k)) a.1 a.2 (by omega) (by omega)
  have e2:pw o*(lm ys k*pw k)=lm ys k*pw (o+k):=by rw [gU,Int.mul_left_comm]
  rw [e2,Int.sub_mul]
  rw [show lm U (o+k)-(lm ys k+C)=lm U (o+k)-lm ys k-C by omega,Int.sub_mul,Int.sub_mul] at e1
  generalize (lm U (o+k)-lm ys k-C)%18446744073709551616*pw (o+k)=A at *
  generalize bor (lm U (o+k)) (lm ys k+C)*(pw (o+k)*18446744073709551616)=D at *
  omega
theorem vT (o n N:Nat):∀ (f:Nat) (u:List Int) (c:Int),f≤n→AllW u→0≤c→c≤1→o+n≤N→o+n≤u.length→AllW (sip o n f u c).1∧0≤(sip o n f u c).2∧(sip o n f u c).2≤1∧vS (sip o n f u c).1 N-(sip o n f u c).2*pw (o+n)=vS u N-c*pw (o+(n-f))
 | 0,u,c,_,hu,h0,h1,_,_=>⟨hu,h0,h1,by simp [sip]⟩
 | f+1,u,c,hf,hu,h0,h1,hN,hl=>by
  unfold sip
  split
  ·have a:=hu.at (o+(n-(f+1)))
   have hb:=pG (lm u (o+(n-(f+1)))) c
   obtain ⟨h2,h3,h4,h5⟩:=vT o n N f (u.set (o+(n-(f+1))) ((lm u (o+(n-(f+1)))-c)%18446744073709551616)) (bor (lm u (o+(n-(f+1)))) c) (by omega) (hu.set _ _ (gQ _)) hb.1 hb.2 hN (by simpa using hl)
   refine ⟨h2,h3,h4,?_⟩
   rw [h5,iR _ (by omega) (by omega),show o+(n-f)=(o+(n-(f+1)))+1 by omega,cZ]
   have e1:=qW (lm u (o+(n-(f+1)))) c (pw (o+(n-(f+1)))) a.1 a.2 h0 (by omega)
   rw [Int.sub_mul] at e1
   rw [Int.sub_mul]
   omega
  ·have:c=0:=by omega
   subst this
   exact ⟨hu,h0,h1,by simp⟩
theorem subF_val {us ys:List Int} {n:Nat} (hu:AllW us) (hy:AllW ys) (hn:n=us.length) (hle:ys.length≤n) (hb:val ys≤val us):(gJ us 0 n ys).2=0∧AllW (gJ us 0 n ys).1∧val (gJ us 0 n ys).1=val us-val ys:=by
 obtain ⟨a1,a2,a3,a4⟩:=qR (us:=us) (ys:=ys) 0 hu ys.length
 have e:=yF hu hy 0 ys.length n (by omega) (by omega)
 have hlen:(gJ us 0 n ys).1.length=n:=by rw [jE,hn]
 obtain ⟨h2,h3,h4,h5⟩:=vT 0 n n (n-ys.length) (dR us 0 ys ys.length).1 (dR us 0 ys ys.length).2 (by omega) a1 a3 a4 (by omega) (by omega)
 have hF:sip 0 n (n-ys.length) (dR us 0 ys ys.length).1 (dR us 0 ys ys.length).2=gJ us 0 n ys:=rfl
 rw [hF] at h2 h3 h4 h5
 rw [show 0+(n-(n-ys.length))=0+ys.length by omega,e,jZ] at h5
 have e6:vS us n=val us:=by rw [hn];rfl
 have e7:vS ys ys.length=val ys:=rfl
 have e8:vS (gJ us 0 n ys).1 n=val (gJ us 0 n ys).1:=iG (by omega)
 rw [e6,e7,e8] at h5
 have hlt:=gZ h2
 rw [hlen] at hlt
 have hc:(gJ us 0 n ys).2=0:=by
  rcases Int.lt_or_le 0 (gJ us 0 n ys).2 with h|h
  ·have:(gJ us 0 n ys).2=1:=by omega
   rw [this,Nat.zero_add] at h5
   omega
  ·omega
 rw [hc] at h5
 exact ⟨hc,h2,by omega⟩
theorem subL_val {xs ys:List Int} (hx:AllW xs) (hy:AllW ys) (h:val ys≤val xs):aJ ys≤aJ xs∧(gJ (trimL xs) 0 (aJ xs) (trimL ys)).2=0∧AllW (uH xs ys)∧val (uH xs ys)=val xs-val ys:=by
 have hle:=pK hy hx h
 have:=subF_val (us:=trimL xs) (ys:=trimL ys) (n:=aJ xs) hx.trim hy.trim (aN xs).symm (by rw [aN];exact hle) (by rw [aV,aV];exact h)
 rw [aV,aV] at this
 exact ⟨hle,this⟩
theorem yG (xs ys:List Int):(uH xs ys).length=aJ xs:=by unfold uH;rw [jE,aN]
/-! ### products -/
theorem mulR_val {us ys:List Int} (o:Nat) (l:Int) (k N:Nat) (h:o+k≤N) (hl:o+k≤us.length):(eG us o ys l k).1.length=us.length∧vS (eG us o ys l k).1 N+(eG us o ys l k).2*pw (o+k)=vS us N+pw o*(vS ys k*l):=by
 induction k with
 | zero=>simp [eG,vS]
 | succ k ih =>
  obtain ⟨hlen,ih⟩:=ih (by omega) (by omega)
  simp only [eG,vS]
  generalize (eG us o ys l k).1=U at *
  generalize (eG us o ys l k).2=C at *
  refine ⟨by simp [hlen],?_⟩
  rw [iR _ (by omega) (by omega),show o+(k+1)=(o+k)+1 by omega,cZ,Int.add_mul (vS ys k),Int.mul_add]
  have e1:=mod_mul (lm U (o+k)+lm ys k*l+C) (pw (o+k))
  have e2:pw o*(lm ys k*pw k*l)=lm ys k*l*pw (o+k):=by
   rw [gU,Int.mul_right_comm (lm ys k),Int.mul_left_comm]
  rw [e2,Int.sub_mul]
  rw [Int.add_mul,Int.add_mul] at e1
  generalize (lm U (o+k)+lm ys k*l+C)%18446744073709551616*pw (o+k)=A at *
  generalize (lm U (o+k)+lm ys k*l+C)/18446744073709551616*(pw (o+k)*18446744073709551616)=D at *
  omega
theorem mulR_far {us ys:List Int} (o:Nat) (l:Int) (k i:Nat) (h:o+k≤i):lm (eG us o ys l k).1 i=lm us i:=by
 induction k with
 | zero=>rfl
 | succ k ih=>simp only [eG];rw [bT,if_neg (by omega),ih (by omega)]
theorem mulO_val {xs ys:List Int} (hx:AllW xs) (hy:AllW ys) (N k:Nat) (h:k+ys.length≤N):(∀ i,k+ys.length≤i→lm (iU xs ys N k) i=0)∧vS (iU xs ys N k) N=vS xs k*val ys:=by
 induction k with
 | zero =>
  refine ⟨fun i _=>by simp only [iU];rw [bZ],?_⟩
  simp only [iU,vS,Int.zero_mul]
  have:=mG (us:=List.replicate N 0) (m:=0) (n:=N) (by omega) (fun i _ _=>bZ N i)
  rw [this];rfl
 | succ k ih =>
  obtain ⟨ih1,ih2⟩:=ih (by omega)
  obtain ⟨ok1,ok2⟩:=qU N hx hy k
  obtain ⟨hlen,hv⟩:=mulR_val (us:=iU xs ys N k) (ys:=ys) k (lm xs k) ys.length N (by omega) (by omega)
  have hfar:=mulR_far (us:=iU xs ys N k) (ys:=ys) k (lm xs k) ys.length
  simp only [iU,vS]
  generalize iU xs ys N k=U at *
  generalize (eG U k ys (lm xs k) ys.length).1=V at *
  generalize (eG U k ys (lm xs k) ys.length).2=C at *
  constructor
  ·intro i hi
   rw [bT,if_neg (by omega),hfar i (by omega),ih1 i (by omega)]
  ·rw [iR _ (by omega) (by omega),hfar (k+ys.length) (Nat.le_refl _),ih1 (k+ys.length) (Nat.le_refl _),Int.add_mul]
   have e:pw k*(vS ys ys.length*lm xs k)=lm xs k*pw k*val ys:=by
    show pw k*(val ys*lm xs k)=_
    rw [Int.mul_comm (val ys),← Int.mul_assoc,Int.mul_comm (pw k)]
   rw [e,ih2] at hv
   rw [show C-0=C by omega]
   omega
theorem mulL_val {xs ys:List Int} (hx:AllW xs) (hy:AllW ys):AllW (mulL xs ys)∧val (mulL xs ys)=val xs*val ys:=by
 obtain ⟨h1,h2⟩:=qU (xs:=trimL xs) (ys:=trimL ys) (aJ xs+aJ ys) hx.trim hy.trim (aJ xs)
 refine ⟨h1,?_⟩
 have:=(mulO_val hx.trim hy.trim (aJ xs+aJ ys) (aJ xs) (by rw [aN];omega)).2
 have e1:vS (trimL xs) (aJ xs)=val xs:=by
  rw [← jF xs];exact fP fun i hi=>rU hi
 rw [e1,aV] at this
 rw [← this]
 exact (iG (by show (iU _ _ _ _).length≤_;omega)).symm
theorem yH (xs ys:List Int) (hx:AllW xs) (hy:AllW ys):(mulL xs ys).length=aJ xs+aJ ys:=(qU (xs:=trimL xs) (ys:=trimL ys) (aJ xs+aJ ys) hx.trim hy.trim (aJ xs)).2
def Num (w:World) (a:Option Addr) (n cap:Nat) (x:Int) (S:Nat):Prop:=∃ xs,n=xs.length∧n≤cap∧Reads w a xs∧AllW xs∧val xs=x∧n≤S
theorem Num.below {w w':World} {a:Option Addr} {n cap:Nat} {x:Int} {S:Nat} (h:Num w a n cap x S) (hb:Below w.heap.size w w'):Num w' a n cap x S:=by
 obtain ⟨xs,h1,h2,h3,h4⟩:=h
 exact ⟨xs,h1,h2,h3.below hb,h4⟩
theorem Num.drewN {w:World} {a:Option Addr} {n cap:Nat} {x:Int} {S:Nat} (h:Num w a n cap x S) (m:Nat):Num (w.drewN m) a n cap x S:=by
 obtain ⟨xs,h1,h2,h3,h4⟩:=h
 exact ⟨xs,h1,h2,h3.drewN m,h4⟩
theorem Num.nn {w:World} {a:Option Addr} {n cap:Nat} {x:Int} {S:Nat} (h:Num w a n cap x S):0≤x:=by
 obtain ⟨xs,_,_,_,h4,h5,_⟩:=h
 rw [← h5];exact gX h4
theorem cmpV {a b:Option Addr} {na nb ca cb:Nat} {x y:Int} {S R:Nat} (w:World) (ha:Num w a na ca x S) (hb:Num w b nb cb y R) (hS:S≤1000000000000) (hR:R≤1000000000000) :
 Calls Tryz.prog 65 #[.slice a na ca,.slice b nb cb] w fun e w'=>∃ c:Int,e = .returned (.int .i64 c)∧((c=0∧x=y)∨(c = -1∧x<y)∨(c=1∧y<x))∧∃ m,w'=w.drewN m:=by
 obtain ⟨xs,a1,a2,a3,a4,a5,a6⟩:=ha
 obtain ⟨ys,b1,b2,b3,b4,b5,b6⟩:=hb
 refine (cmp_any a b na nb ca cb xs ys w a1 b1 a2 b2 (by omega) (by omega) a3 b3).mono ?_
 rintro e w' ⟨rfl,m,rfl⟩
 refine ⟨_,rfl,?_,m,rfl⟩
 have:=rV a4 b4
 rw [a5,b5] at this
 exact this
def OwnV (w:World) (B:Nat) (v:Value) (xs:List Int):Prop:=w.ownsRow B 118 1 v xs.length (xs.map (Value.int .u64))
def Row (w:World) (g cap:Nat) (xs:List Int):Prop :=
 ∃ cur:Array Value,w.heap[g]? = some (.cells cur 118 (0,0))∧xs.length≤cap∧cap≤maxLen∧cur.size=cap∧cur.toList.take xs.length=xs.map (Value.int .u64)
theorem OwnV.nil (w:World) (B:Nat):OwnV w B (.slice none 0 0) []:=World.ownsRow_nil _ _ _ _
theorem OwnV.row {w:World} {B:Nat} {v:Value} {xs:List Int} (h:OwnV w B v xs):(v = .slice none 0 0∧xs=[])∨∃ g cap,v = .slice (some ⟨g,0,none⟩) xs.length cap∧B≤g∧Row w g cap xs:=by
 rcases h.2 with ⟨h1,h2⟩|⟨g,cap,cur,h1,h2,h3,h4,h5,h6,h7⟩
 ·exact .inl ⟨h1,List.eq_nil_of_length_eq_zero h2⟩
 ·exact .inr ⟨g,cap,h1,h2,cur,h3,h4,h5,by omega,by simpa using h7⟩
theorem Row.own {w:World} {B g cap:Nat} {xs:List Int} (h:Row w g cap xs) (hB:B≤g):OwnV w B (.slice (some ⟨g,0,none⟩) xs.length cap) xs:=by
 obtain ⟨cur,h1,h2,h3,h4,h5⟩:=h
 exact ⟨by simp,.inr ⟨g,cap,cur,rfl,hB,h1,h2,h3,by omega,by simpa using h5⟩⟩
theorem Blk.row {w:World} {g:Nat} {us:List Int} (h:Blk w g us) (n:Nat) (hm:us.length≤maxLen):Row w g us.length (us.take n) :=
 ⟨_,h,by simp;omega,hm,by simp,by simp [List.map_take]⟩
theorem Row.lt {w:World} {g cap:Nat} {xs:List Int} (h:Row w g cap xs):g<w.heap.size:=by
 obtain ⟨cur,h1,_⟩:=h;exact (Array.getElem?_eq_some_iff.1 h1).1
theorem Row.le {w:World} {g cap:Nat} {xs:List Int} (h:Row w g cap xs):xs.length≤cap:=by
 obtain ⟨cur,_,h2,_⟩:=h;exact h2
theorem Row.cell {w:World} {g cap:Nat} {xs:List Int} (h:Row w g cap xs) {i:Nat} (hi:i<xs.length):w.cell? ⟨g,i,none⟩=some (.int .u64 (lm xs i)):=by
 obtain ⟨cur,h1,h2,h3,h4,h5⟩:=h
 have e:cur[i]? = some (.int .u64 (lm xs i)):=by
  have:=congrArg (fun l=>l[i]?) h5
  simp only [List.getElem?_take_of_lt hi,List.getElem?_map,qF hi] at this
  simpa using this
 simp [World.cell?,h1,e]
theorem Row.of_block {w w':World} {g cap:Nat} {xs:List Int} (h:Row w g cap xs) (hb:w'.heap[g]? = w.heap[g]?):Row w' g cap xs:=by
 obtain ⟨cur,h1,h2⟩:=h
 exact ⟨cur,by rw [hb];exact h1,h2⟩
theorem Row.below {w w':World} {g cap B:Nat} {xs:List Int} (h:Row w g cap xs) (hb:Below B w w') (hg:g<B):Row w' g cap xs:=h.of_block (hb.block g hg)
theorem Row.belowAll {w w':World} {g cap:Nat} {xs:List Int} (h:Row w g cap xs) (hb:Below w.heap.size w w'):Row w' g cap xs:=h.below hb h.lt
theorem Row.reads {w:World} {g cap:Nat} {xs:List Int} (h:Row w g cap xs):Reads w (some ⟨g,0,none⟩) xs :=
 .inr ⟨g,0,rfl,fun i hi=>by rw [Nat.zero_add];exact h.cell hi⟩
theorem OwnV.reads {w:World} {B:Nat} {a:Option Addr} {n cap:Nat} {xs:List Int} (h:OwnV w B (.slice a n cap) xs):n=xs.length∧n≤cap∧Reads w a xs:=by
 rcases h.row with ⟨h1,h2⟩|⟨g,c,h1,_,h3⟩
 ·cases h1;subst h2;exact ⟨rfl,Nat.le_refl _,.inl rfl⟩
 ·cases h1;exact ⟨rfl,h3.le,h3.reads⟩
theorem OwnV.slice {w:World} {B:Nat} {v:Value} {xs:List Int} (h:OwnV w B v xs):∃ a cap,v = .slice a xs.length cap:=by
 rcases h.row with ⟨h1,h2⟩|⟨g,c,h1,_,_⟩
 ·subst h2;exact ⟨none,0,h1⟩
 ·exact ⟨_,_,h1⟩
theorem OwnV.drew {w:World} {B:Nat} {v:Value} {xs:List Int} (h:OwnV w B v xs):OwnV w.drew B v xs:=h
theorem OwnV.below {w w':World} {B:Nat} {v:Value} {xs:List Int} (h:OwnV w B v xs) (hb:Below w.heap.size w w'):OwnV w' B v xs:=by
 rcases h.row with ⟨h1,h2⟩|⟨g,c,h1,h2,h3⟩
 ·subst h1 h2;exact OwnV.nil _ _
 ·subst h1;exact (h3.belowAll hb).own h2
theorem OwnV.mono {w:World} {B B':Nat} {v:Value} {xs:List Int} (h:OwnV w B v xs) (hB:B'≤B):OwnV w B' v xs:=by
 rcases h.row with ⟨h1,h2⟩|⟨g,c,h1,h2,h3⟩
 ·subst h1 h2;exact OwnV.nil _ _
 ·subst h1;exact h3.own (by omega)
theorem nZ {w:World} {B:Nat} {v:Value} {xs:List Int} {n:Nat} (h:OwnV w B v xs) (hn:xs.length=n):∃ a cap,v = .slice a n cap:=by
 subst hn;exact h.slice
theorem grown_below {B:Nat} {w w':World} {row:Option Nat} (hg:w.grownBy w' row) (hB:B≤w.heap.size) (hr:∀ k,row=some k→B≤k):Below B w w':=(Below.refl _ _).grown hg hB hr
theorem OwnV.alloc {w:World} {B:Nat} {v:Value} {xs:List Int} (h:OwnV w B v xs) (o:Obj):OwnV (w.alloc o) B v xs:=World.ownsRow.alloc h o
theorem OwnV.lt {w:World} {B:Nat} {v:Value} {xs:List Int} (h:OwnV w B v xs):∀ k,v.ownBlock=some k→B≤k∧k<w.heap.size:=World.ownsRow.lt h
theorem cell_new1 {w:World} {h:Nat} {v:Value} {t:TypeId} (hh:h=w.heap.size):(w.alloc (.cells #[v] t)).cell? ⟨h,0,none⟩=some v:=by subst hh;simp
theorem oC (xs:List Int) (k:Nat) (h:k<xs.length):xs.take k++[lm xs k]=xs.take (k+1):=by
 rw [List.take_succ_eq_append_getElem h]
 simp [lm,List.getElem?_eq_getElem h]
theorem dG (t:TypeId) (ht:Tryz.prog.underlying t=some (.slice 118)) (w:World) {ops:Array Oper} {rest:List Oper} {o:Oper} {a:Act} {Q:Exit→Act→World→Prop} (hgd:o.guard=none) (s x:Operand)
 (ho:o.op = .call { callee:=.builtin .append,args:=#[s,x],argTypes:=#[t,t] }) (B:Nat) (v:Value) (xs:List Int) (n:Nat) (hn:Hid (xs.length=n)) (hs:a.eval s=v) (hown:OwnV w B v xs) (h:Nat) (c:Nat) (z:Int) (hx:a.eval x = .slice (some ⟨h,0,none⟩) 1 c)
 (hc:w.cell? ⟨h,0,none⟩=some (.int .u64 z)) (hlen:n≤1000000000000) (hB:B≤w.heap.size) (H:Nat) (hH:w.heap.size=H)
 (hK:∀ g cap w',OwnV w' B (.slice (some ⟨g,0,none⟩) (n+1) cap) (xs++[z])→w.grownBy w' v.ownBlock→(v.ownBlock=some g∨g=H)→g<w'.heap.size→wpList Tryz.prog ops Q rest (a.put o.dst (.slice (some ⟨g,0,none⟩) (n+1) cap)) w') :
 wpList Tryz.prog ops Q (o::rest) a w:=by
 obtain rfl:=hn.out
 obtain ⟨i0,hi,hz0,hz1,hz2⟩:=info_parts Tryz.infoU64
 refine wpList_append_lies w hgd s x t ho B 118 i0 (.int .u64 0) 1 8 ht hi hz0 hz1 hz2 rfl (by decide) v xs.length (xs.map (Value.int .u64)) hs hown ⟨h,0,none⟩ 1 c [.int .u64 z] hx rfl ?_ (fun u hu=>by simp at hu;subst hu;rfl) (by decide) (by unfold maxLen;omega) (by omega) hB H hH ?_
 ·intro j u hj
  match j,hj with
  | 0,hj=>simp at hj;subst hj;simpa [Addr.add] using hc
 ·intro g cap w' h1 h2 h3 h4
  refine hK g cap w' ?_ h2 h3 h4
  unfold OwnV
  simpa using h1
theorem vU (t:TypeId) (ht:Tryz.prog.underlying t=some (.slice 118)) (w:World) {ops:Array Oper} {o:Oper} {a:Act} {K:Act→World→Prop} {Q:Exit→Act→World→Prop} {E:Prop} (hgd:o.guard=none) (s x:Operand)
 (ho:o.op = .call { callee:=.builtin .append,args:=#[s,x],argTypes:=#[t,t] }) (B:Nat) (v:Value) (xs:List Int) (n:Nat) (hn:Hid (xs.length=n)) (hs:a.eval s=v) (hown:OwnV w B v xs) (h:Nat) (c:Nat) (y z:Int) (hx:a.eval x = .slice (some ⟨h,0,none⟩) 2 c)
 (hc0:w.cell? ⟨h,0,none⟩=some (.int .u64 y)) (hc:w.cell? ⟨h,1,none⟩=some (.int .u64 z)) (hlen:n≤1000000000000) (hB:B≤w.heap.size) (H:Nat) (hH:w.heap.size=H)
 (hK:∀ g cap w',OwnV w' B (.slice (some ⟨g,0,none⟩) (n+2) cap) (xs++[y,z])→w.grownBy w' v.ownBlock→(v.ownBlock=some g∨g=H)→g<w'.heap.size→K (a.put o.dst (.slice (some ⟨g,0,none⟩) (n+2) cap)) w') :
 if Region.wanted o (yielded ops a.tmps)=true then Oper.wp Tryz.prog o a w K Q else E:=by
 obtain rfl:=hn.out
 obtain ⟨i0,hi,hz0,hz1,hz2⟩:=info_parts Tryz.infoU64
 refine step_append_lies w hgd s x t ho B 118 i0 (.int .u64 0) 1 8 ht hi hz0 hz1 hz2 rfl (by decide) v xs.length (xs.map (Value.int .u64)) hs hown ⟨h,0,none⟩ 2 c [.int .u64 y,.int .u64 z] hx rfl ?_ (fun u hu=>by simp at hu;rcases hu with rfl|rfl <;> rfl) (by decide) (by unfold maxLen;omega) (by omega) hB H hH ?_
 ·intro j u hj
  match j,hj with
  | 0,hj=>simp at hj;subst hj;simpa [Addr.add] using hc0
  | 1,hj=>simp at hj;subst hj;simpa [Addr.add] using hc
 ·intro g cap w' h1 h2 h3 h4
  refine hK g cap w' ?_ h2 h3 h4
  unfold OwnV
  simpa using h1
def NF (xs:List Int):Prop:=AllW xs∧aJ xs=xs.length
theorem NF.trimL {xs:List Int} (h:AllW xs):NF (trimL xs):=⟨h.trim,by rw [fC,aN]⟩
theorem NF.nil:NF []:=⟨AllW.nil,rfl⟩
theorem nf_unique {xs ys:List Int} (hx:NF xs) (hy:NF ys) (h:val xs=val ys):xs=ys:=by
 have h1:=pK hx.1 hy.1 (by omega)
 have h2:=pK hy.1 hx.1 (by omega)
 have hl:xs.length=ys.length:=by have:=hx.2;have:=hy.2;omega
 have hc:=cmpL_zero hx.1 hy.1 h
 unfold cmpL at hc
 rw [if_pos (by omega)] at hc
 have key:∀ k,dF xs ys k=0→∀ i,i<k→lm xs i=lm ys i:=by
  intro k
  induction k with
  | zero=>intro _ i hi;omega
  | succ k ih =>
   intro hk i hi
   by_cases e:lm xs k=lm ys k
   ·rw [kW e] at hk
    rcases Nat.lt_or_ge i k with h3|h3
    ·exact ih hk i h3
    ·obtain rfl:i=k:=by omega
     exact e
   ·rw [jL e] at hk
    unfold mZ at hk
    split at hk <;> omega
 apply List.ext_getElem hl
 intro i h3 h4
 have:=key (aJ xs) hc i (by rw [hx.2];exact h3)
 have e1:=qF h3
 have e2:=qF h4
 rw [List.getElem?_eq_getElem h3] at e1
 rw [List.getElem?_eq_getElem h4] at e2
 rw [this] at e1
 rw [Option.some.injEq] at e1 e2
 rw [e1,e2]
def Got (w:World) (B:Nat) (v:Value) (x:Int) (S:Nat):Prop:=∃ xs,OwnV w B v xs∧NF xs∧val xs=x∧xs.length≤S
theorem Got.below {w w':World} {B:Nat} {v:Value} {x:Int} {S:Nat} (h:Got w B v x S) (hb:Below w.heap.size w w'):Got w' B v x S:=by
 obtain ⟨xs,h1,h2⟩:=h;exact ⟨xs,h1.below hb,h2⟩
theorem Got.mono {w:World} {B B':Nat} {v:Value} {x:Int} {S:Nat} (h:Got w B v x S) (hB:B'≤B):Got w B' v x S:=by
 obtain ⟨xs,h1,h2⟩:=h;exact ⟨xs,h1.mono hB,h2⟩
theorem Got.le {w:World} {B:Nat} {v:Value} {x:Int} {S S':Nat} (h:Got w B v x S) (hS:S≤S'):Got w B v x S':=by
 obtain ⟨xs,h1,h2,h3,h4⟩:=h;exact ⟨xs,h1,h2,h3,by omega⟩
theorem Got.nil (w:World) (B:Nat):Got w B (.slice none 0 0) 0 0:=⟨[],OwnV.nil _ _,NF.nil,rfl,Nat.le_refl _⟩
theorem Got.num {w:World} {B:Nat} {a:Option Addr} {n cap:Nat} {x:Int} {S:Nat} (h:Got w B (.slice a n cap) x S):Num w a n cap x S:=by
 obtain ⟨xs,h1,h2,h3,h4⟩:=h
 obtain ⟨r1,r2,r3⟩:=h1.reads
 exact ⟨xs,r1,r2,r3,h2.1,h3,by omega⟩
theorem Got.lt {w:World} {B:Nat} {v:Value} {x:Int} {S:Nat} (h:Got w B v x S):∀ k,v.ownBlock=some k→B≤k∧k<w.heap.size:=by
 obtain ⟨xs,h1,_⟩:=h;exact h1.lt
theorem fD {w:World} {g B:Nat} {us:List Int} (h:Blk w g us) (hu:AllW us) (hB:B≤g) (cap:Nat) (hc:cap=us.length) {S:Nat} (hS:us.length≤S) (hm:us.length≤1000000000000):Got w B (.slice (some ⟨g,0,none⟩) (aJ us) cap) (val us) S:=by
 subst hc
 have hle:aJ us≤us.length:=bQ _ _
 have h1:=h.row (aJ us) (by unfold maxLen;omega)
 have h2:=h1.own hB
 have e:(us.take (aJ us)).length=aJ us:=by rw [List.length_take];omega
 rw [e] at h2
 exact ⟨trimL us,h2,NF.trimL hu,aV us,by rw [aN];omega⟩
theorem addG {a b:Option Addr} {na nb ca cb:Nat} {x y:Int} {S R:Nat} (w:World) (ha:Num w a na ca x S) (hb:Num w b nb cb y R) (hS:S≤100000000000) (hR:R≤100000000000) :
 Calls Tryz.prog 115 #[.slice a na ca,.slice b nb cb] w fun e w'=>∃ c nc cc,e = .returned (.slice c nc cc)∧Got w' w.heap.size (.slice c nc cc) (x+y) (S+R+1)∧Below w.heap.size w w':=by
 obtain ⟨xs,a1,a2,a3,a4,a5,a6⟩:=ha
 obtain ⟨ys,b1,b2,b3,b4,b5,b6⟩:=hb
 refine (add_any a b na nb ca cb xs ys w a1 b1 a2 b2 (by omega) (by omega) a3 b3 a4 b4).mono ?_
 rintro e w' ⟨g,rfl,hg,hbk,hbel⟩
 obtain ⟨v1,v2⟩:=addL_val a4 b4
 have hl:=yE xs ys
 refine ⟨_,_,_,rfl,?_,hbel⟩
 rw [← a5,← b5,← v2]
 exact fD hbk v1 hg _ rfl (by omega) (by omega)
theorem mulG {a b:Option Addr} {na nb ca cb:Nat} {x y:Int} {S R:Nat} (w:World) (ha:Num w a na ca x S) (hb:Num w b nb cb y R) (hS:S≤100000000000) (hR:R≤100000000000) :
 Calls Tryz.prog 67 #[.slice a na ca,.slice b nb cb] w fun e w'=>∃ c nc cc,e = .returned (.slice c nc cc)∧Got w' w.heap.size (.slice c nc cc) (x*y) (S+R)∧Below w.heap.size w w':=by
 obtain ⟨xs,a1,a2,a3,a4,a5,a6⟩:=ha
 obtain ⟨ys,b1,b2,b3,b4,b5,b6⟩:=hb
 refine (mul_any a b na nb ca cb xs ys w a1 b1 a2 b2 (by omega) (by omega) a3 b3 a4 b4).mono ?_
 rintro e w' ⟨g,rfl,hg,hbk,hbel⟩
 obtain ⟨v1,v2⟩:=mulL_val a4 b4
 have hl:=yH xs ys a4 b4
 have t1:aJ xs≤xs.length:=bQ _ _
 have t2:aJ ys≤ys.length:=bQ _ _
 refine ⟨_,_,_,rfl,?_,hbel⟩
 rw [← a5,← b5,← v2]
 exact fD hbk v1 hg _ rfl (by omega) (by omega)
theorem Got.shrink {w:World} {B:Nat} {v:Value} {x:Int} {S m:Nat} (h:Got w B v x S) (hx:x<pw m):Got w B v x m:=by
 obtain ⟨xs,h1,h2,h3,h4⟩:=h
 refine ⟨xs,h1,h2,h3,?_⟩
 rcases Nat.lt_or_ge m xs.length with h5|h5
 ·have h6:=kC h2.1 (by rw [h2.2];omega)
  have h7:=aT (a:=m) (b:=aJ xs-1) (by rw [h2.2];omega)
  omega
 ·exact h5
theorem Got.val {w:World} {B:Nat} {v:Value} {x y:Int} {S:Nat} (h:Got w B v x S) (e:x=y):Got w B v y S:=e ▸ h
theorem ofG (v:Int) (w:World) (h0:0≤v) (h1:v<18446744073709551616) :
 Calls Tryz.prog 87 #[.int .u64 v] w fun e w'=>∃ a n cap,e = .returned (.slice a n cap)∧Got w' w.heap.size (.slice a n cap) v 1∧Below w.heap.size w w':=by
 have hw:AllW [v]:=fun x hx=>by simp at hx;subst hx;exact ⟨h0,h1⟩
 have ev:Go.Proofs.YtmeimjakdheidaaGreatDoor.val [v]=v:=by simp [Go.Proofs.YtmeimjakdheidaaGreatDoor.val,vS,lm,pw]
 by_cases hv:v=0
 ·subst hv
  go_enter Tryz.func87,Tryz.ntmps87
  go_wp2
  go_ret
  exact ⟨none,0,0,rfl,(Got.nil _ _).le (by omega),Below.refl _ _⟩
 ·have t1:(v == 0)=false:=by simpa using hv
  go_enter Tryz.func87,Tryz.ntmps87
  go_wp2
  go_ret
  have e1:aJ [v]=1:=by simp [aJ,tl,lm,hv]
  have hbk:Blk (w.alloc (Obj.cells #[Value.int IntKind.u64 v] 118)) w.heap.size [v]:=qV [v]
  have G:=fD hbk hw (Nat.le_refl _) 1 rfl (S:=1) (by simp) (by simp)
  rw [e1,ev] at G
  exact ⟨some ⟨w.heap.size,0,none⟩,1,1,rfl,G,(Below.refl _ _).alloc (Nat.le_refl _) _⟩
theorem sub_any (a b:Option Addr) (na nb ca cb:Nat) (xs ys:List Int) (w:World) (hna:na=xs.length) (hnb:nb=ys.length) (hla:na≤ca) (hlb:nb≤cb)
 (hma:na≤1000000000000) (hmb:nb≤1000000000000) (hra:Reads w a xs) (hrb:Reads w b ys) (hx:AllW xs) (hy:AllW ys) (hc:0≤cmpL xs ys) (hle:aJ ys≤aJ xs) (hlast:(gJ (trimL xs) 0 (aJ xs) (trimL ys)).2=0) :
 Calls Tryz.prog 116 #[.slice a na ca,.slice b nb cb] w fun e w'=>∃ g,e = .returned (.tuple #[.slice (some ⟨g,0,none⟩) (aJ (uH xs ys)) (aJ xs),.nilIface])∧w.heap.size≤g∧Blk w' g (uH xs ys)∧Below w.heap.size w w':=by
 have ta:aJ xs≤xs.length:=bQ _ _
 have tb:aJ ys≤ys.length:=bQ _ _
 subst hna hnb
 have HLAST:Hid ((gJ (trimL xs) 0 (aJ xs) (trimL ys)).2=0):=hlast
 clear hlast
 go_enter Tryz.func116,Tryz.ntmps116
 go_wp2_with fail
 refine (cmp_any a b _ _ ca cb xs ys _ rfl rfl hla hlb (by omega) (by omega) hra hrb).mono ?_
 rintro e w1 ⟨rfl,m,rfl⟩
 go_wp2_with fail
 refine (jM a _ ca xs _ rfl hla (by omega) (hra.drewN m)).mono ?_
 rintro e w1 ⟨g,rfl,hg,hb1,hbel1⟩
 have hbel:Below w.heap.size w w1:=(dQ (Below.refl _ w) m).trans hbel1
 have hg':w.heap.size≤g:=hg
 clear hg hbel1
 go_wp2_with fail
 refine (bW b _ cb ys _ rfl hlb (by omega) (hrb.below hbel)).mono ?_
 rintro e w2 ⟨rfl,rfl⟩
 go_wp2_with fail
 refine (nV g 0 (aJ xs) _ (trimL xs) b (aJ ys) cb (trimL ys) w1 hb1 (by rw [aN];omega) (by rw [aN];omega) (hx.take _) (aN ys).symm hle ((hrb.below hbel).take _) (fun hne p hp=>?haw) (hy.take _) HLAST.out).mono ?_
 case haw=>have:=(hrb.take (aJ ys)).lt hne p hp;omega
 rintro e w3 ⟨rfl,hb3,hoff⟩
 have hbel3:Below w.heap.size w w3:=hbel.trans (hoff.below hg')
 have HL:Hid ((uH xs ys).length=aJ xs):=by show _=_;unfold uH;rw [jE,aN]
 have hb4:Blk w3 g (uH xs ys):=hb3
 clear hb3 hoff hb1 hbel
 go_wp2_with fail
 refine (bW (some ⟨g,0,none⟩) (aJ xs) (aJ xs) (uH xs ys) w3 HL.out.symm (Nat.le_refl _) (by omega) hb4.reads').mono ?_
 rintro e w4 ⟨rfl,rfl⟩
 go_wp2
 go_ret2
 exact ⟨g,rfl,hg',hb4,hbel3⟩
theorem subG {a b:Option Addr} {na nb ca cb:Nat} {x y:Int} {S R:Nat} (w:World) (ha:Num w a na ca x S) (hb:Num w b nb cb y R) (hS:S≤100000000000) (hR:R≤100000000000) (hxy:y≤x) :
 Calls Tryz.prog 116 #[.slice a na ca,.slice b nb cb] w fun e w'=>∃ c nc cc,e = .returned (.tuple #[.slice c nc cc,.nilIface])∧Got w' w.heap.size (.slice c nc cc) (x-y) S∧Below w.heap.size w w':=by
 obtain ⟨xs,a1,a2,a3,a4,a5,a6⟩:=ha
 obtain ⟨ys,b1,b2,b3,b4,b5,b6⟩:=hb
 obtain ⟨s1,s2,s3,s4⟩:=subL_val a4 b4 (by omega)
 have hc:0≤cmpL xs ys:=by rcases rV a4 b4 with h|h|h <;> omega
 refine (sub_any a b na nb ca cb xs ys w a1 b1 a2 b2 (by omega) (by omega) a3 b3 a4 b4 hc s1 s2).mono ?_
 rintro e w' ⟨g,rfl,hg,hbk,hbel⟩
 have t1:aJ xs≤xs.length:=bQ _ _
 have hl:=yG xs ys
 refine ⟨_,_,_,rfl,?_,hbel⟩
 rw [← a5,← b5,← s4]
 exact fD hbk s3 hg _ hl.symm (by omega) (by omega)
end Go.Proofs.YtmeimjakdheidaaGreatDoor
