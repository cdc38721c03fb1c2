import Derived.Test.YtceigfafmalfgaaGreatDoorSumAll
import Derived.Deep.AppendLies
namespace Go.Proofs.YtceigfafmalfgaaGreatDoor
open Go.RowKit
theorem bel_tr {w W w1:World} (h:Below w.heap.size w W) (k:Below W.heap.size W w1):Below w.heap.size w w1:=h.trans (k.mono h.size)
theorem blk_new {w:World} (us:List Int):Blk (w.alloc (.cells (us.map (Value.int .u64)).toArray 57)) w.heap.size us:=by
 unfold Blk;rw [heap_alloc_new]
/-! ### What the limbs are worth -/
def pw (k:Nat):Int:=18446744073709551616^k
theorem pw_zero:pw 0=1:=rfl
theorem pw_succ (k:Nat):pw (k+1)=pw k*18446744073709551616:=Int.pow_succ _ _
theorem pw_pos (k:Nat):0<pw k:=Int.pow_pos (by decide)
theorem pw_add (a b:Nat):pw (a+b)=pw a*pw b:=Int.pow_add _ _ _
theorem pw_mono {a b:Nat} (h:a≤b):pw a≤pw b:=by
 obtain ⟨c,rfl⟩:∃ c,b=a+c:=⟨b-a,by omega⟩
 rw [pw_add]
 have h1:=pw_pos c
 have h2:=pw_pos a
 have:=Int.mul_le_mul_of_nonneg_left (a:=1) (b:=pw c) (c:=pw a) (by omega) (by omega)
 omega
def vS (us:List Int):Nat→Int
 | 0=>0
 | n+1=>vS us n+lm us n*pw n
def val (us:List Int):Int:=vS us us.length
theorem vS_congr {us vs:List Int} {n:Nat} (h:∀ i,i<n→lm us i=lm vs i):vS us n=vS vs n:=by
 induction n with
 | zero=>rfl
 | succ n ih=>simp only [vS];rw [ih (fun i hi=>h i (by omega)),h n (by omega)]
theorem vS_set_ge {us:List Int} {n i:Nat} {z:Int} (h:n≤i):vS (us.set i z) n=vS us n :=
 vS_congr fun j hj=>by rw [lm_set,if_neg (by omega)]
theorem vS_set {us:List Int} {n i:Nat} (z:Int) (h:i<n) (hl:i<us.length):vS (us.set i z) n=vS us n+(z-lm us i)*pw i:=by
 induction n with
 | zero=>omega
 | succ n ih =>
  simp only [vS]
  rcases Nat.lt_or_ge i n with h1|h1
  ·rw [ih h1,lm_set,if_neg (by omega)];omega
  ·obtain rfl:i=n:=by omega
   rw [vS_set_ge (Nat.le_refl _),lm_set,if_pos ⟨rfl,hl⟩,Int.sub_mul];omega
theorem vS_tail {us:List Int} {m n:Nat} (hmn:m≤n) (h:∀ i,m≤i→i<n→lm us i=0):vS us n=vS us m:=by
 induction n with
 | zero =>
  obtain rfl:m=0:=by omega
  rfl
 | succ n ih =>
  rcases Nat.lt_or_ge n m with h1|h1
  ·obtain rfl:m=n+1:=by omega
   rfl
  ·simp only [vS];rw [ih h1 (fun i a b=>h i a (by omega)),h n h1 (by omega)];omega
theorem vS_long {us:List Int} {n:Nat} (h:us.length≤n):vS us n=val us:=vS_tail h (fun _ a _=>lm_ge a)
theorem vS_nn {us:List Int} (hu:AllW us) (n:Nat):0≤vS us n∧vS us n<pw n:=by
 induction n with
 | zero=>simp [vS,pw]
 | succ n ih =>
  simp only [vS]
  rw [pw_succ]
  have h:=hu.at n
  have hp:=pw_pos n
  have h1:0≤lm us n*pw n:=Int.mul_nonneg h.1 (by omega)
  have h2:lm us n*pw n≤18446744073709551615*pw n:=Int.mul_le_mul_of_nonneg_right (by omega) (by omega)
  omega
theorem val_nn {us:List Int} (hu:AllW us):0≤val us:=(vS_nn hu _).1
theorem val_lt {us:List Int} (hu:AllW us):val us<pw us.length:=(vS_nn hu _).2
theorem vS_trim (xs:List Int):vS xs (tlen xs)=val xs:=(vS_tail (tl_le _ _) (tl_spec xs xs.length).1).symm
theorem val_trimL (xs:List Int):val (trimL xs)=val xs:=by
 unfold val
 rw [length_trimL]
 show _=val xs
 rw [← vS_trim]
 exact vS_congr fun i hi=>by unfold trimL;rw [lm_take hi]
theorem AllW.trim {xs:List Int} (h:AllW xs):AllW (trimL xs):=h.take _
theorem lm_trimL {xs:List Int} {i:Nat} (h:i<tlen xs):lm (trimL xs) i=lm xs i:=by unfold trimL;rw [lm_take h]
theorem val_ge {xs:List Int} (hx:AllW xs) (h:0<tlen xs):pw (tlen xs-1)≤val xs:=by
 rw [← vS_trim]
 obtain ⟨k,hk⟩:∃ k,tlen xs=k+1:=⟨tlen xs-1,by omega⟩
 rw [hk]
 simp only [vS]
 have hne:=(tl_spec xs xs.length).2 h
 have e:tl xs xs.length=k+1:=hk
 rw [e] at hne
 simp only [Nat.add_sub_cancel] at hne ⊢
 have h1:=hx.at k
 have h2:=(vS_nn hx k).1
 have h3:1*pw k≤lm xs k*pw k:=Int.mul_le_mul_of_nonneg_right (by omega) (by have:=pw_pos k;omega)
 omega
theorem val_lt_tlen {xs:List Int} (hx:AllW xs):val xs<pw (tlen xs):=by rw [← vS_trim];exact (vS_nn hx _).2
theorem tlen_zero {xs:List Int} (hx:AllW xs):tlen xs=0↔val xs=0:=by
 constructor
 ·intro h;have:=val_lt_tlen hx;have h2:=val_nn hx;rw [h,pw_zero] at this;omega
 ·intro h
  rcases Nat.eq_zero_or_pos (tlen xs) with e|e
  ·exact e
  ·have:=val_ge hx e;have h2:=pw_pos (tlen xs-1);omega
theorem tlen_mono {xs ys:List Int} (hx:AllW xs) (hy:AllW ys) (h:val xs≤val ys):tlen xs≤tlen ys:=by
 rcases Nat.lt_or_ge (tlen ys) (tlen xs) with e|e
 ·have h1:=val_ge hx (by omega)
  have h2:=val_lt_tlen hy
  have h3:=pw_mono (show tlen ys≤tlen xs-1 by omega)
  omega
 ·exact e
/-! ### the order -/
theorem cmpTo_val {xs ys:List Int} (hx:AllW xs) (hy:AllW ys) (k:Nat):(cmpTo xs ys k=0∧vS xs k=vS ys k)∨(cmpTo xs ys k = -1∧vS xs k<vS ys k)∨(cmpTo xs ys k=1∧vS ys k<vS xs k):=by
 induction k with
 | zero=>simp [cmpTo,vS]
 | succ k ih =>
  simp only [vS]
  by_cases h:lm xs k=lm ys k
  ·rw [cmpTo_eq h,h];omega
  ·rw [cmpTo_ne h]
   have a:=vS_nn hx k
   have b:=vS_nn hy k
   have hp:=pw_pos k
   by_cases h2:lm xs k<lm ys k
   ·have:=Int.mul_le_mul_of_nonneg_right (a:=lm xs k+1) (b:=lm ys k) (c:=pw k) (by omega) (by omega)
    rw [Int.add_mul] at this
    right;left
    exact ⟨by simp [ordI,h2],by omega⟩
   ·have:=Int.mul_le_mul_of_nonneg_right (a:=lm ys k+1) (b:=lm xs k) (c:=pw k) (by omega) (by omega)
    rw [Int.add_mul] at this
    right;right
    exact ⟨by simp [ordI,h2],by omega⟩
theorem cmpL_val {xs ys:List Int} (hx:AllW xs) (hy:AllW ys):(cmpL xs ys=0∧val xs=val ys)∨(cmpL xs ys = -1∧val xs<val ys)∨(cmpL xs ys=1∧val ys<val xs):=by
 unfold cmpL
 by_cases h:tlen xs=tlen ys
 ·rw [if_pos h]
  have:=cmpTo_val hx hy (tlen xs)
  have e:vS ys (tlen xs)=val ys:=by rw [h,vS_trim]
  rw [vS_trim,e] at this
  exact this
 ·rw [if_neg h]
  by_cases h2:tlen xs<tlen ys
  ·right;left
   refine ⟨by simp [ordI,h2],?_⟩
   have h1:=val_ge hy (by omega)
   have h3:=val_lt_tlen hx
   have h4:=pw_mono (show tlen xs≤tlen ys-1 by omega)
   omega
  ·right;right
   refine ⟨by simp [ordI,h2],?_⟩
   have h1:=val_ge hx (by omega)
   have h3:=val_lt_tlen hy
   have h4:=pw_mono (show tlen ys≤tlen xs-1 by omega)
   omega
theorem cmpL_zero {xs ys:List Int} (hx:AllW xs) (hy:AllW ys) (h:val xs=val ys):cmpL xs ys=0:=by
 rcases cmpL_val hx hy with h1|h1|h1 <;> omega
theorem bitsL_zero {xs:List Int} (hx:AllW xs) (h:val xs=0):bitsL xs=0:=by
 unfold bitsL;rw [if_pos ((tlen_zero hx).2 h)]
/-! ### sums -/
theorem mod_mul (s T:Int):(s%18446744073709551616)*T+s/18446744073709551616*(T*18446744073709551616)=s*T:=by
 have h:s=s%18446744073709551616+s/18446744073709551616*18446744073709551616:=by omega
 have e:s/18446744073709551616*(T*18446744073709551616)=s/18446744073709551616*18446744073709551616*T:=by
  rw [Int.mul_comm T,Int.mul_assoc]
 rw [e,← Int.add_mul,← h]
theorem addR_val {us ys:List Int} (o:Nat) (k N:Nat) (h:o+k≤N) (hl:o+k≤us.length):vS (addR us o ys k).1 N+(addR us o ys k).2*pw (o+k)=vS us N+pw o*vS ys k:=by
 induction k with
 | zero=>simp [addR,vS]
 | succ k ih =>
  have ih:=ih (by omega) (by omega)
  simp only [addR,vS]
  have hlen:(addR us o ys k).1.length=us.length:=length_addR _ _ _ _
  generalize (addR us o ys k).1=U at *
  generalize (addR us o ys k).2=C at *
  rw [vS_set _ (by omega) (by omega),show o+(k+1)=(o+k)+1 by omega,pw_succ,Int.mul_add]
  have e1:=mod_mul (lm U (o+k)+lm ys k+C) (pw (o+k))
  have e2:pw o*(lm ys k*pw k)=lm ys k*pw (o+k):=by rw [pw_add,Int.mul_left_comm]
  rw [e2]
  rw [Int.sub_mul]
  rw [Int.add_mul,Int.add_mul] at e1
  generalize (lm U (o+k)+lm ys k+C)%18446744073709551616*pw (o+k)=A at *
  generalize (lm U (o+k)+lm ys k+C)/18446744073709551616*(pw (o+k)*18446744073709551616)=D at *
  omega
theorem rip_val (o n N:Nat):∀ (f:Nat) (u:List Int) (c:Int),f≤n→AllW u→0≤c→c≤1→o+n≤N→o+n≤u.length→AllW (rip o n f u c)∧∃ c',0≤c'∧c'≤1∧vS (rip o n f u c) N+c'*pw (o+n)=vS u N+c*pw (o+(n-f))
 | 0,u,c,_,hu,h0,h1,_,_=>⟨hu,c,h0,h1,by simp [rip]⟩
 | f+1,u,c,hf,hu,h0,h1,hN,hl=>by
  unfold rip
  split
  ·have a:=hu.at (o+(n-(f+1)))
   obtain ⟨h2,c',h3,h4,h5⟩:=rip_val o n N f (u.set (o+(n-(f+1))) ((lm u (o+(n-(f+1)))+c)%18446744073709551616)) ((lm u (o+(n-(f+1)))+c)/18446744073709551616) (by omega) (hu.set _ _ (word_mod _)) (by omega) (by omega) hN (by simpa using hl)
   refine ⟨h2,c',h3,h4,?_⟩
   rw [h5,vS_set _ (by omega) (by omega),show o+(n-f)=(o+(n-(f+1)))+1 by omega,pw_succ]
   have e1:=mod_mul (lm u (o+(n-(f+1)))+c) (pw (o+(n-(f+1))))
   rw [Int.add_mul] at e1
   rw [Int.sub_mul]
   omega
  ·exact ⟨hu,0,by omega,by omega,by
    have:c=0:=by omega
    rw [this];simp⟩
theorem addF_val {us ys:List Int} {n:Nat} (hu:AllW us) (hy:AllW ys) (hn:n=us.length) (hle:ys.length≤n) (hb:val us+val ys<pw n):AllW (addF us 0 n ys)∧val (addF us 0 n ys)=val us+val ys:=by
 obtain ⟨a1,a2,a3,a4⟩:=addR_ok 0 hu hy ys.length
 have e:=addR_val (us:=us) (ys:=ys) 0 ys.length n (by omega) (by omega)
 unfold addF
 obtain ⟨h2,c',h3,h4,h5⟩:=rip_val 0 n n (n-ys.length) (addR us 0 ys ys.length).1 (addR us 0 ys ys.length).2 (by omega) a1 a3 a4 (by omega) (by omega)
 refine ⟨h2,?_⟩
 rw [show 0+(n-(n-ys.length))=0+ys.length by omega,e,pw_zero] at h5
 have hlen:(rip 0 n (n-ys.length) (addR us 0 ys ys.length).1 (addR us 0 ys ys.length).2).length=n:=by rw [length_rip,a2,hn]
 have e6:vS us n=val us:=by rw [hn];rfl
 have e7:vS ys ys.length=val ys:=rfl
 have e8:vS (rip 0 n (n-ys.length) (addR us 0 ys ys.length).1 (addR us 0 ys ys.length).2) n=val (rip 0 n (n-ys.length) (addR us 0 ys ys.length).1 (addR us 0 ys ys.length).2):=vS_long (by omega)
 rw [e6,e7,e8] at h5
 have hnn:=val_nn h2
 have hc:c'=0:=by
  rcases Int.lt_or_le 0 c' with h|h
  ·have:c'=1:=by omega
   rw [this,Nat.zero_add] at h5
   omega
  ·omega
 rw [hc] at h5
 omega
theorem val_snoc (xs:List Int):val (xs++[0])=val xs:=by
 unfold val
 rw [List.length_append]
 show vS (xs++[0]) (xs.length+1)=_
 simp only [vS]
 rw [lm_append_right (Nat.le_refl _)]
 have:vS (xs++[0]) xs.length=vS xs xs.length:=vS_congr fun i hi=>lm_append_left hi
 rw [this]
 simp [lm]
theorem addL_val {xs ys:List Int} (hx:AllW xs) (hy:AllW ys):AllW (addL xs ys)∧val (addL xs ys)=val xs+val ys:=by
 have bx:=val_lt_tlen hx
 have by':=val_lt_tlen hy
 unfold addL
 split
 ·rename_i h
  have hm:=pw_mono (show tlen xs≤tlen ys by omega)
  have h0:=pw_pos (tlen ys)
  have:=addF_val (us:=trimL ys++[0]) (ys:=trimL xs) (n:=tlen ys+1) (hy.trim.append (AllW.replicate 1)) hx.trim (by simp [length_trimL]) (by rw [length_trimL];omega) (by rw [val_snoc,val_trimL,val_trimL,pw_succ];omega)
  rw [val_snoc,val_trimL,val_trimL] at this
  exact ⟨this.1,by omega⟩
 ·rename_i h
  have hm:=pw_mono (show tlen ys≤tlen xs by omega)
  have h0:=pw_pos (tlen xs)
  have:=addF_val (us:=trimL xs++[0]) (ys:=trimL ys) (n:=tlen xs+1) (hx.trim.append (AllW.replicate 1)) hy.trim (by simp [length_trimL]) (by rw [length_trimL];omega) (by rw [val_snoc,val_trimL,val_trimL,pw_succ];omega)
  rw [val_snoc,val_trimL,val_trimL] at this
  exact this
theorem length_addL (xs ys:List Int):(addL xs ys).length≤xs.length+ys.length+1:=by
 have h1:tlen xs≤xs.length:=tl_le _ _
 have h2:tlen ys≤ys.length:=tl_le _ _
 unfold addL
 split <;> rw [length_addF,List.length_append,length_trimL] <;> simp <;> omega
/-! ### differences -/
theorem bor_mul (x y T:Int) (hx:0≤x) (hx':x<18446744073709551616) (hy:0≤y) (hy':y≤18446744073709551616):(x-y)%18446744073709551616*T-bor x y*(T*18446744073709551616)=(x-y)*T:=by
 unfold bor
 split
 ·have h:(x-y)%18446744073709551616=x-y+18446744073709551616:=by omega
  rw [h,Int.add_mul,Int.one_mul,Int.mul_comm T];omega
 ·have h:(x-y)%18446744073709551616=x-y:=by omega
  rw [h];omega
theorem subR_val {us ys:List Int} (hu:AllW us) (hy:AllW ys) (o:Nat) (k N:Nat) (h:o+k≤N) (hl:o+k≤us.length):vS (subR us o ys k).1 N-(subR us o ys k).2*pw (o+k)=vS us N-pw o*vS ys k:=by
 induction k with
 | zero=>simp [subR,vS]
 | succ k ih =>
  have ih:=ih (by omega) (by omega)
  obtain ⟨h1,h2,h3,h4⟩:=subR_ok (us:=us) (ys:=ys) o hu k
  simp only [subR,vS]
  generalize (subR us o ys k).1=U at *
  generalize (subR us o ys k).2=C at *
  rw [vS_set _ (by omega) (by omega),show o+(k+1)=(o+k)+1 by omega,pw_succ,Int.mul_add]
  have a:=h1.at (o+k)
  have b:=hy.at k
  have e1:=bor_mul (lm U (o+k)) (lm ys k+C) (pw (o+k)) a.1 a.2 (by omega) (by omega)
  have e2:pw o*(lm ys k*pw k)=lm ys k*pw (o+k):=by rw [pw_add,Int.mul_left_comm]
  rw [e2,Int.sub_mul]
  rw [show lm U (o+k)-(lm ys k+C)=lm U (o+k)-lm ys k-C by omega,Int.sub_mul,Int.sub_mul] at e1
  generalize (lm U (o+k)-lm ys k-C)%18446744073709551616*pw (o+k)=A at *
  generalize bor (lm U (o+k)) (lm ys k+C)*(pw (o+k)*18446744073709551616)=D at *
  omega
theorem sip_val (o n N:Nat):∀ (f:Nat) (u:List Int) (c:Int),f≤n→AllW u→0≤c→c≤1→o+n≤N→o+n≤u.length→AllW (sip o n f u c).1∧0≤(sip o n f u c).2∧(sip o n f u c).2≤1∧vS (sip o n f u c).1 N-(sip o n f u c).2*pw (o+n)=vS u N-c*pw (o+(n-f))
 | 0,u,c,_,hu,h0,h1,_,_=>⟨hu,h0,h1,by simp [sip]⟩
 | f+1,u,c,hf,hu,h0,h1,hN,hl=>by
  unfold sip
  split
  ·have a:=hu.at (o+(n-(f+1)))
   have hb:=bor_01 (lm u (o+(n-(f+1)))) c
   obtain ⟨h2,h3,h4,h5⟩:=sip_val o n N f (u.set (o+(n-(f+1))) ((lm u (o+(n-(f+1)))-c)%18446744073709551616)) (bor (lm u (o+(n-(f+1)))) c) (by omega) (hu.set _ _ (word_mod _)) hb.1 hb.2 hN (by simpa using hl)
   refine ⟨h2,h3,h4,?_⟩
   rw [h5,vS_set _ (by omega) (by omega),show o+(n-f)=(o+(n-(f+1)))+1 by omega,pw_succ]
   have e1:=bor_mul (lm u (o+(n-(f+1)))) c (pw (o+(n-(f+1)))) a.1 a.2 h0 (by omega)
   rw [Int.sub_mul] at e1
   rw [Int.sub_mul]
   omega
  ·have:c=0:=by omega
   subst this
   exact ⟨hu,h0,h1,by simp⟩
theorem subF_val {us ys:List Int} {n:Nat} (hu:AllW us) (hy:AllW ys) (hn:n=us.length) (hle:ys.length≤n) (hb:val ys≤val us):(subF us 0 n ys).2=0∧AllW (subF us 0 n ys).1∧val (subF us 0 n ys).1=val us-val ys:=by
 obtain ⟨a1,a2,a3,a4⟩:=subR_ok (us:=us) (ys:=ys) 0 hu ys.length
 have e:=subR_val hu hy 0 ys.length n (by omega) (by omega)
 have hlen:(subF us 0 n ys).1.length=n:=by rw [length_subF,hn]
 obtain ⟨h2,h3,h4,h5⟩:=sip_val 0 n n (n-ys.length) (subR us 0 ys ys.length).1 (subR us 0 ys ys.length).2 (by omega) a1 a3 a4 (by omega) (by omega)
 have hF:sip 0 n (n-ys.length) (subR us 0 ys ys.length).1 (subR us 0 ys ys.length).2=subF us 0 n ys:=rfl
 rw [hF] at h2 h3 h4 h5
 rw [show 0+(n-(n-ys.length))=0+ys.length by omega,e,pw_zero] at h5
 have e6:vS us n=val us:=by rw [hn];rfl
 have e7:vS ys ys.length=val ys:=rfl
 have e8:vS (subF us 0 n ys).1 n=val (subF us 0 n ys).1:=vS_long (by omega)
 rw [e6,e7,e8] at h5
 have hlt:=val_lt h2
 rw [hlen] at hlt
 have hc:(subF us 0 n ys).2=0:=by
  rcases Int.lt_or_le 0 (subF us 0 n ys).2 with h|h
  ·have:(subF us 0 n ys).2=1:=by omega
   rw [this,Nat.zero_add] at h5
   omega
  ·omega
 rw [hc] at h5
 exact ⟨hc,h2,by omega⟩
theorem subL_val {xs ys:List Int} (hx:AllW xs) (hy:AllW ys) (h:val ys≤val xs):tlen ys≤tlen xs∧(subF (trimL xs) 0 (tlen xs) (trimL ys)).2=0∧AllW (subL xs ys)∧val (subL xs ys)=val xs-val ys:=by
 have hle:=tlen_mono hy hx h
 have:=subF_val (us:=trimL xs) (ys:=trimL ys) (n:=tlen xs) hx.trim hy.trim (length_trimL xs).symm (by rw [length_trimL];exact hle) (by rw [val_trimL,val_trimL];exact h)
 rw [val_trimL,val_trimL] at this
 exact ⟨hle,this⟩
theorem length_subL (xs ys:List Int):(subL xs ys).length=tlen xs:=by unfold subL;rw [length_subF,length_trimL]
/-! ### products -/
theorem mulR_val {us ys:List Int} (o:Nat) (l:Int) (k N:Nat) (h:o+k≤N) (hl:o+k≤us.length):(mulR us o ys l k).1.length=us.length∧vS (mulR us o ys l k).1 N+(mulR us o ys l k).2*pw (o+k)=vS us N+pw o*(vS ys k*l):=by
 induction k with
 | zero=>simp [mulR,vS]
 | succ k ih =>
  obtain ⟨hlen,ih⟩:=ih (by omega) (by omega)
  simp only [mulR,vS]
  generalize (mulR us o ys l k).1=U at *
  generalize (mulR us o ys l k).2=C at *
  refine ⟨by simp [hlen],?_⟩
  rw [vS_set _ (by omega) (by omega),show o+(k+1)=(o+k)+1 by omega,pw_succ,Int.add_mul (vS ys k),Int.mul_add]
  have e1:=mod_mul (lm U (o+k)+lm ys k*l+C) (pw (o+k))
  have e2:pw o*(lm ys k*pw k*l)=lm ys k*l*pw (o+k):=by
   rw [pw_add,Int.mul_right_comm (lm ys k),Int.mul_left_comm]
  rw [e2,Int.sub_mul]
  rw [Int.add_mul,Int.add_mul] at e1
  generalize (lm U (o+k)+lm ys k*l+C)%18446744073709551616*pw (o+k)=A at *
  generalize (lm U (o+k)+lm ys k*l+C)/18446744073709551616*(pw (o+k)*18446744073709551616)=D at *
  omega
theorem mulR_far {us ys:List Int} (o:Nat) (l:Int) (k i:Nat) (h:o+k≤i):lm (mulR us o ys l k).1 i=lm us i:=by
 induction k with
 | zero=>rfl
 | succ k ih=>simp only [mulR];rw [lm_set,if_neg (by omega),ih (by omega)]
theorem mulO_val {xs ys:List Int} (hx:AllW xs) (hy:AllW ys) (N k:Nat) (h:k+ys.length≤N):(∀ i,k+ys.length≤i→lm (mulO xs ys N k) i=0)∧vS (mulO xs ys N k) N=vS xs k*val ys:=by
 induction k with
 | zero =>
  refine ⟨fun i _=>by simp only [mulO];rw [lm_replicate],?_⟩
  simp only [mulO,vS,Int.zero_mul]
  have:=vS_tail (us:=List.replicate N 0) (m:=0) (n:=N) (by omega) (fun i _ _=>lm_replicate N i)
  rw [this];rfl
 | succ k ih =>
  obtain ⟨ih1,ih2⟩:=ih (by omega)
  obtain ⟨ok1,ok2⟩:=mulO_ok N hx hy k
  obtain ⟨hlen,hv⟩:=mulR_val (us:=mulO xs ys N k) (ys:=ys) k (lm xs k) ys.length N (by omega) (by omega)
  have hfar:=mulR_far (us:=mulO xs ys N k) (ys:=ys) k (lm xs k) ys.length
  simp only [mulO,vS]
  generalize mulO xs ys N k=U at *
  generalize (mulR U k ys (lm xs k) ys.length).1=V at *
  generalize (mulR U k ys (lm xs k) ys.length).2=C at *
  constructor
  ·intro i hi
   rw [lm_set,if_neg (by omega),hfar i (by omega),ih1 i (by omega)]
  ·rw [vS_set _ (by omega) (by omega),hfar (k+ys.length) (Nat.le_refl _),ih1 (k+ys.length) (Nat.le_refl _),Int.add_mul]
   have e:pw k*(vS ys ys.length*lm xs k)=lm xs k*pw k*val ys:=by
    show pw k*(val ys*lm xs k)=_
    rw [Int.mul_comm (val ys),← Int.mul_assoc,Int.mul_comm (pw k)]
   rw [e,ih2] at hv
   rw [show C-0=C by omega]
   omega
theorem mulL_val {xs ys:List Int} (hx:AllW xs) (hy:AllW ys):AllW (mulL xs ys)∧val (mulL xs ys)=val xs*val ys:=by
 obtain ⟨h1,h2⟩:=mulO_ok (xs:=trimL xs) (ys:=trimL ys) (tlen xs+tlen ys) hx.trim hy.trim (tlen xs)
 refine ⟨h1,?_⟩
 have:=(mulO_val hx.trim hy.trim (tlen xs+tlen ys) (tlen xs) (by rw [length_trimL];omega)).2
 have e1:vS (trimL xs) (tlen xs)=val xs:=by
  rw [← vS_trim xs];exact vS_congr fun i hi=>lm_trimL hi
 rw [e1,val_trimL] at this
 rw [← this]
 exact (vS_long (by show (mulO _ _ _ _).length≤_;omega)).symm
theorem length_mulL (xs ys:List Int) (hx:AllW xs) (hy:AllW ys):(mulL xs ys).length=tlen xs+tlen ys:=(mulO_ok (xs:=trimL xs) (ys:=trimL ys) (tlen xs+tlen ys) hx.trim hy.trim (tlen xs)).2
def Num (w:World) (a:Option Addr) (n cap:Nat) (x:Int) (S:Nat):Prop:=∃ xs,n=xs.length∧n≤cap∧Reads w a xs∧AllW xs∧val xs=x∧n≤S
theorem Num.below {w w':World} {a:Option Addr} {n cap:Nat} {x:Int} {S:Nat} (h:Num w a n cap x S) (hb:Below w.heap.size w w'):Num w' a n cap x S:=by
 obtain ⟨xs,h1,h2,h3,h4⟩:=h
 exact ⟨xs,h1,h2,h3.below hb,h4⟩
theorem Num.drewN {w:World} {a:Option Addr} {n cap:Nat} {x:Int} {S:Nat} (h:Num w a n cap x S) (m:Nat):Num (w.drewN m) a n cap x S:=by
 obtain ⟨xs,h1,h2,h3,h4⟩:=h
 exact ⟨xs,h1,h2,h3.drewN m,h4⟩
theorem Num.nn {w:World} {a:Option Addr} {n cap:Nat} {x:Int} {S:Nat} (h:Num w a n cap x S):0≤x:=by
 obtain ⟨xs,_,_,_,h4,h5,_⟩:=h
 rw [← h5];exact val_nn h4
theorem cmpV {a b:Option Addr} {na nb ca cb:Nat} {x y:Int} {S R:Nat} (w:World) (ha:Num w a na ca x S) (hb:Num w b nb cb y R) (hS:S≤1000000000000) (hR:R≤1000000000000) :
  Calls Tryz.prog 82 #[.slice a na ca,.slice b nb cb] w fun e w'=>∃ c:Int,e = .returned (.int .i64 c)∧((c=0∧x=y)∨(c = -1∧x<y)∨(c=1∧y<x))∧∃ m,w'=w.drewN m:=by
 obtain ⟨xs,a1,a2,a3,a4,a5,a6⟩:=ha
 obtain ⟨ys,b1,b2,b3,b4,b5,b6⟩:=hb
 refine (cmp_any a b na nb ca cb xs ys w a1 b1 a2 b2 (by omega) (by omega) a3 b3).mono ?_
 rintro e w' ⟨rfl,m,rfl⟩
 refine ⟨_,rfl,?_,m,rfl⟩
 have:=cmpL_val a4 b4
 rw [a5,b5] at this
 exact this
def OwnV (w:World) (B:Nat) (v:Value) (xs:List Int):Prop:=w.ownsRow B 57 1 v xs.length (xs.map (Value.int .u64))
def Row (w:World) (g cap:Nat) (xs:List Int):Prop :=
 ∃ cur:Array Value,w.heap[g]? = some (.cells cur 57 (0,0))∧xs.length≤cap∧cap≤maxLen∧cur.size=cap∧cur.toList.take xs.length=xs.map (Value.int .u64)
theorem OwnV.nil (w:World) (B:Nat):OwnV w B (.slice none 0 0) []:=World.ownsRow_nil _ _ _ _
theorem OwnV.row {w:World} {B:Nat} {v:Value} {xs:List Int} (h:OwnV w B v xs):(v = .slice none 0 0∧xs=[])∨∃ g cap,v = .slice (some ⟨g,0,none⟩) xs.length cap∧B≤g∧Row w g cap xs:=by
 rcases h.2 with ⟨h1,h2⟩|⟨g,cap,cur,h1,h2,h3,h4,h5,h6,h7⟩
 ·exact .inl ⟨h1,List.eq_nil_of_length_eq_zero h2⟩
 ·exact .inr ⟨g,cap,h1,h2,cur,h3,h4,h5,by omega,by simpa using h7⟩
theorem Row.own {w:World} {B g cap:Nat} {xs:List Int} (h:Row w g cap xs) (hB:B≤g):OwnV w B (.slice (some ⟨g,0,none⟩) xs.length cap) xs:=by
 obtain ⟨cur,h1,h2,h3,h4,h5⟩:=h
 exact ⟨by simp,.inr ⟨g,cap,cur,rfl,hB,h1,h2,h3,by omega,by simpa using h5⟩⟩
theorem Blk.row {w:World} {g:Nat} {us:List Int} (h:Blk w g us) (n:Nat) (hm:us.length≤maxLen):Row w g us.length (us.take n) :=
 ⟨_,h,by simp;omega,hm,by simp,by simp [List.map_take]⟩
theorem Row.lt {w:World} {g cap:Nat} {xs:List Int} (h:Row w g cap xs):g<w.heap.size:=by
 obtain ⟨cur,h1,_⟩:=h;exact (Array.getElem?_eq_some_iff.1 h1).1
theorem Row.le {w:World} {g cap:Nat} {xs:List Int} (h:Row w g cap xs):xs.length≤cap:=by
 obtain ⟨cur,_,h2,_⟩:=h;exact h2
theorem Row.cell {w:World} {g cap:Nat} {xs:List Int} (h:Row w g cap xs) {i:Nat} (hi:i<xs.length):w.cell? ⟨g,i,none⟩=some (.int .u64 (lm xs i)):=by
 obtain ⟨cur,h1,h2,h3,h4,h5⟩:=h
 have e:cur[i]? = some (.int .u64 (lm xs i)):=by
  have:=congrArg (fun l=>l[i]?) h5
  simp only [List.getElem?_take_of_lt hi,List.getElem?_map,lm_lt hi] at this
  simpa using this
 simp [World.cell?,h1,e]
theorem Row.of_block {w w':World} {g cap:Nat} {xs:List Int} (h:Row w g cap xs) (hb:w'.heap[g]? = w.heap[g]?):Row w' g cap xs:=by
 obtain ⟨cur,h1,h2⟩:=h
 exact ⟨cur,by rw [hb];exact h1,h2⟩
theorem Row.below {w w':World} {g cap B:Nat} {xs:List Int} (h:Row w g cap xs) (hb:Below B w w') (hg:g<B):Row w' g cap xs:=h.of_block (hb.block g hg)
theorem Row.belowAll {w w':World} {g cap:Nat} {xs:List Int} (h:Row w g cap xs) (hb:Below w.heap.size w w'):Row w' g cap xs:=h.below hb h.lt
theorem Row.reads {w:World} {g cap:Nat} {xs:List Int} (h:Row w g cap xs):Reads w (some ⟨g,0,none⟩) xs :=
 .inr ⟨g,0,rfl,fun i hi=>by rw [Nat.zero_add];exact h.cell hi⟩
theorem OwnV.reads {w:World} {B:Nat} {a:Option Addr} {n cap:Nat} {xs:List Int} (h:OwnV w B (.slice a n cap) xs):n=xs.length∧n≤cap∧Reads w a xs:=by
 rcases h.row with ⟨h1,h2⟩|⟨g,c,h1,_,h3⟩
 ·cases h1;subst h2;exact ⟨rfl,Nat.le_refl _,.inl rfl⟩
 ·cases h1;exact ⟨rfl,h3.le,h3.reads⟩
theorem OwnV.slice {w:World} {B:Nat} {v:Value} {xs:List Int} (h:OwnV w B v xs):∃ a cap,v = .slice a xs.length cap:=by
 rcases h.row with ⟨h1,h2⟩|⟨g,c,h1,_,_⟩
 ·subst h2;exact ⟨none,0,h1⟩
 ·exact ⟨_,_,h1⟩
theorem OwnV.drew {w:World} {B:Nat} {v:Value} {xs:List Int} (h:OwnV w B v xs):OwnV w.drew B v xs:=h
theorem OwnV.below {w w':World} {B:Nat} {v:Value} {xs:List Int} (h:OwnV w B v xs) (hb:Below w.heap.size w w'):OwnV w' B v xs:=by
 rcases h.row with ⟨h1,h2⟩|⟨g,c,h1,h2,h3⟩
 ·subst h1 h2;exact OwnV.nil _ _
 ·subst h1;exact (h3.belowAll hb).own h2
theorem OwnV.mono {w:World} {B B':Nat} {v:Value} {xs:List Int} (h:OwnV w B v xs) (hB:B'≤B):OwnV w B' v xs:=by
 rcases h.row with ⟨h1,h2⟩|⟨g,c,h1,h2,h3⟩
 ·subst h1 h2;exact OwnV.nil _ _
 ·subst h1;exact h3.own (by omega)
theorem own_form {w:World} {B:Nat} {v:Value} {xs:List Int} {n:Nat} (h:OwnV w B v xs) (hn:xs.length=n):∃ a cap,v = .slice a n cap:=by
 subst hn;exact h.slice
theorem grown_below {B:Nat} {w w':World} {row:Option Nat} (hg:w.grownBy w' row) (hB:B≤w.heap.size) (hr:∀ k,row=some k→B≤k):Below B w w':=(Below.refl _ _).grown hg hB hr
theorem OwnV.alloc {w:World} {B:Nat} {v:Value} {xs:List Int} (h:OwnV w B v xs) (o:Obj):OwnV (w.alloc o) B v xs:=World.ownsRow.alloc h o
theorem OwnV.lt {w:World} {B:Nat} {v:Value} {xs:List Int} (h:OwnV w B v xs):∀ k,v.ownBlock=some k→B≤k∧k<w.heap.size:=World.ownsRow.lt h
theorem cell_new1 {w:World} {h:Nat} {v:Value} {t:TypeId} (hh:h=w.heap.size):(w.alloc (.cells #[v] t)).cell? ⟨h,0,none⟩=some v:=by subst hh;simp
theorem take_snoc_lm (xs:List Int) (k:Nat) (h:k<xs.length):xs.take k++[lm xs k]=xs.take (k+1):=by
 rw [List.take_succ_eq_append_getElem h]
 simp [lm,List.getElem?_eq_getElem h]
theorem wpList_append1 (t:TypeId) (ht:Tryz.prog.underlying t=some (.slice 57)) (w:World) {ops:Array Oper} {rest:List Oper} {o:Oper} {a:Act} {Q:Exit→Act→World→Prop} (hgd:o.guard=none) (s x:Operand)
  (ho:o.op = .call { callee:=.builtin .append,args:=#[s,x],argTypes:=#[t,t] }) (B:Nat) (v:Value) (xs:List Int) (n:Nat) (hn:Hid (xs.length=n)) (hs:a.eval s=v) (hown:OwnV w B v xs) (h:Nat) (c:Nat) (z:Int) (hx:a.eval x = .slice (some ⟨h,0,none⟩) 1 c)
  (hc:w.cell? ⟨h,0,none⟩=some (.int .u64 z)) (hlen:n≤1000000000000) (hB:B≤w.heap.size) (H:Nat) (hH:w.heap.size=H)
  (hK:∀ g cap w',OwnV w' B (.slice (some ⟨g,0,none⟩) (n+1) cap) (xs++[z])→w.grownBy w' v.ownBlock→(v.ownBlock=some g∨g=H)→g<w'.heap.size→wpList Tryz.prog ops Q rest (a.put o.dst (.slice (some ⟨g,0,none⟩) (n+1) cap)) w') :
  wpList Tryz.prog ops Q (o::rest) a w:=by
 obtain rfl:=hn.out
 obtain ⟨i0,hi,hz0,hz1,hz2⟩:=info_parts Tryz.infoU64
 refine wpList_append_lies w hgd s x t ho B 57 i0 (.int .u64 0) 1 8 ht hi hz0 hz1 hz2 rfl (by decide) v xs.length (xs.map (Value.int .u64)) hs hown ⟨h,0,none⟩ 1 c [.int .u64 z] hx rfl ?_ (fun u hu=>by simp at hu;subst hu;rfl) (by decide) (by unfold maxLen;omega) (by omega) hB H hH ?_
 ·intro j u hj
  match j,hj with
  | 0,hj=>simp at hj;subst hj;simpa [Addr.add] using hc
 ·intro g cap w' h1 h2 h3 h4
  refine hK g cap w' ?_ h2 h3 h4
  unfold OwnV
  simpa using h1
theorem step_append2 (t:TypeId) (ht:Tryz.prog.underlying t=some (.slice 57)) (w:World) {ops:Array Oper} {o:Oper} {a:Act} {K:Act→World→Prop} {Q:Exit→Act→World→Prop} {E:Prop} (hgd:o.guard=none) (s x:Operand)
  (ho:o.op = .call { callee:=.builtin .append,args:=#[s,x],argTypes:=#[t,t] }) (B:Nat) (v:Value) (xs:List Int) (n:Nat) (hn:Hid (xs.length=n)) (hs:a.eval s=v) (hown:OwnV w B v xs) (h:Nat) (c:Nat) (y z:Int) (hx:a.eval x = .slice (some ⟨h,0,none⟩) 2 c)
  (hc0:w.cell? ⟨h,0,none⟩=some (.int .u64 y)) (hc:w.cell? ⟨h,1,none⟩=some (.int .u64 z)) (hlen:n≤1000000000000) (hB:B≤w.heap.size) (H:Nat) (hH:w.heap.size=H)
  (hK:∀ g cap w',OwnV w' B (.slice (some ⟨g,0,none⟩) (n+2) cap) (xs++[y,z])→w.grownBy w' v.ownBlock→(v.ownBlock=some g∨g=H)→g<w'.heap.size→K (a.put o.dst (.slice (some ⟨g,0,none⟩) (n+2) cap)) w') :
  if Region.wanted o (yielded ops a.tmps)=true then Oper.wp Tryz.prog o a w K Q else E:=by
 obtain rfl:=hn.out
 obtain ⟨i0,hi,hz0,hz1,hz2⟩:=info_parts Tryz.infoU64
 refine step_append_lies w hgd s x t ho B 57 i0 (.int .u64 0) 1 8 ht hi hz0 hz1 hz2 rfl (by decide) v xs.length (xs.map (Value.int .u64)) hs hown ⟨h,0,none⟩ 2 c [.int .u64 y,.int .u64 z] hx rfl ?_ (fun u hu=>by simp at hu;rcases hu with rfl|rfl <;> rfl) (by decide) (by unfold maxLen;omega) (by omega) hB H hH ?_
 ·intro j u hj
  match j,hj with
  | 0,hj=>simp at hj;subst hj;simpa [Addr.add] using hc0
  | 1,hj=>simp at hj;subst hj;simpa [Addr.add] using hc
 ·intro g cap w' h1 h2 h3 h4
  refine hK g cap w' ?_ h2 h3 h4
  unfold OwnV
  simpa using h1
def NF (xs:List Int):Prop:=AllW xs∧tlen xs=xs.length
theorem NF.trimL {xs:List Int} (h:AllW xs):NF (trimL xs):=⟨h.trim,by rw [tlen_trimL,length_trimL]⟩
theorem NF.nil:NF []:=⟨AllW.nil,rfl⟩
theorem nf_unique {xs ys:List Int} (hx:NF xs) (hy:NF ys) (h:val xs=val ys):xs=ys:=by
 have h1:=tlen_mono hx.1 hy.1 (by omega)
 have h2:=tlen_mono hy.1 hx.1 (by omega)
 have hl:xs.length=ys.length:=by have:=hx.2;have:=hy.2;omega
 have hc:=cmpL_zero hx.1 hy.1 h
 unfold cmpL at hc
 rw [if_pos (by omega)] at hc
 have key:∀ k,cmpTo xs ys k=0→∀ i,i<k→lm xs i=lm ys i:=by
  intro k
  induction k with
  | zero=>intro _ i hi;omega
  | succ k ih =>
   intro hk i hi
   by_cases e:lm xs k=lm ys k
   ·rw [cmpTo_eq e] at hk
    rcases Nat.lt_or_ge i k with h3|h3
    ·exact ih hk i h3
    ·obtain rfl:i=k:=by omega
     exact e
   ·rw [cmpTo_ne e] at hk
    unfold ordI at hk
    split at hk <;> omega
 apply List.ext_getElem hl
 intro i h3 h4
 have:=key (tlen xs) hc i (by rw [hx.2];exact h3)
 have e1:=lm_lt h3
 have e2:=lm_lt h4
 rw [List.getElem?_eq_getElem h3] at e1
 rw [List.getElem?_eq_getElem h4] at e2
 rw [this] at e1
 rw [Option.some.injEq] at e1 e2
 rw [e1,e2]
def Got (w:World) (B:Nat) (v:Value) (x:Int) (S:Nat):Prop:=∃ xs,OwnV w B v xs∧NF xs∧val xs=x∧xs.length≤S
theorem Got.below {w w':World} {B:Nat} {v:Value} {x:Int} {S:Nat} (h:Got w B v x S) (hb:Below w.heap.size w w'):Got w' B v x S:=by
 obtain ⟨xs,h1,h2⟩:=h;exact ⟨xs,h1.below hb,h2⟩
theorem Got.mono {w:World} {B B':Nat} {v:Value} {x:Int} {S:Nat} (h:Got w B v x S) (hB:B'≤B):Got w B' v x S:=by
 obtain ⟨xs,h1,h2⟩:=h;exact ⟨xs,h1.mono hB,h2⟩
theorem Got.le {w:World} {B:Nat} {v:Value} {x:Int} {S S':Nat} (h:Got w B v x S) (hS:S≤S'):Got w B v x S':=by
 obtain ⟨xs,h1,h2,h3,h4⟩:=h;exact ⟨xs,h1,h2,h3,by omega⟩
theorem Got.nil (w:World) (B:Nat):Got w B (.slice none 0 0) 0 0:=⟨[],OwnV.nil _ _,NF.nil,rfl,Nat.le_refl _⟩
theorem Got.num {w:World} {B:Nat} {a:Option Addr} {n cap:Nat} {x:Int} {S:Nat} (h:Got w B (.slice a n cap) x S):Num w a n cap x S:=by
 obtain ⟨xs,h1,h2,h3,h4⟩:=h
 obtain ⟨r1,r2,r3⟩:=h1.reads
 exact ⟨xs,r1,r2,r3,h2.1,h3,by omega⟩
theorem Got.lt {w:World} {B:Nat} {v:Value} {x:Int} {S:Nat} (h:Got w B v x S):∀ k,v.ownBlock=some k→B≤k∧k<w.heap.size:=by
 obtain ⟨xs,h1,_⟩:=h;exact h1.lt
theorem got_of_blk {w:World} {g B:Nat} {us:List Int} (h:Blk w g us) (hu:AllW us) (hB:B≤g) (cap:Nat) (hc:cap=us.length) {S:Nat} (hS:us.length≤S) (hm:us.length≤1000000000000):Got w B (.slice (some ⟨g,0,none⟩) (tlen us) cap) (val us) S:=by
 subst hc
 have hle:tlen us≤us.length:=tl_le _ _
 have h1:=h.row (tlen us) (by unfold maxLen;omega)
 have h2:=h1.own hB
 have e:(us.take (tlen us)).length=tlen us:=by rw [List.length_take];omega
 rw [e] at h2
 exact ⟨trimL us,h2,NF.trimL hu,val_trimL us,by rw [length_trimL];omega⟩
theorem got_eq {w w':World} {B B':Nat} {v u:Value} {x y:Int} {S R:Nat} (h:Got w B v x S) (k:Got w' B' u y R) (e:x=y):∃ xs,OwnV w B v xs∧OwnV w' B' u xs∧xs.length≤S:=by
 obtain ⟨xs,h1,h2,h3,h4⟩:=h
 obtain ⟨ys,k1,k2,k3,k4⟩:=k
 obtain rfl:=nf_unique h2 k2 (by omega)
 exact ⟨xs,h1,k1,h4⟩
theorem addG {a b:Option Addr} {na nb ca cb:Nat} {x y:Int} {S R:Nat} (w:World) (ha:Num w a na ca x S) (hb:Num w b nb cb y R) (hS:S≤100000000000) (hR:R≤100000000000) :
  Calls Tryz.prog 81 #[.slice a na ca,.slice b nb cb] w fun e w'=>∃ c nc cc,e = .returned (.slice c nc cc)∧Got w' w.heap.size (.slice c nc cc) (x+y) (S+R+1)∧Below w.heap.size w w':=by
 obtain ⟨xs,a1,a2,a3,a4,a5,a6⟩:=ha
 obtain ⟨ys,b1,b2,b3,b4,b5,b6⟩:=hb
 refine (add_any a b na nb ca cb xs ys w a1 b1 a2 b2 (by omega) (by omega) a3 b3 a4 b4).mono ?_
 rintro e w' ⟨g,rfl,hg,hbk,hbel⟩
 obtain ⟨v1,v2⟩:=addL_val a4 b4
 have hl:=length_addL xs ys
 refine ⟨_,_,_,rfl,?_,hbel⟩
 rw [← a5,← b5,← v2]
 exact got_of_blk hbk v1 hg _ rfl (by omega) (by omega)
theorem mulG {a b:Option Addr} {na nb ca cb:Nat} {x y:Int} {S R:Nat} (w:World) (ha:Num w a na ca x S) (hb:Num w b nb cb y R) (hS:S≤100000000000) (hR:R≤100000000000) :
  Calls Tryz.prog 84 #[.slice a na ca,.slice b nb cb] w fun e w'=>∃ c nc cc,e = .returned (.slice c nc cc)∧Got w' w.heap.size (.slice c nc cc) (x*y) (S+R)∧Below w.heap.size w w':=by
 obtain ⟨xs,a1,a2,a3,a4,a5,a6⟩:=ha
 obtain ⟨ys,b1,b2,b3,b4,b5,b6⟩:=hb
 refine (mul_any a b na nb ca cb xs ys w a1 b1 a2 b2 (by omega) (by omega) a3 b3 a4 b4).mono ?_
 rintro e w' ⟨g,rfl,hg,hbk,hbel⟩
 obtain ⟨v1,v2⟩:=mulL_val a4 b4
 have hl:=length_mulL xs ys a4 b4
 have t1:tlen xs≤xs.length:=tl_le _ _
 have t2:tlen ys≤ys.length:=tl_le _ _
 refine ⟨_,_,_,rfl,?_,hbel⟩
 rw [← a5,← b5,← v2]
 exact got_of_blk hbk v1 hg _ rfl (by omega) (by omega)
theorem Got.shrink {w:World} {B:Nat} {v:Value} {x:Int} {S m:Nat} (h:Got w B v x S) (hx:x<pw m):Got w B v x m:=by
 obtain ⟨xs,h1,h2,h3,h4⟩:=h
 refine ⟨xs,h1,h2,h3,?_⟩
 rcases Nat.lt_or_ge m xs.length with h5|h5
 ·have h6:=val_ge h2.1 (by rw [h2.2];omega)
  have h7:=pw_mono (a:=m) (b:=tlen xs-1) (by rw [h2.2];omega)
  omega
 ·exact h5
theorem Got.val {w:World} {B:Nat} {v:Value} {x y:Int} {S:Nat} (h:Got w B v x S) (e:x=y):Got w B v y S:=e ▸ h
set_option maxHeartbeats 400000 in
theorem ofG (v:Int) (w:World) (h0:0≤v) (h1:v<18446744073709551616) :
  Calls Tryz.prog 58 #[.int .u64 v] w fun e w'=>∃ a n cap,e = .returned (.slice a n cap)∧Got w' w.heap.size (.slice a n cap) v 1∧Below w.heap.size w w':=by
 have hw:AllW [v]:=fun x hx=>by simp at hx;subst hx;exact ⟨h0,h1⟩
 have ev:Go.Proofs.YtceigfafmalfgaaGreatDoor.val [v]=v:=by simp [Go.Proofs.YtceigfafmalfgaaGreatDoor.val,vS,lm,pw]
 by_cases hv:v=0
 ·subst hv
  go_enter Tryz.func58,Tryz.ntmps58
  go_wp2
  go_ret
  exact ⟨none,0,0,rfl,(Got.nil _ _).le (by omega),Below.refl _ _⟩
 ·have t1:(v == 0)=false:=by simpa using hv
  go_enter Tryz.func58,Tryz.ntmps58
  go_wp2
  go_ret
  have e1:tlen [v]=1:=by simp [tlen,tl,lm,hv]
  have hbk:Blk (w.alloc (Obj.cells #[Value.int IntKind.u64 v] 57)) w.heap.size [v]:=blk_new [v]
  have G:=got_of_blk hbk hw (Nat.le_refl _) 1 rfl (S:=1) (by simp) (by simp)
  rw [e1,ev] at G
  exact ⟨some ⟨w.heap.size,0,none⟩,1,1,rfl,G,(Below.refl _ _).alloc (Nat.le_refl _) _⟩
set_option maxHeartbeats 1000000 in
theorem sub_any (a b:Option Addr) (na nb ca cb:Nat) (xs ys:List Int) (w:World) (hna:na=xs.length) (hnb:nb=ys.length) (hla:na≤ca) (hlb:nb≤cb)
  (hma:na≤1000000000000) (hmb:nb≤1000000000000) (hra:Reads w a xs) (hrb:Reads w b ys) (hx:AllW xs) (hy:AllW ys) (hc:0≤cmpL xs ys) (hle:tlen ys≤tlen xs) (hlast:(subF (trimL xs) 0 (tlen xs) (trimL ys)).2=0) :
  Calls Tryz.prog 83 #[.slice a na ca,.slice b nb cb] w fun e w'=>∃ g,e = .returned (.tuple #[.slice (some ⟨g,0,none⟩) (tlen (subL xs ys)) (tlen xs),.nilIface])∧w.heap.size≤g∧Blk w' g (subL xs ys)∧Below w.heap.size w w':=by
 have ta:tlen xs≤xs.length:=tl_le _ _
 have tb:tlen ys≤ys.length:=tl_le _ _
 subst hna hnb
 have HLAST:Hid ((subF (trimL xs) 0 (tlen xs) (trimL ys)).2=0):=hlast
 clear hlast
 go_enter Tryz.func83,Tryz.ntmps83
 go_wp2_with fail
 refine (cmp_any a b _ _ ca cb xs ys _ rfl rfl hla hlb (by omega) (by omega) hra hrb).mono ?_
 rintro e w1 ⟨rfl,m,rfl⟩
 go_wp2_with fail
 refine (norm_any a _ ca xs _ rfl hla (by omega) (hra.drewN m)).mono ?_
 rintro e w1 ⟨g,rfl,hg,hb1,hbel1⟩
 have hbel:Below w.heap.size w w1:=(belN (Below.refl _ w) m).trans hbel1
 have hg':w.heap.size≤g:=hg
 clear hg hbel1
 go_wp2_with fail
 refine (trim_any b _ cb ys _ rfl hlb (by omega) (hrb.below hbel)).mono ?_
 rintro e w2 ⟨rfl,rfl⟩
 go_wp2_with fail
 refine (takeFrom_any g 0 (tlen xs) _ (trimL xs) b (tlen ys) cb (trimL ys) w1 hb1 (by rw [length_trimL];omega) (by rw [length_trimL];omega) (hx.take _) (length_trimL ys).symm hle ((hrb.below hbel).take _) (fun hne p hp=>?haw) (hy.take _) HLAST.out).mono ?_
 case haw=>have:=(hrb.take (tlen ys)).lt hne p hp;omega
 rintro e w3 ⟨rfl,hb3,hoff⟩
 have hbel3:Below w.heap.size w w3:=hbel.trans (hoff.below hg')
 have HL:Hid ((subL xs ys).length=tlen xs):=by show _=_;unfold subL;rw [length_subF,length_trimL]
 have hb4:Blk w3 g (subL xs ys):=hb3
 clear hb3 hoff hb1 hbel
 go_wp2_with fail
 refine (trim_any (some ⟨g,0,none⟩) (tlen xs) (tlen xs) (subL xs ys) w3 HL.out.symm (Nat.le_refl _) (by omega) hb4.reads').mono ?_
 rintro e w4 ⟨rfl,rfl⟩
 go_wp2
 go_ret2
 exact ⟨g,rfl,hg',hb4,hbel3⟩
theorem subG {a b:Option Addr} {na nb ca cb:Nat} {x y:Int} {S R:Nat} (w:World) (ha:Num w a na ca x S) (hb:Num w b nb cb y R) (hS:S≤100000000000) (hR:R≤100000000000) (hxy:y≤x) :
  Calls Tryz.prog 83 #[.slice a na ca,.slice b nb cb] w fun e w'=>∃ c nc cc,e = .returned (.tuple #[.slice c nc cc,.nilIface])∧Got w' w.heap.size (.slice c nc cc) (x-y) S∧Below w.heap.size w w':=by
 obtain ⟨xs,a1,a2,a3,a4,a5,a6⟩:=ha
 obtain ⟨ys,b1,b2,b3,b4,b5,b6⟩:=hb
 obtain ⟨s1,s2,s3,s4⟩:=subL_val a4 b4 (by omega)
 have hc:0≤cmpL xs ys:=by rcases cmpL_val a4 b4 with h|h|h <;> omega
 refine (sub_any a b na nb ca cb xs ys w a1 b1 a2 b2 (by omega) (by omega) a3 b3 a4 b4 hc s1 s2).mono ?_
 rintro e w' ⟨g,rfl,hg,hbk,hbel⟩
 have t1:tlen xs≤xs.length:=tl_le _ _
 have hl:=length_subL xs ys
 refine ⟨_,_,_,rfl,?_,hbel⟩
 rw [← a5,← b5,← s4]
 exact got_of_blk hbk s3 hg _ hl.symm (by omega) (by omega)
end Go.Proofs.YtceigfafmalfgaaGreatDoor
