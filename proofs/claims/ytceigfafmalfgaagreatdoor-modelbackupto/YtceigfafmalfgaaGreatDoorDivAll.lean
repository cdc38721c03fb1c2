import Derived.Test.YtceigfafmalfgaaGreatDoorNumAll
import Derived.Laws.Bits64b
import Derived.WalkMore
import Derived.Test.YtceigfafmalfgaaGreatDoorDigAll
namespace Go.Proofs.YtceigfafmalfgaaGreatDoor
open Go.RowKit
theorem or_add {c x P:Int} {u:Nat} (hP:P=2^u) (h0:0≤c) (h1:c<P) (hx0:0≤x) (hx1:x*P+c<18446744073709551616):bits BinOp.or IntKind.u64 c (x*P)=c+x*P:=by
 obtain ⟨c,rfl⟩:=Int.eq_ofNat_of_zero_le h0
 obtain ⟨x,rfl⟩:=Int.eq_ofNat_of_zero_le hx0
 have e:P=((2^u:Nat):Int):=by rw [hP,Int.natCast_pow];rfl
 subst hP
 rw [e] at h1 hx1 ⊢
 rw [← Int.natCast_mul] at hx1 ⊢
 have h1':c<2^u:=Int.ofNat_lt.1 h1
 rw [bits_or_u64_nat _ _ (by omega) (by omega),← Int.natCast_add]
 congr 1
 have:=Nat.shiftLeft_add_eq_or_of_lt h1' x
 rw [Nat.shiftLeft_eq] at this
 rw [Nat.or_comm,← this,Nat.add_comm]
theorem shl_parts (x P Q:Int) (hPQ:P*Q=18446744073709551616) (hP:0<P):(x*P)%18446744073709551616=x%Q*P∧x/Q=x*P/18446744073709551616:=by
 rw [← hPQ,Int.mul_comm x P]
 constructor
 ·rw [Int.mul_emod_mul_of_pos _ _ hP,Int.mul_comm]
 ·rw [Int.mul_ediv_mul_of_pos _ _ hP]
theorem part_bd {x P Q c:Int} (hPQ:P*Q=18446744073709551616) (hP:0<P) (h1:c<P):0<Q∧0≤x%Q∧x%Q*P+c<18446744073709551616:=by
 have hQ:0<Q:=by
  rcases Int.lt_trichotomy Q 0 with h|h|h
  ·have:=Int.mul_neg_of_pos_of_neg hP h;omega
  ·subst h;simp at hPQ
  ·exact h
 refine ⟨hQ,Int.emod_nonneg _ (by omega),?_⟩
 have h2:=Int.emod_lt_of_pos x hQ
 have h3:=Int.mul_le_mul_of_nonneg_right (a:=x%Q+1) (b:=Q) (c:=P) (by omega) (by omega)
 rw [Int.add_mul,Int.mul_comm Q P] at h3
 omega
theorem pw2 (k:Nat):pw k=2^(64*k):=by unfold pw;rw [Int.pow_mul];rfl
theorem vS_zeros (N n:Nat):vS (List.replicate N 0) n=0:=by
 induction n with
 | zero=>rfl
 | succ n ih=>simp only [vS];rw [ih,lm_replicate];omega
theorem shl_val {V X P Q C Z Y T pl p:Int} (hPQ:P*Q=18446744073709551616) (hP:0<P) (hZ:Z=C+X%Q*P) (hY:Y=X/Q) (hT:T=pl*p):V*(P*pl)+(Z-C)*T+(Y-0)*(T*18446744073709551616)=(V+X*p)*(P*pl):=by
 obtain ⟨e1,e2⟩:=shl_parts X P Q hPQ hP
 have e3:=mod_mul (X*P) T
 rw [e1,← e2] at e3
 have e4:X*P*T=X*p*(P*pl):=by rw [hT];ac_rfl
 rw [hZ,hY,Int.add_mul,Int.sub_zero,show C+X%Q*P-C=X%Q*P by omega]
 omega
theorem shr_lt {X P Q:Int} (hPQ:P*Q=18446744073709551616) (hP:0<P) (h1:X<18446744073709551616):X/Q<P:=by
 rw [(shl_parts X P Q hPQ hP).2]
 exact Int.ediv_lt_of_lt_mul (by decide) (by rw [Int.mul_comm P];exact Int.mul_lt_mul_of_pos_right h1 hP)
set_option maxHeartbeats 1000000 in
theorem shiftUp_any (a:Option Addr) (na ca:Nat) (xs:List Int) (n low up:Nat) (w:World) (hna:na=xs.length) (hma:na≤100000000000) (hn:n≤100000000000) (hlow:low=n/64) (hup:up=n%64) (hr:Reads w a xs) (hx:AllW xs) :
  Calls Tryz.prog 97 #[.slice a na ca,.int .i64 n] w fun e w'=>∃ U,e = .returned (.slice (some ⟨w.heap.size,0,none⟩) (low+na+1) (low+na+1))∧Blk w' w.heap.size U∧U.length=low+na+1∧AllW U∧val U=val xs*2^n∧Below w.heap.size w w':=by
 obtain ⟨P,hP⟩:∃ P:Int,P=2^up:=⟨_,rfl⟩
 obtain ⟨Q,hQ⟩:∃ Q:Int,Q=2^(64-up):=⟨_,rfl⟩
 have T1:(n:Int)%64=(up:Int):=by omega
 have D1:(n:Int)/64=(low:Int):=by omega
 have hup':up<64:=by omega
 have HPQ:Hid (P*Q=18446744073709551616):=by show _=_;rw [hP,hQ,← Int.pow_add,show up+(64-up)=64 by omega];rfl
 have HP0:Hid (0<P):=by show 0<P;rw [hP];exact Int.pow_pos (by decide)
 have HPE:Hid (P=2^up):=hP
 have HQE:Hid (Q=2^(64-up)):=hQ
 clear hP hQ
 have hlow':low≤2000000000:=by omega
 have Hna:Hid (na=xs.length):=hna
 obtain ⟨N,hN1,hN2⟩:∃ N,N≤low+na+1∧low+na+1≤N:=⟨_,Nat.le_refl _,Nat.le_refl _⟩
 clear hna hlow hup
 go_enter Tryz.func97,Tryz.ntmps97
 go_wp2_with (at_make;refine wpList_makeB _ rfl _ _ rfl _ _ N rfl rfl (by omega) (by omega) (by omega) ?_)
 intro wm hbm hbelm
 obtain ⟨G,hG⟩:∃ G,G=w.heap.size:=⟨_,rfl⟩
 have HG:Hid (G=w.heap.size):=hG
 rw [← hG] at hbm hbelm
 rw [← hG]
 clear hG
 go_wp2
 go_loopw [22] (fun s wr=>∃ (i:Nat) (U:List Int),i≤na∧s = .int .i64 i∧Blk wr G U∧U.length=N∧AllW U∧(∀ j,low+i<j→lm U j=0)∧lm U (low+i)<P∧vS U N=vS xs i*(P*pw low)∧Below G w wr) (fun s _=>na-(intOf s).toNat)
 case atStart=>exact ⟨0,_,Nat.zero_le _,rfl,hbm,by simp,fun x hx=>by rw [List.eq_of_mem_replicate hx];unfold Word;omega,fun j _=>lm_replicate _ _,by rw [lm_replicate];exact HP0.out,by rw [vS_zeros];simp [vS],hbelm⟩
 case round =>
  clear hbm hbelm
  obtain ⟨i,U,hi,rfl,hbr,hU,hUa,hz,hc,hV,hbel⟩:=hrel
  by_cases hlt:i<na
  ·have hil:(i:Int)<(na:Int):=by omega
   obtain ⟨b1,o1,rfl,hc1⟩:=hr.at (by have:=Hna.out;omega)
   have h1:=hc1 i (by have:=Hna.out;omega)
   have hb1':b1<G:=by rw [HG.out];simpa using World.block_lt_of_cell? _ _ h1
   have hcx:wr.cell? ⟨b1,o1+i,none⟩=some (.int .u64 (lm xs i)):=by rw [hbel.cell (p:=⟨b1,o1+i,none⟩) (by exact hb1')];exact h1
   have hcu:=hbr.cell (i:=low+i) (by omega)
   have hfu:=hbr.frozen (low+i)
   have hik:(low:Int)+(i:Int)<(N:Int):=by omega
   have hik1:(low:Int)+(i:Int)+1<(N:Int):=by omega
   clear hc1 h1 hr
   obtain ⟨Z,hZ⟩:∃ Z,Z=lm U (low+i)+lm xs i%Q*P:=⟨_,rfl⟩
   have HZE:Hid (Z=lm U (low+i)+lm xs i%Q*P):=hZ
   have EZ:bits BinOp.or IntKind.u64 (lm U (low+i)) (IntKind.u64.wrap (lm xs i*2^up))=Z:=by
    rw [IntKind.wrap_u64,← HPE.out,(shl_parts (lm xs i) P Q HPQ.out HP0.out).1,hZ]
    obtain ⟨_,p1,p2⟩:=part_bd (x:=lm xs i) HPQ.out HP0.out hc
    exact or_add HPE.out (hUa.at (low+i)).1 hc p1 p2
   have HZW:Hid (Word Z):=by
    show Word Z
    rw [hZ]
    obtain ⟨_,p1,p2⟩:=part_bd (x:=lm xs i) HPQ.out HP0.out hc
    have p3:=Int.mul_nonneg p1 (Int.le_of_lt HP0.out)
    have:=(hUa.at (low+i)).1
    exact ⟨by omega,by omega⟩
   have x0:=(hx.at i).1
   clear hZ
   have hcu1:=hbr.cell (i:=low+i+1) (by omega)
   have hfu1:=hbr.frozen (low+i+1)
   have HBr:Hid (Blk wr G U):=hbr
   have HBl:Hid (Below G w wr):=hbel
   have HUa:Hid (AllW U):=hUa
   have HZ:Hid (∀ j,low+i<j→lm U j=0):=hz
   have HV:Hid (vS U N=vS xs i*(P*pw low)):=hV
   have HU:Hid (U.length=N):=hU
   clear hbr hbel hUa hz hV hU
   go_wp2
   go_region
   have HB1:Blk ((wr.setCell ⟨G,low+i,none⟩ (.int .u64 Z)).drew) G (U.set (low+i) Z):=HBr.out.set (low+i) Z
   have HL1:Below G w ((wr.setCell ⟨G,low+i,none⟩ (.int .u64 Z)).drew):=(HBl.out.setCell (p:=⟨G,low+i,none⟩) (Nat.le_refl _) _).drew
   clear hcu hfu hcx EZ HBr HBl hcu1 hfu1
   generalize (wr.setCell ⟨G,low+i,none⟩ (.int .u64 Z)).drew=W1 at *
   have hcu1:=HB1.cell (i:=low+i+1) (by rw [List.length_set,HU.out];omega)
   have hfu1:=HB1.frozen (low+i+1)
   have HBr:Hid (Blk W1 G (U.set (low+i) Z)):=HB1
   have HBl:Hid (Below G w W1):=HL1
   clear HB1 HL1
   have hup2:(0:Int)≤64-(up:Int):=by omega
   have ES:lm xs i/2^(64-up)=lm xs i/Q:=by rw [HQE.out]
   obtain ⟨Y,hY⟩:∃ Y,Y=lm xs i/Q:=⟨_,rfl⟩
   rw [← hY] at ES
   have HYE:Hid (Y=lm xs i/Q):=hY
   have x1:=(hx.at i).2
   have HYP:Hid (Y<P):=by show Y<P;rw [hY];exact shr_lt HPQ.out HP0.out x1
   have HYW:Hid (Word Y):=by
    show Word Y
    rw [hY]
    have hQ0:=(part_bd (x:=0) HPQ.out HP0.out HP0.out).1
    exact ⟨Int.ediv_nonneg x0 (by omega),Int.lt_of_le_of_lt (Int.ediv_le_self _ x0) x1⟩
   have HLEN:Hid (((U.set (low+i) Z).set (low+i+1) Y).length=N):=by show _=_;simp [HU.out]
   have HVAL:Hid (vS ((U.set (low+i) Z).set (low+i+1) Y) N=vS xs (i+1)*(P*pw low)):=by
    show _=_
    rw [vS_set _ (by omega) (by rw [List.length_set,HU.out];omega),vS_set _ (by omega) (by rw [HU.out];omega),HV.out,lm_set,if_neg (by omega),HZ.out (low+i+1) (by omega),pw_succ]
    exact shl_val HPQ.out HP0.out HZE.out HYE.out (pw_add low i)
   have HZZ:Hid (∀ j,low+(i+1)<j→lm ((U.set (low+i) Z).set (low+i+1) Y) j=0):=fun j hj=>by
    rw [lm_set,if_neg (by omega),lm_set,if_neg (by omega)];exact HZ.out j (by omega)
   have HCC:Hid (lm ((U.set (low+i) Z).set (low+i+1) Y) (low+(i+1))<P):=by
    show _<_
    rw [show low+(i+1)=low+i+1 by omega,lm_set,if_pos ⟨rfl,by rw [List.length_set,HU.out];omega⟩];exact HYP.out
   have HAA:Hid (AllW ((U.set (low+i) Z).set (low+i+1) Y)):=(HUa.out.set _ _ HZW.out).set _ _ HYW.out
   have HB2:=HBr.out.set (low+i+1) Y
   have HL2:=HBl.out.setCell (p:=⟨G,low+i+1,none⟩) (Nat.le_refl _) (.int .u64 Y)
   clear hY hc
   go_wp2
   go_roundw
   case rel=>exact ⟨i+1,_,by omega,by go_num,HB2,HLEN.out,HAA.out,HZZ.out,HCC.out,HVAL.out,HL2⟩
   case measure=>simp [intOf];omega
  ·obtain rfl:i=na:=by omega
   have hil:¬ (i:Int)<(i:Int):=by omega
   have hNN:N=low+i+1:=by omega
   have HE:Hid (val U=val xs*2^n):=by
    show vS U U.length=_
    rw [hU,hV,vS_long (us:=xs) (by have:=Hna.out;omega),HPE.out,pw2,← Int.pow_add,show up+64*low=n by omega]
   have HNN:Hid (N=low+i+1):=hNN
   have HGG:=HG.out
   subst HGG
   have HUL:Hid (U.length=low+i+1):=hU.trans hNN
   clear hNN hU
   go_wp2
   go_ret
   exact ⟨by rw [HNN.out];rfl,U,hbr,HUL.out,hUa,HE.out,hbel⟩
def sdl (xs:List Int) (P Q:Int) (j:Nat):Int:=lm xs j/P+lm xs (j+1)%P*Q
theorem sdl_or {xs:List Int} {P Q:Int} {n:Nat} (hx:AllW xs) (hPQ:P*Q=18446744073709551616) (hP:0<P) (hQ:Q=2^(64-n)) (j:Nat) :
  Word (sdl xs P Q j)∧bits BinOp.or IntKind.u64 (lm xs j/P) (lm xs (j+1)*Q%18446744073709551616)=sdl xs P Q j:=by
 have hQP:Q*P=18446744073709551616:=by rw [Int.mul_comm];exact hPQ
 have hQ0:0<Q:=by rw [hQ];exact Int.pow_pos (by decide)
 have hlt:=shr_lt (X:=lm xs j) hQP hQ0 (hx.at j).2
 have h0:0≤lm xs j/P:=Int.ediv_nonneg (hx.at j).1 (by omega)
 obtain ⟨_,p1,p2⟩:=part_bd (x:=lm xs (j+1)) hQP hQ0 hlt
 have p3:=Int.mul_nonneg p1 (Int.le_of_lt hQ0)
 refine ⟨⟨?_,?_⟩,?_⟩
 ·unfold sdl;omega
 ·unfold sdl;omega
 ·rw [(shl_parts (lm xs (j+1)) Q P hQP hQ0).1]
  exact or_add hQ h0 hlt p1 p2
theorem sdl_last {xs:List Int} {P Q:Int} (j:Nat) (h:xs.length≤j+1):sdl xs P Q j=lm xs j/P:=by
 unfold sdl;rw [lm_ge h];simp
theorem sdl_vS {xs ys:List Int} {P Q:Int} (hPQ:P*Q=18446744073709551616) (k:Nat) (h:∀ j,j<k→lm ys j=sdl xs P Q j):vS ys k*P+lm xs 0%P=vS xs k+lm xs k%P*pw k:=by
 induction k with
 | zero=>simp [vS,pw]
 | succ k ih =>
  have ih:=ih (fun j hj=>h j (by omega))
  simp only [vS]
  rw [h k (by omega),pw_succ,Int.add_mul]
  have e1:sdl xs P Q k*pw k*P=(lm xs k-lm xs k%P)*pw k+lm xs (k+1)%P*(pw k*18446744073709551616):=by
   unfold sdl
   have e2:=Int.mul_ediv_add_emod (lm xs k) P
   have e3:(lm xs k/P+lm xs (k+1)%P*Q)*pw k*P=(P*(lm xs k/P))*pw k+lm xs (k+1)%P*(pw k*(P*Q)):=by
    rw [Int.add_mul,Int.add_mul]
    congr 1 <;> ac_rfl
   rw [e3,hPQ]
   congr 2
   omega
  rw [e1,Int.sub_mul]
  omega
theorem sdl_val {xs ys:List Int} {P Q:Int} (hPQ:P*Q=18446744073709551616) (hP:0<P) (hl:ys.length=xs.length) (h:∀ j,j<xs.length→lm ys j=sdl xs P Q j):val ys=val xs/P:=by
 have e:=sdl_vS hPQ xs.length h
 rw [lm_ge (Nat.le_refl _)] at e
 have h1:vS ys xs.length=val ys:=by unfold val;rw [hl]
 have h2:vS xs xs.length=val xs:=rfl
 rw [h1,h2] at e
 have h3:=Int.emod_lt_of_pos (lm xs 0) hP
 have h4:=Int.emod_nonneg (lm xs 0) (by omega:P≠0)
 simp at e
 rw [← e,Int.add_comm,Int.add_mul_ediv_right _ _ (by omega),Int.ediv_eq_zero_of_lt h4 h3]
 omega
def SDown (us:List Int) (o m:Nat) (P Q:Int) (k:Nat) (U:List Int):Prop:=U.length=us.length∧(∀ i,i<o∨o+k≤i→lm U i=lm us i)∧∀ j,j<k→lm U (o+j)=sdl ((us.drop o).take m) P Q j
set_option maxRecDepth 100000 in
set_option maxHeartbeats 1000000 in
theorem shiftDown_any (g o m cap n:Nat) (us:List Int) (w:World) (hb:Blk w g us) (hu:AllW us) (hl:o+m≤us.length) (hm:us.length≤100000000000) (hc:m≤cap) (hn:n<64) (P Q:Int) (hP:P=2^n) (hQ:Q=2^(64-n)) :
  Calls Tryz.prog 133 #[.slice (some ⟨g,o,none⟩) m cap,.int .i64 n] w fun e w'=>e = .returned (.tuple #[])∧∃ U,Blk w' g U∧SDown us o m P Q m U∧Off g w w':=by
 obtain ⟨xs,hxs⟩:∃ xs,(us.drop o).take m=xs:=⟨_,rfl⟩
 have HXS:Hid ((us.drop o).take m=xs):=hxs
 have hxl:xs.length=m:=by rw [← hxs];simp;omega
 have HXL:Hid (xs.length=m):=hxl
 have hxw:AllW xs:=by rw [← hxs];exact (fun x hx=>hu x (List.mem_of_mem_drop (List.mem_of_mem_take hx)))
 have hlx:∀ j,j<m→lm us (o+j)=lm xs j:=fun j hj=>by rw [← hxs,lm_take hj,lm_drop]
 have HLX:Hid (∀ j,j<m→lm us (o+j)=lm xs j):=hlx
 have HXW:Hid (AllW xs):=hxw
 have HPQ:Hid (P*Q=18446744073709551616):=by show _=_;rw [hP,hQ,← Int.pow_add,show n+(64-n)=64 by omega];rfl
 have HP0:Hid (0<P):=by show 0<P;rw [hP];exact Int.pow_pos (by decide)
 have HPE:Hid (P=2^n):=hP
 have HQE:Hid (Q=2^(64-n)):=hQ
 have hn2:(0:Int)≤64-(n:Int):=by omega
 obtain ⟨N,hN⟩:∃ N,us.length=N:=⟨_,rfl⟩
 have HN:Hid (us.length=N):=hN
 rw [hN] at hl hm
 clear hxs hxl hxw hlx hP hQ hu hN
 go_enter Tryz.func133,Tryz.ntmps133
 go_wp2
 go_loopw [7] (fun t wr=>∃ (k:Nat) (U:List Int),k≤m∧t = .int .i64 k∧Blk wr g U∧SDown us o m P Q k U∧Off g w wr) (fun t _=>m-(intOf t).toNat)
 case atStart=>exact ⟨0,us,Nat.zero_le _,rfl,hb,⟨rfl,fun _ _=>rfl,fun j hj=>by omega⟩,Off.refl _ _⟩
 case round =>
  clear hb
  obtain ⟨k,U,hk,rfl,hbr,hS,hoff⟩:=hrel
  have HS:Hid (SDown us o m P Q k U):=hS
  clear hS
  by_cases hlt:k<m
  ·have hkm:(k:Int)<(m:Int):=by omega
   have hcu:=hbr.cell (i:=o+k) (by rw [HS.out.1,HN.out];omega)
   rw [HS.out.2.1 (o+k) (.inr (Nat.le_refl _)),HLX.out k hlt] at hcu
   have hfu:=hbr.frozen (o+k)
   obtain ⟨x0,x1⟩:=HXW.out.at k
   have hsd:=sdl_or HXW.out HPQ.out HP0.out HQE.out k
   obtain ⟨A,hA⟩:∃ A,lm xs k/P=A:=⟨_,rfl⟩
   have ES:lm xs k/2^n=A:=by rw [← HPE.out];exact hA
   have HB1:=hbr.set (o+k) A
   have HO1:=hoff.set (o+k) (.int .u64 A)
   have HSA:Hid (lm xs k/P=A):=hA
   have HSO:Hid (bits BinOp.or IntKind.u64 A (lm xs (k+1)*Q%18446744073709551616)=sdl xs P Q k):=by show _=_;rw [← hA];exact hsd.2
   clear hA hsd hbr hoff
   obtain ⟨X,hX⟩:∃ X,lm xs k=X:=⟨_,rfl⟩
   have HXK:Hid (lm xs k=X):=hX
   rw [hX] at hcu x0 x1 ES HSA
   clear hX
   by_cases hlt2:k+1<m
   ·have hkm2:(k:Int)+1<(m:Int):=by omega
    have hcu2:=HB1.cell (i:=o+(k+1)) (by rw [List.length_set,HS.out.1,HN.out];omega)
    rw [lm_set,if_neg (by omega),HS.out.2.1 (o+(k+1)) (.inr (by omega)),HLX.out (k+1) hlt2] at hcu2
    have hcu3:=HB1.cell (i:=o+k) (by rw [List.length_set,HS.out.1,HN.out];omega)
    rw [lm_set,if_pos ⟨rfl,by rw [HS.out.1,HN.out];omega⟩] at hcu3
    have hfu2:=HB1.frozen (o+k)
    obtain ⟨y0,y1⟩:=HXW.out.at (k+1)
    obtain ⟨Z,hZ⟩:∃ Z,sdl xs P Q k=Z:=⟨_,rfl⟩
    have HZ:Hid (sdl xs P Q k=Z):=hZ
    have EZ:bits BinOp.or IntKind.u64 A (IntKind.u64.wrap (lm xs (k+1)*2^(64-n)))=Z:=by rw [IntKind.wrap_u64,← HQE.out,HSO.out,hZ]
    have HB2:=HB1.set (o+k) Z
    have HO2:=HO1.set (o+k) (.int .u64 Z)
    have HS2:Hid (SDown us o m P Q (k+1) ((U.set (o+k) A).set (o+k) Z)):=by
     obtain ⟨s1,s2,s3⟩:=HS.out
     refine ⟨by simp [s1],fun i hi=>?_,fun j hj=>?_⟩
     ·rw [lm_set,if_neg (by omega),lm_set,if_neg (by omega)];exact s2 i (by omega)
     ·rw [HXS.out]
      rcases Nat.lt_or_ge j k with h|h
      ·rw [lm_set,if_neg (by omega),lm_set,if_neg (by omega),s3 j h,HXS.out]
      ·rw [show j=k by omega,lm_set,if_pos ⟨rfl,by rw [List.length_set,s1,HN.out];omega⟩,HZ.out]
    clear hZ HB1 HO1
    generalize lm xs (k+1)=Y at *
    go_wp2
    go_region
    go_wp2
    go_roundw
    case rel=>exact ⟨k+1,_,by omega,by go_num,HB2.drew,HS2.out,HO2.drew⟩
    case measure=>simp [intOf];omega
   ·have hkm2:¬ (k:Int)+1<(m:Int):=by omega
    have HS2:Hid (SDown us o m P Q (k+1) (U.set (o+k) A)):=by
     obtain ⟨s1,s2,s3⟩:=HS.out
     refine ⟨by simp [s1],fun i hi=>?_,fun j hj=>?_⟩
     ·rw [lm_set,if_neg (by omega)];exact s2 i (by omega)
     ·rw [HXS.out]
      rcases Nat.lt_or_ge j k with h|h
      ·rw [lm_set,if_neg (by omega),s3 j h,HXS.out]
      ·rw [show j=k by omega,lm_set,if_pos ⟨rfl,by rw [s1,HN.out];omega⟩,sdl_last k (by rw [HXL.out];omega),HXK.out,HSA.out]
    clear HSO HXK
    go_wp2
    go_roundw
    case rel=>exact ⟨k+1,_,by omega,by go_num,HB1,HS2.out,HO1⟩
    case measure=>simp [intOf];omega
  ·have hkm:¬ (k:Int)<(m:Int):=by omega
   obtain rfl:k=m:=by omega
   go_wp2
   go_end0
   exact ⟨rfl,U,hbr,HS.out,hoff⟩
def tkR (us:List Int) (o:Nat) (ys:List Int) (l:Int):Nat→List Int × Int
 | 0=>(us,0)
 | k+1=>((tkR us o ys l k).1.set (o+k) ((lm (tkR us o ys l k).1 (o+k)-(lm ys k*l+(tkR us o ys l k).2)%18446744073709551616)%18446744073709551616),(lm ys k*l+(tkR us o ys l k).2)/18446744073709551616+bor (lm (tkR us o ys l k).1 (o+k)) ((lm ys k*l+(tkR us o ys l k).2)%18446744073709551616))
theorem tk_bd {x p c:Int} (p0:0≤p) (p1:p≤340282366920938463426481119284349108225) (c0:0≤c) (c1:c<18446744073709551616) (x0:0≤x):0≤(p+c)/18446744073709551616+bor x ((p+c)%18446744073709551616)∧(p+c)/18446744073709551616+bor x ((p+c)%18446744073709551616)<18446744073709551616:=by
 unfold bor
 split <;> omega
theorem tkR_ok {us ys:List Int} (o:Nat) {l:Int} (hu:AllW us) (hy:AllW ys) (hl:Word l) (k:Nat):AllW (tkR us o ys l k).1∧(tkR us o ys l k).1.length=us.length∧0≤(tkR us o ys l k).2∧(tkR us o ys l k).2<18446744073709551616:=by
 induction k with
 | zero=>simp [tkR,hu]
 | succ k ih =>
  obtain ⟨h1,h2,h3,h4⟩:=ih
  have a:=h1.at (o+k)
  have b:=hy.at k
  have c:=mul_bd b.1 b.2 hl.1 hl.2
  have d:=tk_bd c.1 c.2 h3 h4 a.1
  exact ⟨h1.set _ _ (word_mod _),by simp [tkR,h2],d.1,d.2⟩
theorem tkR_val {us ys:List Int} (o:Nat) {l:Int} (hu:AllW us) (hy:AllW ys) (hl:Word l) (k N:Nat) (h:o+k≤N) (hll:o+k≤us.length):vS (tkR us o ys l k).1 N-(tkR us o ys l k).2*pw (o+k)=vS us N-pw o*(vS ys k*l):=by
 induction k with
 | zero=>simp [tkR,vS]
 | succ k ih =>
  have ih:=ih (by omega) (by omega)
  obtain ⟨h1,h2,h3,h4⟩:=tkR_ok o hu hy hl k
  simp only [tkR,vS]
  generalize (tkR us o ys l k).1=U at *
  generalize (tkR us o ys l k).2=C at *
  rw [vS_set _ (by omega) (by omega),show o+(k+1)=(o+k)+1 by omega,pw_succ,Int.add_mul (vS ys k),Int.mul_add]
  have e2:pw o*(lm ys k*pw k*l)=lm ys k*l*pw (o+k):=by
   rw [pw_add,Int.mul_right_comm (lm ys k),Int.mul_left_comm]
  rw [e2,Int.sub_mul]
  have a:=h1.at (o+k)
  have e3:=bor_mul (lm U (o+k)) ((lm ys k*l+C)%18446744073709551616) (pw (o+k)) a.1 a.2 (by omega) (by omega)
  have e1:=mod_mul (lm ys k*l+C) (pw (o+k))
  rw [Int.sub_mul] at e3
  rw [Int.add_mul (lm ys k*l) C] at e1
  rw [Int.add_mul ((lm ys k*l+C)/18446744073709551616)]
  generalize (lm U (o+k)-(lm ys k*l+C)%18446744073709551616)%18446744073709551616*pw (o+k)=A at *
  generalize (lm ys k*l+C)%18446744073709551616*pw (o+k)=D at *
  generalize (lm ys k*l+C)/18446744073709551616*(pw (o+k)*18446744073709551616)=E at *
  generalize bor (lm U (o+k)) ((lm ys k*l+C)%18446744073709551616)*(pw (o+k)*18446744073709551616)=F at *
  omega
theorem tkR_far {us ys:List Int} (o:Nat) (l:Int) (k i:Nat) (h:i<o∨o+k≤i):lm (tkR us o ys l k).1 i=lm us i:=by
 induction k with
 | zero=>rfl
 | succ k ih=>simp only [tkR];rw [lm_set,if_neg (by omega),ih (by omega)]
theorem tk_lo (x y:Int):(x-y%18446744073709551616)%18446744073709551616=(x-y)%18446744073709551616:=by omega
theorem tk_hi (p c:Int):p/18446744073709551616+(p%18446744073709551616+c)/18446744073709551616=(p+c)/18446744073709551616:=by omega
set_option maxHeartbeats 1000000 in
theorem takeTimes_any (g o n cap:Nat) (us:List Int) (b:Option Addr) (nb cb:Nat) (ys:List Int) (l:Int) (w:World) (hb:Blk w g us) (hfit:o+n≤us.length) (hm:us.length≤1099511627776) (hu:AllW us)
  (hnb:nb=ys.length) (hle:nb≤n) (hr:Reads w b ys) (haw:ys≠[]→Away b g) (hy:AllW ys) (hl:Word l) :
  Calls Tryz.prog 149 #[.slice (some ⟨g,o,none⟩) n cap,.slice b nb cb,.int .u64 l] w fun e w'=>e = .returned (.int .u64 (tkR us o ys l ys.length).2)∧Blk w' g (tkR us o ys l ys.length).1∧Off g w w':=by
 subst hnb
 obtain ⟨l1,l2⟩:=hl
 go_enter Tryz.func149,Tryz.ntmps149
 go_wp2
 go_loopw [7,15] (fun c i wr=>∃ k:Nat,k≤ys.length∧i = .int .i64 k∧c = .int .u64 (tkR us o ys l k).2∧Blk wr g (tkR us o ys l k).1∧Off g w wr) (fun _ i _=>ys.length-(intOf i).toNat)
 case atStart=>exact ⟨0,Nat.zero_le _,rfl,rfl,hb,Off.refl _ _⟩
 case round =>
  obtain ⟨k,hk,rfl,rfl,hbr,hoff⟩:=hrel
  obtain ⟨ok1,ok2,ok3,ok4⟩:=tkR_ok o hu hy ⟨l1,l2⟩ k
  by_cases hlt:k<ys.length
  ·obtain ⟨b2,o2,rfl,hc2⟩:=hr.at (by omega)
   have HN:Hid (tkR us o ys l (k+1)=((tkR us o ys l k).1.set (o+k) ((lm (tkR us o ys l k).1 (o+k)-(lm ys k*l+(tkR us o ys l k).2)%18446744073709551616)%18446744073709551616),(lm ys k*l+(tkR us o ys l k).2)/18446744073709551616+bor (lm (tkR us o ys l k).1 (o+k)) ((lm ys k*l+(tkR us o ys l k).2)%18446744073709551616))):=rfl
   generalize hU:(tkR us o ys l k).1=U at *
   generalize hC:(tkR us o ys l k).2=C at *
   clear hU hC
   have HC2:wr.cell? ⟨b2,o2+k,none⟩=some (.int .u64 (lm ys k)):=by rw [hoff.cell (p:=⟨b2,o2+k,none⟩) (by exact haw (List.length_pos_iff.1 (by omega)) ⟨b2,o2,none⟩ rfl)];exact hc2 k hlt
   have hcg:=hbr.cell (i:=o+k) (by omega)
   have hfg:=hbr.frozen (o+k)
   obtain ⟨a10,a11⟩:=ok1.at (o+k)
   obtain ⟨a20,a21⟩:=hy.at k
   have hpb:=mul_bd a20 a21 l1 l2
   obtain ⟨p,hp⟩:∃ p,lm ys k*l=p:=⟨_,rfl⟩
   rw [hp] at hpb HN
   have HP:Hid (lm ys k*l=p):=hp
   obtain ⟨p0,p1⟩:=hpb
   have HB:=hbr.set (o+k) ((lm U (o+k)-(p+C))%18446744073709551616)
   have HO:=hoff.set (o+k) (.int .u64 ((lm U (o+k)-(p+C))%18446744073709551616))
   have hkn:(k:Int)<(n:Int):=by omega
   have hbb:=tk_bd (x:=lm U (o+k)) p0 p1 ok3 ok4 a10
   have hb01:=bor_01 (lm U (o+k)) ((p+C)%18446744073709551616)
   obtain ⟨hb0,hb1⟩:=hbb
   obtain ⟨hb2,hb3⟩:=hb01
   clear hc2 hb hr haw hbr hoff hp
   have q0:0≤p%18446744073709551616:=by omega
   have q1:0≤(p+C)%18446744073709551616:=by omega
   have q2:(p+C)%18446744073709551616<18446744073709551616:=by omega
   go_wp2_with (first|(go_at_call 145;refine (mul64_any _ _ p HP a20 a21 l1 l2 _).mono ?_;rintro e w' ⟨rfl,rfl⟩)|simp only [add64_0 (p%18446744073709551616) C q0 ok3]|simp only [sub64_0 (lm U (o+k)) ((p+C)%18446744073709551616) a10 q1 q2])
   go_roundw
   case rel=>exact ⟨k+1,by omega,by go_num,by rw [HN.out,tk_hi],by rw [HN.out,tk_lo];exact HB,HO⟩
   case measure=>simp [intOf];omega
  ·obtain rfl:k=ys.length:=by omega
   go_wp2
   go_ret
   exact ⟨rfl,hbr,hoff⟩
def TryOk (A a2 b0 b1 t:Int):Prop:=0≤t∧t<18446744073709551616∧t*b1≤(A-t*b0)*18446744073709551616+a2∧∀ Q,0≤Q→Q<18446744073709551616→Q*b1≤(A-Q*b0)*18446744073709551616+a2→Q≤t
def TryInv (A a2 b0 b1 G R O:Int):Prop:=0≤G∧G<18446744073709551616∧0≤R∧R<18446744073709551616∧0≤O∧O≤1∧A-G*b0=O*18446744073709551616+R∧∀ Q,0≤Q→Q<18446744073709551616→Q*b1≤(A-Q*b0)*18446744073709551616+a2→Q≤G
theorem TryInv.over {A a2 b0 b1 G R:Int} (h:TryInv A a2 b0 b1 G R 1) (hb1:Word b1) (ha2:Word a2):TryOk A a2 b0 b1 G:=by
 obtain ⟨h1,h2,h3,h4,h5,h6,h7,h8⟩:=h
 have m:=mul_bd h1 h2 hb1.1 hb1.2
 have:=ha2.1
 exact ⟨h1,h2,by rw [h7];omega,h8⟩
theorem TryInv.stop {A a2 b0 b1 G R p:Int} (h:TryInv A a2 b0 b1 G R 0) (hp:G*b1=p) (hs:p≤R*18446744073709551616+a2):TryOk A a2 b0 b1 G:=by
 obtain ⟨h1,h2,h3,h4,h5,h6,h7,h8⟩:=h
 exact ⟨h1,h2,by rw [h7,hp];omega,h8⟩
theorem TryInv.go {A a2 b0 b1 G R p:Int} (h:TryInv A a2 b0 b1 G R 0) (hb0:0≤b0) (hb0':b0<18446744073709551616) (hp:G*b1=p) (hs:R*18446744073709551616+a2<p) (ha2:Word a2):1≤G∧TryInv A a2 b0 b1 (G-1) ((R+b0)%18446744073709551616) ((R+b0)/18446744073709551616):=by
 obtain ⟨h1,h2,h3,h4,h5,h6,h7,h8⟩:=h
 have ha:=ha2.1
 have hG:1≤G:=by
  rcases (by omega:G=0∨1≤G) with h|h
  ·subst h;simp at hp;omega
  ·exact h
 refine ⟨hG,by omega,by omega,by omega,by omega,by omega,by omega,?_,?_⟩
 ·rw [Int.sub_mul];omega
 ·intro Q q0 q1 q2
  have q3:=h8 Q q0 q1 q2
  rcases (by omega:Q=G∨Q≤G-1) with h|h
  ·subst h;rw [h7,hp] at q2;omega
  ·exact h
theorem TryInv.start {A a2 b0 b1:Int} (hA:0≤A) (hb0:0<b0) (hb0':b0<18446744073709551616) (hA2:A<b0*18446744073709551616) (hb1:Word b1) (ha2:Word a2):TryInv A a2 b0 b1 (A/b0) (A%b0) 0:=by
 have e:=Int.mul_ediv_add_emod A b0
 rw [Int.mul_comm] at e
 have m0:=Int.emod_nonneg A (by omega:b0≠0)
 have m1:=Int.emod_lt_of_pos A hb0
 refine ⟨Int.ediv_nonneg hA (by omega),Int.ediv_lt_of_lt_mul hb0 (by rw [Int.mul_comm];exact hA2),m0,by omega,by omega,by omega,by omega,?_⟩
 intro Q q0 q1 q2
 refine (Int.le_ediv_iff_mul_le hb0).2 ?_
 have q3:=Int.mul_nonneg q0 hb1.1
 have:=ha2.2
 rcases (by omega:Q*b0≤A∨A-Q*b0≤-1) with h|h
 ·exact h
 ·have:=Int.mul_le_mul_of_nonneg_right (c:=18446744073709551616) h (by omega)
  omega
theorem TryInv.start2 {A a1 a2 b0 b1:Int} (hA:A=b0*18446744073709551616+a1) (ha1:Word a1) (hb0:0≤b0) (hb0':b0<18446744073709551616):TryInv A a2 b0 b1 18446744073709551615 ((a1+b0)%18446744073709551616) ((a1+b0)/18446744073709551616):=by
 have:=ha1.1
 have:=ha1.2
 refine ⟨by omega,by omega,by omega,by omega,by omega,by omega,by omega,fun Q _ _ _=>by omega⟩
theorem mul_hi {p R a2:Int} (h:p/18446744073709551616<R∨(p/18446744073709551616=R∧p%18446744073709551616≤a2)) (ha:0≤a2):p≤R*18446744073709551616+a2:=by omega
set_option maxRecDepth 100000 in
set_option maxHeartbeats 1000000 in
theorem tryLimb_lt (a0 a1 a2 b0 b1:Int) (w:World) (ha0:0≤a0) (ha1:Word a1) (ha2:Word a2) (hb0:0<b0) (hb0':b0<18446744073709551616) (hb1:Word b1) (hab:a0<b0) :
  Calls Tryz.prog 148 #[.agg #[.int .u64 a0,.int .u64 a1,.int .u64 a2],.agg #[.int .u64 b0,.int .u64 b1]] w fun e w'=>∃ t,e = .returned (.int .u64 t)∧TryOk (a0*18446744073709551616+a1) a2 b0 b1 t∧Below w.heap.size w w':=by
 obtain ⟨a10,a11⟩:=ha1
 obtain ⟨a20,a21⟩:=ha2
 obtain ⟨b10,b11⟩:=hb1
 go_enter Tryz.func148,Tryz.ntmps148
 go_wp2
 go_step3
 go_wp2_with fail
 refine (div64_any a0 a1 b0 _ ha0 a10 a11 hab hb0').mono ?_
 rintro e W ⟨rfl,m,hW⟩
 obtain ⟨W0,hW0⟩:∃ W0,((w.alloc (.cells #[Value.int .u64 a0,Value.int .u64 a1,Value.int .u64 a2] 193)).alloc (.cells #[Value.int .u64 b0,Value.int .u64 b1] 194))=W0:=⟨_,rfl⟩
 have hca:W0.cell? ⟨w.heap.size,2,none⟩=some (.int .u64 a2):=by rw [← hW0];simp
 have hcb0:W0.cell? ⟨w.heap.size+1,0,none⟩=some (.int .u64 b0):=by rw [← hW0];simp
 have hcb1:W0.cell? ⟨w.heap.size+1,1,none⟩=some (.int .u64 b1):=by rw [← hW0];simp
 have hbel0:Below w.heap.size w W0:=by rw [← hW0];exact ((Below.refl _ _).alloc (Nat.le_refl _) _).alloc (by simp) _
 rw [hW0] at hW
 have hca':W.cell? ⟨w.heap.size,2,none⟩=some (.int .u64 a2):=by rw [hW];exact hca
 have hcb0':W.cell? ⟨w.heap.size+1,0,none⟩=some (.int .u64 b0):=by rw [hW];exact hcb0
 have hcb1':W.cell? ⟨w.heap.size+1,1,none⟩=some (.int .u64 b1):=by rw [hW];exact hcb1
 have hbel:Below w.heap.size w W:=by rw [hW];exact belN hbel0 m
 clear hca hcb0 hcb1 hbel0 hW0 hW
 have HINV:Hid (TryInv (a0*18446744073709551616+a1) a2 b0 b1 ((a0*18446744073709551616+a1)/b0) ((a0*18446744073709551616+a1)%b0) 0):=TryInv.start (by omega) hb0 hb0' (by omega) ⟨b10,b11⟩ ⟨a20,a21⟩
 go_wp2
 go_step3
 go_wp2
 go_loopw [5,6,7] (fun g r o wr=>wr=W∧∃ G R O:Int,g = .int .u64 G∧r = .int .u64 R∧o = .int .u64 O∧TryInv (a0*18446744073709551616+a1) a2 b0 b1 G R O) (fun g _ _ _=>(intOf g).toNat)
 case atStart=>exact ⟨rfl,_,_,_,rfl,rfl,rfl,HINV.out⟩
 case round =>
  clear HINV
  obtain ⟨rfl,G,R,O,rfl,rfl,rfl,hinv⟩:=hrel
  have HINV:Hid (TryInv (a0*18446744073709551616+a1) a2 b0 b1 G R O):=hinv
  obtain ⟨g0,g1,r0,r1,o0,o1,_,_⟩:=hinv
  by_cases hO:O=0
  ·subst hO
   obtain ⟨p,hp⟩:∃ p,G*b1=p:=⟨_,rfl⟩
   have HP:Hid (G*b1=p):=hp
   have hpb:=mul_bd g0 g1 b10 b11
   rw [hp] at hpb
   obtain ⟨p0,p1⟩:=hpb
   clear hp
   have h0:((0:Int) == 0)=true:=rfl
   by_cases c1:p/18446744073709551616<R
   ·have HOK:=HINV.out.stop HP.out (mul_hi (.inl c1) a20)
    go_wp2_with fail
    refine (mul64_any _ _ p HP g0 g1 b10 b11 _).mono ?_
    rintro e w' ⟨rfl,rfl⟩
    go_wp2
    rw [Exit.noGoto_ret]
    go_ret
    exact ⟨G,rfl,HOK,hbel⟩
   ·by_cases c2:p/18446744073709551616=R
    ·by_cases c3:p%18446744073709551616≤a2
     ·have HOK:=HINV.out.stop HP.out (mul_hi (.inr ⟨c2,c3⟩) a20)
      go_wp2_with fail
      refine (mul64_any _ _ p HP g0 g1 b10 b11 _).mono ?_
      rintro e w' ⟨rfl,rfl⟩
      go_wp2
      rw [Exit.noGoto_ret]
      go_ret
      exact ⟨G,rfl,HOK,hbel⟩
     ·have hGO:=HINV.out.go (by omega) hb0' HP.out (by omega) ⟨a20,a21⟩
      have HGO:Hid (TryInv (a0*18446744073709551616+a1) a2 b0 b1 (G-1) ((R+b0)%18446744073709551616) ((R+b0)/18446744073709551616)):=hGO.2
      have hG1:=hGO.1
      clear hGO
      go_wp2_with fail
      refine (mul64_any _ _ p HP g0 g1 b10 b11 _).mono ?_
      rintro e w' ⟨rfl,rfl⟩
      go_wp2_with (simp only [add64_0 R b0 r0 (by omega)])
      go_roundw
      case rel=>exact ⟨trivial,G-1,_,_,by go_num,rfl,rfl,HGO.out⟩
      case measure=>simp [intOf];omega
    ·have hGO:=HINV.out.go (by omega) hb0' HP.out (by omega) ⟨a20,a21⟩
     have HGO:Hid (TryInv (a0*18446744073709551616+a1) a2 b0 b1 (G-1) ((R+b0)%18446744073709551616) ((R+b0)/18446744073709551616)):=hGO.2
     have hG1:=hGO.1
     clear hGO
     have c2':(p/18446744073709551616 == R)=false:=beq_eq_false_iff_ne.2 c2
     clear c2
     go_wp2_with fail
     refine (mul64_any _ _ p HP g0 g1 b10 b11 _).mono ?_
     rintro e w' ⟨rfl,rfl⟩
     go_wp2_with (simp only [add64_0 R b0 r0 (by omega)])
     go_roundw
     case rel=>exact ⟨trivial,G-1,_,_,by go_num,rfl,rfl,HGO.out⟩
     case measure=>simp [intOf];omega
  ·obtain rfl:O=1:=by omega
   have HOK:=HINV.out.over ⟨b10,b11⟩ ⟨a20,a21⟩
   clear hO
   go_wp2
   rw [Exit.noGoto_ret]
   go_ret
   exact ⟨G,rfl,HOK,hbel⟩
set_option maxRecDepth 100000 in
set_option maxHeartbeats 1000000 in
theorem tryLimb_eq (a0 a1 a2 b0 b1:Int) (w:World) (ha0:0≤a0) (ha1:Word a1) (ha2:Word a2) (hb0:0<b0) (hb0':b0<18446744073709551616) (hb1:Word b1) (hab:a0=b0) :
  Calls Tryz.prog 148 #[.agg #[.int .u64 a0,.int .u64 a1,.int .u64 a2],.agg #[.int .u64 b0,.int .u64 b1]] w fun e w'=>∃ t,e = .returned (.int .u64 t)∧TryOk (a0*18446744073709551616+a1) a2 b0 b1 t∧Below w.heap.size w w':=by
 obtain ⟨a10,a11⟩:=ha1
 obtain ⟨a20,a21⟩:=ha2
 obtain ⟨b10,b11⟩:=hb1
 go_enter Tryz.func148,Tryz.ntmps148
 go_wp2
 go_step3
 subst hab
 have HINV:Hid (TryInv (a0*18446744073709551616+a1) a2 a0 b1 18446744073709551615 ((a1+a0)%18446744073709551616) ((a1+a0)/18446744073709551616)):=TryInv.start2 rfl ⟨a10,a11⟩ ha0 hb0'
 have hlt:¬ a0<a0:=by omega
 go_wp2_with (simp only [add64_0 a1 a0 a10 ha0])
 obtain ⟨W,hW0⟩:∃ W,((w.alloc (.cells #[Value.int .u64 a0,Value.int .u64 a1,Value.int .u64 a2] 193)).alloc (.cells #[Value.int .u64 a0,Value.int .u64 b1] 194))=W:=⟨_,rfl⟩
 have hca:W.cell? ⟨w.heap.size,2,none⟩=some (.int .u64 a2):=by rw [← hW0];simp
 have hcb0:W.cell? ⟨w.heap.size+1,0,none⟩=some (.int .u64 a0):=by rw [← hW0];simp
 have hcb1:W.cell? ⟨w.heap.size+1,1,none⟩=some (.int .u64 b1):=by rw [← hW0];simp
 have hbel:Below w.heap.size w W:=by rw [← hW0];exact ((Below.refl _ _).alloc (Nat.le_refl _) _).alloc (by simp) _
 rw [hW0]
 clear hW0
 go_step3
 go_wp2
 go_loopw [5,6,7] (fun g r o wr=>wr=W∧∃ G R O:Int,g = .int .u64 G∧r = .int .u64 R∧o = .int .u64 O∧TryInv (a0*18446744073709551616+a1) a2 a0 b1 G R O) (fun g _ _ _=>(intOf g).toNat)
 case atStart=>exact ⟨rfl,_,_,_,rfl,rfl,rfl,HINV.out⟩
 case round =>
  clear HINV
  obtain ⟨rfl,G,R,O,rfl,rfl,rfl,hinv⟩:=hrel
  have HINV:Hid (TryInv (a0*18446744073709551616+a1) a2 a0 b1 G R O):=hinv
  obtain ⟨g0,g1,r0,r1,o0,o1,_,_⟩:=hinv
  by_cases hO:O=0
  ·subst hO
   obtain ⟨p,hp⟩:∃ p,G*b1=p:=⟨_,rfl⟩
   have HP:Hid (G*b1=p):=hp
   have hpb:=mul_bd g0 g1 b10 b11
   rw [hp] at hpb
   obtain ⟨p0,p1⟩:=hpb
   clear hp
   have h0:((0:Int) == 0)=true:=rfl
   by_cases c1:p/18446744073709551616<R
   ·have HOK:=HINV.out.stop HP.out (mul_hi (.inl c1) a20)
    go_wp2_with fail
    refine (mul64_any _ _ p HP g0 g1 b10 b11 _).mono ?_
    rintro e w' ⟨rfl,rfl⟩
    go_wp2
    rw [Exit.noGoto_ret]
    go_ret
    exact ⟨G,rfl,HOK,hbel⟩
   ·by_cases c2:p/18446744073709551616=R
    ·by_cases c3:p%18446744073709551616≤a2
     ·have HOK:=HINV.out.stop HP.out (mul_hi (.inr ⟨c2,c3⟩) a20)
      go_wp2_with fail
      refine (mul64_any _ _ p HP g0 g1 b10 b11 _).mono ?_
      rintro e w' ⟨rfl,rfl⟩
      go_wp2
      rw [Exit.noGoto_ret]
      go_ret
      exact ⟨G,rfl,HOK,hbel⟩
     ·have hGO:=HINV.out.go (by omega) hb0' HP.out (by omega) ⟨a20,a21⟩
      have HGO:Hid (TryInv (a0*18446744073709551616+a1) a2 a0 b1 (G-1) ((R+a0)%18446744073709551616) ((R+a0)/18446744073709551616)):=hGO.2
      have hG1:=hGO.1
      clear hGO
      go_wp2_with fail
      refine (mul64_any _ _ p HP g0 g1 b10 b11 _).mono ?_
      rintro e w' ⟨rfl,rfl⟩
      go_wp2_with (simp only [add64_0 R a0 r0 (by omega)])
      go_roundw
      case rel=>exact ⟨trivial,G-1,_,_,by go_num,rfl,rfl,HGO.out⟩
      case measure=>simp [intOf];omega
    ·have hGO:=HINV.out.go (by omega) hb0' HP.out (by omega) ⟨a20,a21⟩
     have HGO:Hid (TryInv (a0*18446744073709551616+a1) a2 a0 b1 (G-1) ((R+a0)%18446744073709551616) ((R+a0)/18446744073709551616)):=hGO.2
     have hG1:=hGO.1
     clear hGO
     have c2':(p/18446744073709551616 == R)=false:=beq_eq_false_iff_ne.2 c2
     clear c2
     go_wp2_with fail
     refine (mul64_any _ _ p HP g0 g1 b10 b11 _).mono ?_
     rintro e w' ⟨rfl,rfl⟩
     go_wp2_with (simp only [add64_0 R a0 r0 (by omega)])
     go_roundw
     case rel=>exact ⟨trivial,G-1,_,_,by go_num,rfl,rfl,HGO.out⟩
     case measure=>simp [intOf];omega
  ·obtain rfl:O=1:=by omega
   have HOK:=HINV.out.over ⟨b10,b11⟩ ⟨a20,a21⟩
   clear hO
   go_wp2
   rw [Exit.noGoto_ret]
   go_ret
   exact ⟨G,rfl,HOK,hbel⟩
/-! ### the mathematics of one step -/
theorem try_near {V D W A v d a2 b0 b1 t:Int} (hW:0<W) (hV:V=(A*18446744073709551616+a2)*W+v) (hD:D=(b0*18446744073709551616+b1)*W+d) (v0:0≤v) (v1:v<W) (d0:0≤d) (d1:d<W)
  (hb0:9223372036854775808≤b0) (hb1:0≤b1) (hVD:V<D*18446744073709551616) (hV0:0≤V) (hD0:0<D) (ht:TryOk A a2 b0 b1 t):V/D≤t∧t≤V/D+1:=by
 obtain ⟨t0,t1,t2,t3⟩:=ht
 have e1:=Int.mul_ediv_add_emod V D
 have m0:=Int.emod_nonneg V (by omega:D≠0)
 have m1:=Int.emod_lt_of_pos V hD0
 have q0:0≤V/D:=Int.ediv_nonneg hV0 (by omega)
 have q1:V/D<18446744073709551616:=Int.ediv_lt_of_lt_mul hD0 (by rw [Int.mul_comm];exact hVD)
 generalize V/D=q at *
 generalize V%D=m at *
 obtain ⟨Z,hZ⟩:∃ Z,Z=b0*18446744073709551616+b1:=⟨_,rfl⟩
 obtain ⟨T,hT⟩:∃ T,T=A*18446744073709551616+a2:=⟨_,rfl⟩
 rw [← hZ] at hD
 rw [← hT] at hV
 have conv:∀ Q,(Q*b1≤(A-Q*b0)*18446744073709551616+a2)↔Q*Z≤T:=fun Q=>by
  have e:Q*Z=Q*b0*18446744073709551616+Q*b1:=by rw [hZ,Int.mul_add,Int.mul_assoc]
  rw [e,hT,Int.sub_mul]
  constructor <;> intro h <;> omega
 rw [conv] at t2
 have hZ0:9223372036854775808*18446744073709551616≤Z:=by omega
 constructor
 ·refine t3 q q0 q1 ((conv q).2 ?_)
  have h1:q*Z*W≤q*D:=by
   rw [hD,Int.mul_add,Int.mul_assoc]
   have:=Int.mul_nonneg q0 d0
   omega
  have h2:q*Z*W<(T+1)*W:=by
   rw [Int.add_mul,Int.one_mul]
   rw [Int.mul_comm] at e1
   omega
  have:=Int.lt_of_mul_lt_mul_right h2 (by omega)
  omega
 ·rcases (by omega:t≤q+1∨q+2≤t) with h|h
  ·exact h
  ·exfalso
   have h1:t*Z*W≤T*W:=Int.mul_le_mul_of_nonneg_right t2 (by omega)
   have h2:V<(q+1)*D:=by rw [Int.add_mul,Int.one_mul];rw [Int.mul_comm] at e1;omega
   have h3:(q+1)*D<(q+1)*(Z+1)*W:=by
    rw [hD,Int.mul_add,Int.mul_assoc (q+1) (Z+1) W,Int.add_mul Z,Int.one_mul,Int.mul_add]
    have:=Int.mul_lt_mul_of_pos_left d1 (by omega:0<q+1)
    omega
   have h4:t*Z*W<(q+1)*(Z+1)*W:=by omega
   have h5:=Int.lt_of_mul_lt_mul_right h4 (by omega)
   rw [Int.mul_add,Int.mul_one] at h5
   have h6:(q+2)*Z≤t*Z:=Int.mul_le_mul_of_nonneg_right h (by omega)
   have h7:(q+2)*Z=(q+1)*Z+Z:=by rw [show q+2=(q+1)+1 by omega,Int.add_mul (q+1),Int.one_mul]
   omega
def sg (us:List Int) (o m:Nat):Int:=vS (us.drop o) m
theorem vS_split2 (xs:List Int) (q k:Nat):vS xs (q+k)=vS xs q+pw q*vS (xs.drop q) k:=by
 induction k with
 | zero=>simp [vS]
 | succ k ih =>
  show vS xs (q+k)+lm xs (q+k)*pw (q+k)=_+pw q*(vS (xs.drop q) k+lm (xs.drop q) k*pw k)
  rw [ih,lm_drop,pw_add,Int.mul_add,Int.add_assoc]
  congr 2
  ac_rfl
theorem sg_split (us:List Int) (o m:Nat):vS us (o+m)=vS us o+pw o*sg us o m:=vS_split2 us o m
theorem sg_nn {us:List Int} (hu:AllW us) (o m:Nat):0≤sg us o m∧sg us o m<pw m:=vS_nn (fun x h=>hu x (List.mem_of_mem_drop h)) m
structure Near (g:Nat) (w w':World):Prop where
 os:w'.os=w.os
 tape:w'.tape=w.tape
 output:w'.output=w.output
 size:w.heap.size≤w'.heap.size
 block:∀ k,k<w.heap.size→k≠g→w'.heap[k]? = w.heap[k]?
theorem Near.refl (g:Nat) (w:World):Near g w w:=⟨rfl,rfl,rfl,Nat.le_refl _,fun _ _ _=>rfl⟩
theorem Near.trans {g:Nat} {a b c:World} (h:Near g a b) (k:Near g b c):Near g a c :=
 ⟨k.os.trans h.os,k.tape.trans h.tape,k.output.trans h.output,Nat.le_trans h.size k.size,fun i h1 h2=>(k.block i (Nat.lt_of_lt_of_le h1 h.size) h2).trans (h.block i h1 h2)⟩
theorem Off.near {g:Nat} {w w':World} (h:Off g w w'):Near g w w':=⟨h.os,h.tape,h.output,Nat.le_of_eq h.size.symm,fun k _ h2=>h.block k h2⟩
theorem near_of {g:Nat} {w w':World} (h:Below w.heap.size w w'):Near g w w':=⟨h.os,h.tape,h.output,h.size,fun k h1 _=>h.block k h1⟩
theorem Near.below {g B:Nat} {w w':World} (h:Near g w w') (hB:B≤g) (hB2:B≤w.heap.size):Below B w w':=⟨h.os,h.tape,h.output,h.size,fun k hk=>h.block k (by omega) (by omega)⟩
theorem Reads.near {w w':World} {a:Option Addr} {xs:List Int} {g:Nat} (h:Reads w a xs) (ho:Near g w w') (ha:xs≠[]→Away a g):Reads w' a xs:=by
 rcases h with h|⟨b,o,h,hc⟩
 ·exact .inl h
 ·refine .inr ⟨b,o,h,fun i hi=>?_⟩
  have h1:=World.block_lt_of_cell? _ _ (hc i hi)
  rw [World.cell?_of_block (w:=w) (ho.block b (by simpa using h1) (ha (List.length_pos_iff.1 (by omega)) _ h))]
  exact hc i hi
theorem rip_far (o n:Nat):∀ (f:Nat) (u:List Int) (c:Int) (i:Nat),f≤n→i<o∨o+n≤i→lm (rip o n f u c) i=lm u i
 | 0,_,_,_,_,_=>rfl
 | f+1,u,c,i,hf,h=>by
  unfold rip
  split
  ·rw [rip_far o n f _ _ i (by omega) h,lm_set,if_neg (by omega)]
  ·rfl
theorem addR_far (us:List Int) (o:Nat) (ys:List Int) (k i:Nat) (h:i<o∨o+k≤i):lm (addR us o ys k).1 i=lm us i:=by
 induction k with
 | zero=>rfl
 | succ k ih=>simp only [addR];rw [lm_set,if_neg (by omega),ih (by omega)]
theorem addF_far (us:List Int) (o n:Nat) (ys:List Int) (hle:ys.length≤n) (i:Nat) (h:i<o∨o+n≤i):lm (addF us o n ys) i=lm us i:=by
 unfold addF
 rw [rip_far o n _ _ _ i (by omega) h,addR_far us o ys _ i (by omega)]
theorem addF_sg {us ys:List Int} {o n:Nat} (hu:AllW us) (hy:AllW ys) (hl:o+n≤us.length) (hle:ys.length≤n):AllW (addF us o n ys)∧∃ c,0≤c∧c≤1∧sg (addF us o n ys) o n+c*pw n=sg us o n+val ys:=by
 obtain ⟨a1,a2,a3,a4⟩:=addR_ok o hu hy ys.length
 have e:=addR_val (us:=us) (ys:=ys) o ys.length (o+n) (by omega) (by omega)
 have hf:=addF_far us o n ys hle
 unfold addF at *
 obtain ⟨h2,c',h3,h4,h5⟩:=rip_val o n (o+n) (n-ys.length) (addR us o ys ys.length).1 (addR us o ys ys.length).2 (by omega) a1 a3 a4 (by omega) (by omega)
 refine ⟨h2,c',h3,h4,?_⟩
 rw [show o+(n-(n-ys.length))=o+ys.length by omega,e,sg_split,sg_split] at h5
 generalize rip o n (n-ys.length) (addR us o ys ys.length).1 (addR us o ys ys.length).2=U at *
 have e2:vS U o=vS us o:=vS_congr fun i hi=>hf i (.inl hi)
 have e7:vS ys ys.length=val ys:=rfl
 rw [e2,e7,pw_add] at h5
 have h6:pw o*(sg U o n+c'*pw n)=pw o*(sg us o n+val ys):=by
  rw [Int.mul_add,Int.mul_add,Int.mul_left_comm (pw o) c']
  omega
 exact Int.eq_of_mul_eq_mul_left (by have:=pw_pos o;omega) h6
theorem tk_sg {us ys:List Int} {o n:Nat} {l:Int} (hu:AllW us) (hy:AllW ys) (hl:Word l) (hn:ys.length=n) (hfit:o+n+1≤us.length) :
  AllW ((tkR us o ys l n).1.set (o+n) ((lm us (o+n)-(tkR us o ys l n).2)%18446744073709551616)) ∧
  sg ((tkR us o ys l n).1.set (o+n) ((lm us (o+n)-(tkR us o ys l n).2)%18446744073709551616)) o (n+1)-bor (lm us (o+n)) (tkR us o ys l n).2*pw (n+1)=sg us o (n+1)-val ys*l:=by
 obtain ⟨h1,h2,h3,h4⟩:=tkR_ok o hu hy hl n
 have e:=tkR_val o hu hy hl n (o+(n+1)) (by omega) (by omega)
 have hx:=tkR_far (us:=us) (ys:=ys) o l n (o+n) (.inr (Nat.le_refl _))
 have hlow:∀ i,i<o→lm (tkR us o ys l n).1 i=lm us i:=fun i hi=>tkR_far o l n i (.inl hi)
 refine ⟨h1.set _ _ (word_mod _),?_⟩
 have a:=hu.at (o+n)
 have eb:=bor_mul (lm us (o+n)) (tkR us o ys l n).2 (pw (o+n)) a.1 a.2 h3 (by omega)
 generalize (tkR us o ys l n).1=U at *
 generalize (tkR us o ys l n).2=C at *
 have es:=vS_set (us:=U) (n:=o+(n+1)) ((lm us (o+n)-C)%18446744073709551616) (by omega:o+n<o+(n+1)) (by omega)
 rw [hx] at es
 have elow:vS (U.set (o+n) ((lm us (o+n)-C)%18446744073709551616)) o=vS us o:=vS_congr fun i hi=>by rw [lm_set,if_neg (by omega)];exact hlow i hi
 have s1:=sg_split (U.set (o+n) ((lm us (o+n)-C)%18446744073709551616)) o (n+1)
 have s2:=sg_split us o (n+1)
 have ey:vS ys n=val ys:=by rw [← hn];rfl
 rw [ey] at e
 rw [elow] at s1
 have ep:pw (o+n)*18446744073709551616=pw o*pw (n+1):=by rw [← pw_succ,← pw_add];rfl
 rw [ep] at eb
 rw [Int.sub_mul] at es eb
 generalize sg (U.set (o+n) ((lm us (o+n)-C)%18446744073709551616)) o (n+1)=X at *
 generalize sg us o (n+1)=Y at *
 have h6:pw o*(X-bor (lm us (o+n)) C*pw (n+1))=pw o*(Y-val ys*l):=by
  rw [Int.mul_sub,Int.mul_sub,Int.mul_left_comm (pw o) (bor (lm us (o+n)) C)]
  omega
 exact Int.eq_of_mul_eq_mul_left (by have:=pw_pos o;omega) h6
theorem sg_top (us:List Int) (o m:Nat):sg us o (m+1)=sg us o m+lm us (o+m)*pw m:=by
 show vS (us.drop o) m+lm (us.drop o) m*pw m=_
 rw [lm_drop];rfl
theorem tryLimb_le (a0 a1 a2 b0 b1:Int) (w:World) (ha0:0≤a0) (ha1:Word a1) (ha2:Word a2) (hb0:0<b0) (hb0':b0<18446744073709551616) (hb1:Word b1) (hab:a0≤b0) :
  Calls Tryz.prog 148 #[.agg #[.int .u64 a0,.int .u64 a1,.int .u64 a2],.agg #[.int .u64 b0,.int .u64 b1]] w fun e w'=>∃ t,e = .returned (.int .u64 t)∧TryOk (a0*18446744073709551616+a1) a2 b0 b1 t∧Below w.heap.size w w':=by
 rcases Int.lt_or_eq_of_le hab with h|h
 ·exact tryLimb_lt a0 a1 a2 b0 b1 w ha0 ha1 ha2 hb0 hb0' hb1 h
 ·exact tryLimb_eq a0 a1 a2 b0 b1 w ha0 ha1 ha2 hb0 hb0' hb1 h
theorem keepB {w w':World} {p:Addr} {v:Value} (hb:Below w.heap.size w w') (h:w.cell? p=some v):w'.cell? p=some v:=by
 rw [hb.cell (World.block_lt_of_cell? _ _ h)];exact h
theorem take_math (o m:Nat) (us ys:List Int) (hu:AllW us) (hnb:ys.length=m+2) (hy:AllW ys) (htop:9223372036854775808≤lm ys (m+1)) (hlt:sg us o (m+3)<val ys*18446744073709551616) :
  0<val ys∧lm us (o+(m+2))≤lm ys (m+1)∧∀ t,TryOk (lm us (o+(m+2))*18446744073709551616+lm us (o+(m+1))) (lm us (o+m)) (lm ys (m+1)) (lm ys m) t→sg us o (m+3)/val ys≤t∧t≤sg us o (m+3)/val ys+1:=by
 obtain ⟨A00,A01⟩:=hu.at (o+(m+2))
 obtain ⟨A10,A11⟩:=hu.at (o+(m+1))
 obtain ⟨A20,A21⟩:=hu.at (o+m)
 obtain ⟨B00,B01⟩:=hy.at (m+1)
 obtain ⟨B10,B11⟩:=hy.at m
 have hV0:=(sg_nn hu o (m+3)).1
 have hyv:val ys=vS ys m+lm ys m*pw m+lm ys (m+1)*pw (m+1):=by unfold val;rw [hnb];rfl
 have hd:=vS_nn hy m
 have hW:=pw_pos m
 have hsv:sg us o (m+3)=sg us o m+lm us (o+m)*pw m+lm us (o+(m+1))*pw (m+1)+lm us (o+(m+2))*pw (m+2):=by rw [sg_top,sg_top,sg_top]
 have hsn:=sg_nn hu o m
 have hD0:0<val ys:=by
  have h1:=pw_pos (m+1)
  have h2:=Int.mul_pos (by omega:0<lm ys (m+1)) h1
  have h3:=Int.mul_nonneg B10 (Int.le_of_lt hW)
  omega
 obtain ⟨A0,hA0⟩:∃ x,lm us (o+(m+2))=x:=⟨_,rfl⟩
 obtain ⟨A1,hA1⟩:∃ x,lm us (o+(m+1))=x:=⟨_,rfl⟩
 obtain ⟨A2,hA2⟩:∃ x,lm us (o+m)=x:=⟨_,rfl⟩
 obtain ⟨B0,hB0⟩:∃ x,lm ys (m+1)=x:=⟨_,rfl⟩
 obtain ⟨B1,hB1⟩:∃ x,lm ys m=x:=⟨_,rfl⟩
 rw [hA0] at A00 A01 hsv
 rw [hA1] at A10 A11 hsv
 rw [hA2] at A20 A21 hsv
 rw [hB0] at B00 B01 hyv htop
 rw [hB1] at B10 B11 hyv
 rw [hA0,hA1,hA2,hB0,hB1]
 clear hA0 hA1 hA2 hB0 hB1
 have p2:pw (m+2)=pw m*18446744073709551616*18446744073709551616:=by rw [pw_succ,pw_succ]
 have p1:pw (m+1)=pw m*18446744073709551616:=pw_succ m
 have HVE:Hid (sg us o (m+3)=((A0*18446744073709551616+A1)*18446744073709551616+A2)*pw m+sg us o m):=by
  show _=_
  rw [hsv,p2,p1,Int.add_mul,Int.add_mul,Int.add_mul]
  have e1:A0*18446744073709551616*18446744073709551616*pw m=A0*(pw m*18446744073709551616*18446744073709551616):=by ac_rfl
  have e2:A1*18446744073709551616*pw m=A1*(pw m*18446744073709551616):=by ac_rfl
  omega
 have HDE:Hid (val ys=(B0*18446744073709551616+B1)*pw m+vS ys m):=by
  show _=_
  rw [hyv,p1,Int.add_mul]
  have e2:B0*18446744073709551616*pw m=B0*(pw m*18446744073709551616):=by ac_rfl
  omega
 have hAB:A0≤B0:=by
  rcases (by omega:A0≤B0∨B0+1≤A0) with h|h
  ·exact h
  ·exfalso
   have h1:=Int.mul_le_mul_of_nonneg_right (c:=pw m*18446744073709551616*18446744073709551616) h (by omega)
   rw [Int.add_mul,Int.one_mul] at h1
   have h2:=HDE.out
   have h3:=HVE.out
   have e1:((A0*18446744073709551616+A1)*18446744073709551616+A2)*pw m=A0*(pw m*18446744073709551616*18446744073709551616)+(A1*18446744073709551616+A2)*pw m:=by
    have e3:(A0*18446744073709551616+A1)*18446744073709551616+A2=A0*340282366920938463463374607431768211456+(A1*18446744073709551616+A2):=by omega
    rw [e3,Int.add_mul]
    congr 1
    rw [Int.mul_assoc,Int.mul_comm 340282366920938463463374607431768211456 (pw m),Int.mul_assoc (pw m)]
    rfl
   have h4:=Int.mul_nonneg (by omega:0≤A1*18446744073709551616+A2) (Int.le_of_lt hW)
   have h5:(B0*18446744073709551616+B1)*pw m≤(B0*18446744073709551616+18446744073709551615)*pw m:=Int.mul_le_mul_of_nonneg_right (by omega) (by omega)
   have h6:(B0*18446744073709551616+18446744073709551615)*pw m=B0*(pw m*18446744073709551616)+18446744073709551615*pw m:=by rw [Int.add_mul,Int.mul_assoc,Int.mul_comm 18446744073709551616 (pw m)]
   have h7:B0*(pw m*18446744073709551616)*18446744073709551616=B0*(pw m*18446744073709551616*18446744073709551616):=Int.mul_assoc _ _ _
   have h8:B0*(pw m*18446744073709551616)*18446744073709551616+pw m*18446744073709551616*18446744073709551616≤val ys*18446744073709551616→False:=by
    intro h
    omega
   omega
 exact ⟨hD0,hAB,fun t ht=>try_near hW HVE.out HDE.out hsn.1 hsn.2 hd.1 hd.2 htop B10 hlt hV0 hD0 ht⟩
theorem wrap_id (n:Nat) (h:n≤200000000000):IntKind.i64.wrap (n:Int)=(n:Int):=by rw [IntKind.wrap_i64];omega
theorem take_fin0 {V D t X P:Int} (hD:0<D) (hn:V/D≤t∧t≤V/D+1) (hX0:0≤X) (hE:X-0*P=V-D*t):t=V/D∧X=V%D:=by
 have e:=Int.mul_ediv_add_emod V D
 have m1:=Int.emod_lt_of_pos V hD
 generalize V/D=q at *
 generalize V%D=m at *
 have h:t=q:=by
  rcases (by omega:t=q∨t=q+1) with h|h
  ·exact h
  ·subst h
   rw [Int.mul_add] at hE
   omega
 subst h
 exact ⟨rfl,by omega⟩
theorem take_fin1 {V D t X P Y c:Int} (hD:0<D) (hn:V/D≤t∧t≤V/D+1) (hV0:0≤V) (hX1:X<P) (hE:X-1*P=V-D*t) (hY1:Y<P) (c0:0≤c) (c1:c≤1) (hY:Y+c*P=X+D):1≤t∧t-1=V/D∧Y=V%D:=by
 have e:=Int.mul_ediv_add_emod V D
 have m0:=Int.emod_nonneg V (by omega:D≠0)
 have q0:=Int.ediv_nonneg hV0 (by omega:0≤D)
 have m2:V%D≤V:=by
  have:=Int.mul_nonneg (by omega:0≤D) q0
  omega
 generalize V/D=q at *
 generalize V%D=m at *
 have h:t=q+1:=by
  rcases (by omega:t=q∨t=q+1) with h|h
  ·subst h;omega
  ·exact h
 subst h
 rw [Int.mul_add,Int.mul_one] at hE
 rcases (by omega:c=0∨c=1) with h|h
 ·subst h;omega
 ·subst h;exact ⟨by omega,by omega,by omega⟩
set_option maxRecDepth 100000 in
set_option maxHeartbeats 1000000 in
theorem takeMost_any (g o m la ca:Nat) (us:List Int) (b1 o1 nB cb:Nat) (ys:List Int) (w:World) (ela:la=m+3) (enB:nB=m+2) (hb:Blk w g us) (hfit:o+(m+2)+1≤us.length) (hm:us.length≤100000000000) (hu:AllW us)
  (hnb:ys.length=m+2) (hr:∀ i,i<m+2→w.cell? ⟨b1,o1+i,none⟩=some (.int .u64 (lm ys i))) (haw:b1≠g) (hy:AllW ys) (htop:9223372036854775808≤lm ys (m+1)) (hlt:sg us o (m+3)<val ys*18446744073709551616) :
  Calls Tryz.prog 136 #[.slice (some ⟨g,o,none⟩) la ca,.slice (some ⟨b1,o1,none⟩) nB cb] w fun e w'=>∃ t,e = .returned (.int .u64 t)∧t=sg us o (m+3)/val ys∧∃ U,Blk w' g U∧U.length=us.length∧AllW U∧(∀ i,i<o∨o+(m+3)≤i→lm U i=lm us i)∧sg U o (m+3)=sg us o (m+3)%val ys∧Near g w w':=by
 obtain ⟨hD0,hAB,hnear⟩:=take_math o m us ys hu hnb hy htop hlt
 obtain ⟨A00,A01⟩:=hu.at (o+(m+2))
 obtain ⟨A10,A11⟩:=hu.at (o+(m+1))
 obtain ⟨A20,A21⟩:=hu.at (o+m)
 obtain ⟨_,B01⟩:=hy.at (m+1)
 obtain ⟨B10,B11⟩:=hy.at m
 have B00:0<lm ys (m+1):=by omega
 have ca2:=hb.cell (i:=o+(m+2)) (by omega)
 have ca1:=hb.cell (i:=o+(m+1)) (by omega)
 have ca0:=hb.cell (i:=o+m) (by omega)
 have cb1:=hr (m+1) (by omega)
 have cb0:=hr m (by omega)
 obtain ⟨n1,hn1⟩:∃ n1,n1=m+1:=⟨_,rfl⟩
 have E1:(nB:Int)-1=(n1:Int):=by omega
 have E2:(nB:Int)-2=(m:Int):=by omega
 have i2:(nB:Int)<(la:Int):=by omega
 have i1:(n1:Int)<(la:Int):=by omega
 have i0:(m:Int)<(la:Int):=by omega
 have j1:(n1:Int)<(nB:Int):=by omega
 have j0:(m:Int)<(nB:Int):=by omega
 have hnB2:nB≤200000000000:=by omega
 have hn12:n1≤200000000000:=by omega
 have hm2:m≤100000000000:=by omega
 rw [← enB] at ca2 hAB hnear A00 A01
 rw [← hn1] at ca1 cb1 hAB hnear A10 A11 B00 B01
 have ELA:Hid (la=m+3):=ela
 have ENB:Hid (nB=m+2):=enB
 have HR:Hid (∀ i,i<m+2→w.cell? ⟨b1,o1+i,none⟩=some (.int .u64 (lm ys i))):=hr
 have HB:Hid (Blk w g us):=hb
 have HU:Hid (AllW us):=hu
 have HY:Hid (AllW ys):=hy
 have HN:Hid (ys.length=m+2):=hnb
 have HLT:Hid (0<val ys):=hD0
 have HFIT:Hid (o+(m+2)+1≤us.length):=hfit
 have HM:Hid (us.length≤100000000000):=hm
 clear ela enB hn1 hr hb hu hy hnb hlt htop hD0 hfit hm
 obtain ⟨A0,hA0⟩:∃ x,lm us (o+nB)=x:=⟨_,rfl⟩
 obtain ⟨A1,hA1⟩:∃ x,lm us (o+n1)=x:=⟨_,rfl⟩
 obtain ⟨A2,hA2⟩:∃ x,lm us (o+m)=x:=⟨_,rfl⟩
 obtain ⟨B0,hB0⟩:∃ x,lm ys n1=x:=⟨_,rfl⟩
 obtain ⟨B1,hB1⟩:∃ x,lm ys m=x:=⟨_,rfl⟩
 rw [hA0] at ca2 A00 A01 hAB hnear
 rw [hA1] at ca1 A10 A11 hnear
 rw [hA2] at ca0 A20 A21 hnear
 rw [hB0] at cb1 B00 B01 hAB hnear
 rw [hB1] at cb0 B10 B11 hnear
 have HA0:Hid (lm us (o+nB)=A0):=hA0
 have HNEAR:Hid (∀ t,TryOk (A0*18446744073709551616+A1) A2 B0 B1 t→sg us o (m+3)/val ys≤t∧t≤sg us o (m+3)/val ys+1):=hnear
 have W1:=wrap_id n1 hn12
 have W2:=wrap_id m (Nat.le_trans hm2 (by decide))
 have z1:(0:Int)≤(n1:Int):=Int.natCast_nonneg _
 have z0:(0:Int)≤(m:Int):=Int.natCast_nonneg _
 clear hA0 hA1 hA2 hB0 hB1 hnear
 go_enter Tryz.func136,Tryz.ntmps136
 go_wp2_with fail
 go_region_held3 (fun w'=>w'.cell? ⟨g,o+nB,none⟩=some (.int .u64 A0)∧w'.cell? ⟨g,o+n1,none⟩=some (.int .u64 A1)∧w'.cell? ⟨g,o+m,none⟩=some (.int .u64 A2)∧w'.cell? ⟨b1,o1+n1,none⟩=some (.int .u64 B0)∧w'.cell? ⟨b1,o1+m,none⟩=some (.int .u64 B1))
  (first|(go_keep;done)|(refine ⟨?_,?_,?_,?_,?_⟩ <;> first|exact keepB hbr (by go_keep)))
  ((first
   | (go_at_call 148;go_fit (tryLimb_le A0 A1 A2 B0 B1 _ A00 ⟨A10,A11⟩ ⟨A20,A21⟩ B00 B01 ⟨B10,B11⟩ hAB);rintro e w1 ⟨t,rfl,HTRY,hbr⟩)))
 have hbA:Below w.heap.size w w1:=bel_tr (belN (Below.refl w.heap.size w) 1) hbr
 have hnear:=HNEAR.out t HTRY
 obtain ⟨t0,t1,_,_⟩:=HTRY
 have HTN:Hid (sg us o (m+3)/val ys≤t∧t≤sg us o (m+3)/val ys+1):=hnear
 have hbl:=HB.out.below hbA HB.out.lt
 have hrl:Reads w1 (some ⟨b1,o1,none⟩) ys:=(show Reads w (some ⟨b1,o1,none⟩) ys from .inr ⟨b1,o1,rfl,fun i hi=>HR.out i (by rw [HN.out] at hi;exact hi)⟩).below hbA
 have HN1:=near_of (g:=g) hbA
 clear ca2 ca1 ca0 cb1 cb0 hbr hbA hnear
 obtain ⟨U,hU⟩:∃ U,(tkR us o ys t ys.length).1=U:=⟨_,rfl⟩
 obtain ⟨C,hC⟩:∃ C,(tkR us o ys t ys.length).2=C:=⟨_,rfl⟩
 obtain ⟨u1,u2,c0,c1⟩:=tkR_ok o HU.out HY.out ⟨t0,t1⟩ ys.length
 have hUf:lm U (o+nB)=A0:=by rw [← hU,tkR_far o t _ (o+nB) (.inr (by rw [HN.out,ENB.out];exact Nat.le_refl _))];exact HA0.out
 have HTK:∀ w',Blk w' g us→Reads w' (some ⟨b1,o1,none⟩) ys→Calls Tryz.prog 149 #[.slice (some ⟨g,o,none⟩) la ca,.slice (some ⟨b1,o1,none⟩) nB cb,.int .u64 t] w' fun e w2=>e = .returned (.int .u64 C)∧(w2.cell? ⟨g,o+nB,none⟩=some (.int .u64 A0)∧w2.frozen? ⟨g,o+nB,none⟩=false)∧Blk w2 g U∧Off g w' w2:=by
  intro w' h1 h2
  refine (takeTimes_any g o la ca us (some ⟨b1,o1,none⟩) nB cb ys t w' h1 (by have:=HFIT.out;have:=ELA.out;omega) (by have:=HM.out;omega) HU.out (by rw [HN.out];exact ENB.out) (by have:=ENB.out;have:=ELA.out;omega) h2 (fun _ q hq=>by cases hq;exact haw) HY.out ⟨t0,t1⟩).mono ?_
  rintro e w2 ⟨rfl,h3,h4⟩
  rw [hU] at h3
  refine ⟨by rw [hC],⟨?_,h3.frozen _⟩,h3,h4⟩
  have:=h3.cell (i:=o+nB) (by rw [← hU,u2];have:=HFIT.out;have:=ENB.out;omega)
  rw [hUf] at this
  exact this
 rw [hU] at u1 u2
 rw [hC] at c0 c1
 have HS:∀ w':World,(callFunc 144 #[.int .u64 A0,.int .u64 C,.int .u64 0]).run Tryz.prog w' = .ok (.value (.tuple #[.int .u64 ((A0-C)%18446744073709551616),.int .u64 (bor A0 C)])) w':=fun w'=>sub64_0 A0 C A00 c0 c1 w'
 have ca2:=hbl.cell (i:=o+nB) (by have:=HFIT.out;have:=ENB.out;omega)
 rw [HA0.out] at ca2
 have cf2:=hbl.frozen (o+nB)
 have HUU:Hid ((tkR us o ys t ys.length).1=U):=hU
 have HCC:Hid ((tkR us o ys t ys.length).2=C):=hC
 have HUW:Hid (AllW U):=u1
 have HUL:Hid (U.length=us.length):=u2
 have HBL:Hid (Blk w1 g us):=hbl
 have HRL:Hid (Reads w1 (some ⟨b1,o1,none⟩) ys):=hrl
 obtain ⟨U3,hU3⟩:∃ U3,U.set (o+nB) ((A0-C)%18446744073709551616)=U3:=⟨_,rfl⟩
 have HU3:Hid (U.set (o+nB) ((A0-C)%18446744073709551616)=U3):=hU3
 have htk:=tk_sg (us:=us) (ys:=ys) (o:=o) (n:=nB) (l:=t) HU.out HY.out ⟨t0,t1⟩ (by rw [HN.out];exact ENB.out.symm) (by have:=HFIT.out;have:=ENB.out;omega)
 have eyl:ys.length=nB:=by rw [HN.out];exact ENB.out.symm
 rw [eyl] at hU hC
 rw [hU,hC,HA0.out,hU3,show nB+1=m+3 by rw [ENB.out]] at htk
 obtain ⟨htW,htE⟩:=htk
 have HW3:Hid (AllW U3):=htW
 have HL3:Hid (U3.length=us.length):=by show _=_;rw [← hU3,List.length_set,HUL.out]
 have HF3:Hid (∀ i,i<o∨o+(m+3)≤i→lm U3 i=lm us i):=fun i hi=>by
  rw [← hU3,lm_set,if_neg (by rw [ENB.out];omega),← hU,tkR_far o t nB i (by rw [ENB.out];omega)]
 have HE3:Hid (sg U3 o (m+3)-bor A0 C*pw (m+3)=sg us o (m+3)-val ys*t):=htE
 have hbor:=bor_01 A0 C
 clear hU hC u1 u2 hUf hbl hrl hU3 htW htE eyl HUU HCC
 go_wp2_with fail
 go_region_with (first
  | (go_at_call 149;go_fit (HTK _ HBL.out.drew (HRL.out.below (belN (Below.refl _ _) 1)));rintro e w2 ⟨rfl,⟨hk1,hk2⟩,hB2,hO2⟩))
 ·have hO1:Off g w1 w2:=(Off.refl g w1).drew.trans hO2
  have hB3:=hB2.set (o+nB) ((A0-C)%18446744073709551616)
  rw [HU3.out] at hB3
  have HN3:=HN1.trans (hO1.set (o+nB) (.int .u64 ((A0-C)%18446744073709551616))).near
  have hR3:=HRL.out.near (hO1.set (o+nB) (.int .u64 ((A0-C)%18446744073709551616))).near (fun _ q hq=>by cases hq;exact haw)
  clear hk1 hk2 hB2 hO2 hO1 ca2 cf2 HS HTK
  obtain ⟨W3,hW3⟩:∃ W3,w2.setCell ⟨g,o+nB,none⟩ (.int .u64 ((A0-C)%18446744073709551616))=W3:=⟨_,rfl⟩
  rw [hW3] at hB3 HN3 hR3
  rw [hW3]
  clear hW3
  obtain ⟨be,hbe⟩:∃ be,bor A0 C=be:=⟨_,rfl⟩
  have HE4:Hid (sg U3 o (m+3)-be*pw (m+3)=sg us o (m+3)-val ys*t):=hbe ▸ HE3.out
  rw [hbe] at hbor
  rw [hbe]
  clear hbe HE3
  rcases (by omega:be=0∨be=1) with h|h
  ·subst h
   have hf:Hid (t=sg us o (m+3)/val ys∧sg U3 o (m+3)=sg us o (m+3)%val ys):=take_fin0 HLT.out HTN.out (sg_nn HW3.out o (m+3)).1 HE4.out
   go_wp2
   go_ret
   exact ⟨t,rfl,hf.out.1,U3,hB3,HL3.out,HW3.out,HF3.out,hf.out.2,HN3⟩
  ·subst h
   obtain ⟨aW,c,c0',c1',aE⟩:=addF_sg (us:=U3) (ys:=ys) (o:=o) (n:=m+3) HW3.out HY.out (by rw [HL3.out];have:=HFIT.out;omega) (by rw [HN.out];omega)
   have hf:=take_fin1 HLT.out HTN.out (sg_nn HU.out o (m+3)).1 (sg_nn HW3.out o (m+3)).2 HE4.out (sg_nn aW o (m+3)).2 c0' c1' aE
   obtain ⟨hf1,hf2,hf3⟩:=hf
   have HF1:Hid (t-1=sg us o (m+3)/val ys):=hf2
   have HF2:Hid (sg (addF U3 o (m+3) ys) o (m+3)=sg us o (m+3)%val ys):=hf3
   have HAW:Hid (AllW (addF U3 o (m+3) ys)):=aW
   have HAF:Hid (∀ i,i<o∨o+(m+3)≤i→lm (addF U3 o (m+3) ys) i=lm us i):=fun i hi=>by rw [addF_far U3 o (m+3) ys (by rw [HN.out];omega) i hi];exact HF3.out i hi
   have HAL:Hid ((addF U3 o (m+3) ys).length=us.length):=by show _=_;rw [length_addF,HL3.out]
   clear hf2 hf3 aW aE c0' c1'
   go_wp2_with fail
   refine (addTo_any g o la ca U3 (some ⟨b1,o1,none⟩) nB cb ys W3 hB3 (by rw [HL3.out,ELA.out];have:=HFIT.out;omega) (by rw [HL3.out];have:=HM.out;omega) HW3.out (by rw [HN.out];exact ENB.out) (by rw [ENB.out,ELA.out];omega) hR3 (fun _ q hq=>by cases hq;exact haw) HY.out).mono ?_
   rintro e w4 ⟨rfl,hB4,hO4⟩
   rw [ELA.out] at hB4
   have HN4:=HN3.trans hO4.near
   clear hB3 HN3 hO4 hR3
   go_wp2
   go_ret
   exact ⟨t-1,rfl,HF1.out,_,hB4,HAL.out,HAW.out,HAF.out,HF2.out,HN4⟩
 ·have hO1:Off g w1 w2:=(Off.refl g w1).drew.trans hO2
  have hB3:=hB2.set (o+nB) ((A0-C)%18446744073709551616)
  rw [HU3.out] at hB3
  have HN3:=HN1.trans (hO1.set (o+nB) (.int .u64 ((A0-C)%18446744073709551616))).near
  have hR3:=HRL.out.near (hO1.set (o+nB) (.int .u64 ((A0-C)%18446744073709551616))).near (fun _ q hq=>by cases hq;exact haw)
  clear hk1 hk2 hB2 hO2 hO1 ca2 cf2 HS HTK
  obtain ⟨W3,hW3⟩:∃ W3,w2.setCell ⟨g,o+nB,none⟩ (.int .u64 ((A0-C)%18446744073709551616))=W3:=⟨_,rfl⟩
  rw [hW3] at hB3 HN3 hR3
  rw [hW3]
  clear hW3
  obtain ⟨be,hbe⟩:∃ be,bor A0 C=be:=⟨_,rfl⟩
  have HE4:Hid (sg U3 o (m+3)-be*pw (m+3)=sg us o (m+3)-val ys*t):=hbe ▸ HE3.out
  rw [hbe] at hbor
  rw [hbe]
  clear hbe HE3
  rcases (by omega:be=0∨be=1) with h|h
  ·subst h
   have hf:Hid (t=sg us o (m+3)/val ys∧sg U3 o (m+3)=sg us o (m+3)%val ys):=take_fin0 HLT.out HTN.out (sg_nn HW3.out o (m+3)).1 HE4.out
   go_wp2
   go_ret
   exact ⟨t,rfl,hf.out.1,U3,hB3,HL3.out,HW3.out,HF3.out,hf.out.2,HN3⟩
  ·subst h
   obtain ⟨aW,c,c0',c1',aE⟩:=addF_sg (us:=U3) (ys:=ys) (o:=o) (n:=m+3) HW3.out HY.out (by rw [HL3.out];have:=HFIT.out;omega) (by rw [HN.out];omega)
   have hf:=take_fin1 HLT.out HTN.out (sg_nn HU.out o (m+3)).1 (sg_nn HW3.out o (m+3)).2 HE4.out (sg_nn aW o (m+3)).2 c0' c1' aE
   obtain ⟨hf1,hf2,hf3⟩:=hf
   have HF1:Hid (t-1=sg us o (m+3)/val ys):=hf2
   have HF2:Hid (sg (addF U3 o (m+3) ys) o (m+3)=sg us o (m+3)%val ys):=hf3
   have HAW:Hid (AllW (addF U3 o (m+3) ys)):=aW
   have HAF:Hid (∀ i,i<o∨o+(m+3)≤i→lm (addF U3 o (m+3) ys) i=lm us i):=fun i hi=>by rw [addF_far U3 o (m+3) ys (by rw [HN.out];omega) i hi];exact HF3.out i hi
   have HAL:Hid ((addF U3 o (m+3) ys).length=us.length):=by show _=_;rw [length_addF,HL3.out]
   clear hf2 hf3 aW aE c0' c1'
   go_wp2_with fail
   refine (addTo_any g o la ca U3 (some ⟨b1,o1,none⟩) nB cb ys W3 hB3 (by rw [HL3.out,ELA.out];have:=HFIT.out;omega) (by rw [HL3.out];have:=HM.out;omega) HW3.out (by rw [HN.out];exact ENB.out) (by rw [ENB.out,ELA.out];omega) hR3 (fun _ q hq=>by cases hq;exact haw) HY.out).mono ?_
   rintro e w4 ⟨rfl,hB4,hO4⟩
   rw [ELA.out] at hB4
   have HN4:=HN3.trans hO4.near
   clear hB3 HN3 hO4 hR3
   go_wp2
   go_ret
   exact ⟨t-1,rfl,HF1.out,_,hB4,HAL.out,HAW.out,HAF.out,HF2.out,HN4⟩
set_option maxHeartbeats 400000 in
theorem lead_any (x:Int) (w:World) (h0:0<x) (h1:x<18446744073709551616) :
  Calls Tryz.prog 135 #[.int .u64 x] w fun e w'=>∃ s:Nat,e = .returned (.int .i64 s)∧s<64∧9223372036854775808≤x*2^s∧x*2^s<18446744073709551616∧w=w':=by
 obtain ⟨X,rfl⟩:=Int.eq_ofNat_of_zero_le (by omega:0≤x)
 obtain ⟨b1,b2,b3,b4⟩:=bitLen_spec X (by omega) (by omega)
 have hc:=len64_any (X:Int) w (by omega) h1
 rw [Int.toNat_natCast] at hc
 generalize Lib.bitLen X=L at *
 obtain ⟨s,hs⟩:∃ s:Nat,s=64-L:=⟨_,rfl⟩
 have E:(64:Int)-(L:Int)=(s:Int):=by omega
 have e1:(2:Nat)^(L-1)*2^s=9223372036854775808:=by rw [← Nat.pow_add,show L-1+s=63 by omega]
 have e2:(2:Nat)^L*2^s=18446744073709551616:=by rw [← Nat.pow_add,show L+s=64 by omega]
 have f1:=Nat.mul_le_mul_right (2^s) b3
 have f2:=Nat.mul_lt_mul_of_pos_right b1 (Nat.pow_pos (n:=s) (by decide:0<2))
 have HA:Hid (9223372036854775808≤(X:Int)*2^s):=by
  have:(2:Int)^s=((2^s:Nat):Int):=by rw [Int.natCast_pow];rfl
  show _≤_
  rw [this,← Int.natCast_mul];omega
 have HB:Hid ((X:Int)*2^s<18446744073709551616):=by
  have:(2:Int)^s=((2^s:Nat):Int):=by rw [Int.natCast_pow];rfl
  show _<_
  rw [this,← Int.natCast_mul];omega
 have hs64:s<64:=by omega
 clear e1 e2 f1 f2 b1 b3 hs
 go_enter Tryz.func135,Tryz.ntmps135
 go_wp2_with fail
 refine hc.mono ?_
 rintro e w1 ⟨rfl,rfl⟩
 go_wp2
 go_ret
 exact ⟨s,rfl,hs64,HA.out,HB.out,rfl⟩
/-! ### the long division's mathematics -/
theorem top_ge {ys zs:List Int} {m:Nat} {P:Int} (hy:AllW ys) (hz:AllW zs) (hyl:ys.length=m+2) (hzl:zs.length=m+2) (hP:0<P) (ht:9223372036854775808≤lm ys (m+1)*P) (hv:val zs=val ys*P):9223372036854775808≤lm zs (m+1):=by
 have e1:val ys=vS ys (m+1)+lm ys (m+1)*pw (m+1):=by unfold val;rw [hyl];rfl
 have e2:val zs=vS zs (m+1)+lm zs (m+1)*pw (m+1):=by unfold val;rw [hzl];rfl
 have h1:=(vS_nn hy (m+1)).1
 have h2:=(vS_nn hz (m+1)).2
 have hp:=pw_pos (m+1)
 have h3:lm ys (m+1)*P*pw (m+1)≤val zs:=by
  rw [hv,e1,Int.add_mul,Int.mul_right_comm]
  have:=Int.mul_nonneg h1 (Int.le_of_lt hP)
  omega
 have h4:9223372036854775808*pw (m+1)≤lm ys (m+1)*P*pw (m+1):=Int.mul_le_mul_of_nonneg_right ht (by omega)
 have h5:9223372036854775808*pw (m+1)<(lm zs (m+1)+1)*pw (m+1):=by rw [Int.add_mul (lm zs (m+1)),Int.one_mul];omega
 have:=Int.lt_of_mul_lt_mul_right h5 (by omega)
 omega
theorem lm_small {us:List Int} (hu:AllW us) {k:Nat} (h:val us<pw k) {i:Nat} (hi:k≤i):lm us i=0:=by
 rcases Nat.lt_or_ge i us.length with hl|hl
 ·have h1:=val_lt_tlen hu
  have h2:tlen us≤k:=by
   rcases Nat.lt_or_ge k (tlen us) with g|g
   ·have:=val_ge hu (by omega)
    have:=pw_mono (a:=k) (b:=tlen us-1) (by omega)
    omega
   ·exact g
  exact (tl_spec us us.length).1 i (by unfold tlen at h2;omega) hl
 ·exact lm_ge hl
theorem val_take {us:List Int} (hu:AllW us) {k:Nat} (hk:k≤us.length) (h:val us<pw k):val (us.take k)=val us:=by
 have e:vS us k=val us:=by
  rw [← vS_long (us:=us) (n:=us.length) (Nat.le_refl _)]
  exact (vS_tail hk (fun i h1 _=>lm_small hu h h1)).symm
 rw [← e]
 unfold val
 rw [List.length_take,Nat.min_eq_left hk]
 exact vS_congr fun i hi=>lm_take hi
theorem div_step {us U:List Int} {m j:Nat} {D:Int} (hu:AllW us) (hD:D<pw (m+2)) (hD0:0<D) (hl:U.length=us.length) (hlt:val us<D*pw (j+1)) (hfar:∀ i,i<j∨j+(m+3)≤i→lm U i=lm us i) (hsg:sg U j (m+3)=sg us j (m+3)%D) (hfit:j+(m+3)≤us.length) :
  val us=sg us j (m+3)/D*pw j*D+val U∧val U<D*pw j:=by
 have hz:∀ i,j+(m+3)≤i→lm us i=0:=fun i hi=>by
  refine lm_small hu (k:=j+(m+3)) ?_ hi
  have h1:D*pw (j+1)<pw (m+2)*pw (j+1):=Int.mul_lt_mul_of_pos_right hD (pw_pos _)
  rw [← pw_add] at h1
  have h2:=pw_mono (a:=m+2+(j+1)) (b:=j+(m+3)) (by omega)
  omega
 have e1:val us=vS us j+pw j*sg us j (m+3):=by
  rw [← sg_split,← vS_long (us:=us) (n:=us.length) (Nat.le_refl _)]
  exact vS_tail hfit (fun i h1 _=>hz i h1)
 have e2:val U=vS us j+pw j*sg U j (m+3):=by
  have e3:vS U j=vS us j:=vS_congr fun i hi=>hfar i (.inl hi)
  rw [← e3,← sg_split,← vS_long (us:=U) (n:=U.length) (Nat.le_refl _)]
  exact vS_tail (by omega) (fun i h1 _=>by rw [hfar i (.inr h1)];exact hz i h1)
 have hd:=Int.mul_ediv_add_emod (sg us j (m+3)) D
 have hm:=Int.emod_lt_of_pos (sg us j (m+3)) hD0
 have hn:=vS_nn hu j
 have hp:=pw_pos j
 rw [hsg] at e2
 generalize sg us j (m+3)/D=q at *
 generalize sg us j (m+3)%D=r at *
 constructor
 ·rw [e1,e2,← hd,Int.mul_add]
  have:pw j*(D*q)=q*pw j*D:=by ac_rfl
  omega
 ·rw [e2]
  have h1:pw j*(r+1)≤pw j*D:=Int.mul_le_mul_of_nonneg_left (by omega) (by omega)
  rw [Int.mul_add,Int.mul_one] at h1
  rw [Int.mul_comm D]
  omega
theorem allW_drop2 {xs:List Int} (hx:AllW xs) (q:Nat):AllW (xs.drop q):=fun x h=>hx x (List.mem_of_mem_drop h)
theorem sg_lt {us:List Int} {m j:Nat} {D:Int} (hu:AllW us) (hlt:val us<D*pw (j+1)) (hfit:j+(m+3)≤us.length):sg us j (m+3)<D*18446744073709551616:=by
 have h1:vS us (j+(m+3))≤val us:=by
  have e:=vS_split2 us (j+(m+3)) (us.length-(j+(m+3)))
  rw [show j+(m+3)+(us.length-(j+(m+3)))=us.length by omega] at e
  have e3:vS us us.length=val us:=rfl
  have h2:=(vS_nn (allW_drop2 hu (j+(m+3))) (us.length-(j+(m+3)))).1
  have h3:=Int.mul_nonneg (Int.le_of_lt (pw_pos (j+(m+3)))) h2
  omega
 rw [sg_split] at h1
 have hn:=(vS_nn hu j).1
 have hp:=pw_pos j
 have h2:sg us j (m+3)*pw j<D*18446744073709551616*pw j:=by
  rw [Int.mul_comm,Int.mul_assoc,Int.mul_comm 18446744073709551616 (pw j),← pw_succ]
  omega
 exact Int.lt_of_mul_lt_mul_right h2 (by omega)
theorem Blk.near {w w':World} {g k:Nat} {us:List Int} (h:Blk w k us) (ho:Near g w w') (hk:k≠g):Blk w' k us:=by
 unfold Blk;rw [ho.block k h.lt hk];exact h
theorem shUp (a:Option Addr) (na ca:Nat) (xs:List Int) (s:Nat) (w:World) (hna:na=xs.length) (hma:na≤100000000000) (hs:s<64) (hr:Reads w a xs) (hx:AllW xs) :
  Calls Tryz.prog 97 #[.slice a na ca,.int .i64 s] w fun e w'=>∃ g U,e = .returned (.slice (some ⟨g,0,none⟩) (na+1) (na+1))∧w.heap.size≤g∧Blk w' g U∧U.length=na+1∧AllW U∧val U=val xs*2^s∧Below w.heap.size w w':=by
 refine (shiftUp_any a na ca xs s 0 s w hna hma (by omega) (by omega) (by omega) hr hx).mono ?_
 rintro e w' ⟨U,rfl,h1,h2,h3,h4,h5⟩
 exact ⟨_,U,by rw [Nat.zero_add],Nat.le_refl _,h1,by omega,h3,h4,h5⟩
theorem got_of_norm {w:World} {g B S:Nat} {xs:List Int} (h:Blk w g (trimL xs)) (hx:AllW xs) (hB:B≤g) (hS:xs.length≤S) (hm:xs.length≤1000000000000):Got w B (.slice (some ⟨g,0,none⟩) (tlen xs) (tlen xs)) (val xs) S:=by
 have hl:tlen xs≤xs.length:=tl_le _ _
 have h1:=h.row (trimL xs).length (by rw [length_trimL];unfold maxLen;omega)
 rw [List.take_length] at h1
 have h2:=h1.own hB
 rw [length_trimL] at h2
 exact ⟨trimL xs,h2,NF.trimL hx,val_trimL xs,by rw [length_trimL];omega⟩
theorem div_fin2 {x y d Q p:Int} (h:x*d=Q*(y*d)+p) (h0:0≤p) (h1:p<y*d) (hd:0<d) (hy:0<y):Q=x/y∧p/d=x%y:=by
 have e:p=(x-Q*y)*d:=by rw [Int.sub_mul,Int.mul_assoc];omega
 have e1:p/d=x-Q*y:=by rw [e,Int.mul_ediv_cancel _ (by omega)]
 have m0:0≤x-Q*y:=by
  by_cases h:0≤x-Q*y
  ·exact h
  ·have:=Int.mul_neg_of_neg_of_pos (by omega:x-Q*y<0) hd;omega
 have m1:x-Q*y<y:=Int.lt_of_mul_lt_mul_right (a:=d) (by omega) (by omega)
 have:=(Int.ediv_emod_unique hy).2 ⟨(by rw [Int.mul_comm y];omega:(x-Q*y)+y*Q=x),m0,m1⟩
 exact ⟨this.1.symm,by rw [e1];exact this.2.symm⟩
theorem SDown.val2 {us U:List Int} {m:Nat} {P Q:Int} (h:SDown us 0 m P Q m U) (hm:m=us.length) (hu:AllW us) (hPQ:P*Q=18446744073709551616) (hP:0<P) {n:Nat} (hQ:Q=2^(64-n)):AllW U∧Go.Proofs.YtceigfafmalfgaaGreatDoor.val U=Go.Proofs.YtceigfafmalfgaaGreatDoor.val us/P:=by
 obtain ⟨h1,h2,h3⟩:=h
 subst hm
 have e:(us.drop 0).take us.length=us:=by simp
 rw [e] at h3
 have h4:∀ j,j<us.length→lm U j=sdl us P Q j:=fun j hj=>by have:=h3 j hj;rwa [Nat.zero_add] at this
 refine ⟨?_,sdl_val hPQ hP h1 h4⟩
 intro x hx
 obtain ⟨j,hj,e⟩:=List.getElem_of_mem hx
 have e2:lm U j=x:=by unfold lm;rw [List.getD_eq_getElem?_getD,List.getElem?_eq_getElem hj,e];rfl
 rw [← e2,h4 j (by omega)]
 exact (sdl_or hu hPQ hP hQ j).1
theorem val_ge2 {ys:List Int} {m:Nat} (hy:AllW ys) (hl:ys.length=m+2) (ht:0<lm ys (m+1)):pw (m+1)≤val ys:=by
 have e1:val ys=vS ys (m+1)+lm ys (m+1)*pw (m+1):=by unfold val;rw [hl];rfl
 have h1:=(vS_nn hy (m+1)).1
 have h2:=Int.mul_le_mul_of_nonneg_right (a:=1) (b:=lm ys (m+1)) (c:=pw (m+1)) (by omega) (Int.le_of_lt (pw_pos _))
 omega
theorem shl_fits {ys:List Int} {m:Nat} {P Q:Int} (hy:AllW ys) (hl:ys.length=m+2) (hP:0<P) (hPQ:P*Q=18446744073709551616) (ht:lm ys (m+1)*P<18446744073709551616):val ys*P<pw (m+2):=by
 have e1:val ys=vS ys (m+1)+lm ys (m+1)*pw (m+1):=by unfold val;rw [hl];rfl
 have h1:=(vS_nn hy (m+1)).2
 have hp:=pw_pos (m+1)
 have h2:lm ys (m+1)<Q:=Int.lt_of_mul_lt_mul_right (a:=P) (by rw [Int.mul_comm Q,hPQ];exact ht) (by omega)
 have h3:(lm ys (m+1)+1)*P≤Q*P:=Int.mul_le_mul_of_nonneg_right (by omega) (by omega)
 rw [Int.mul_comm Q,hPQ] at h3
 have h4:val ys<(lm ys (m+1)+1)*pw (m+1):=by rw [Int.add_mul,Int.one_mul];omega
 have h5:=Int.mul_lt_mul_of_pos_right h4 hP
 have h6:(lm ys (m+1)+1)*pw (m+1)*P=(lm ys (m+1)+1)*P*pw (m+1):=Int.mul_right_comm _ _ _
 have h7:=Int.mul_le_mul_of_nonneg_right h3 (Int.le_of_lt hp)
 rw [show m+2=(m+1)+1 by omega,pw_succ,Int.mul_comm (pw (m+1))]
 omega
set_option maxRecDepth 100000 in
set_option maxHeartbeats 1000000 in
theorem divide_ex (a:Option Addr) (na ca:Nat) (xs:List Int) (b:Option Addr) (nb cb m:Nat) (ys:List Int) (w:World) (h1:na=xs.length) (h3:Reads w a xs) (h4:AllW xs) (hna:na≤100000000) (enb:nb=m+2) (k1:ys.length=m+2) (k3:Reads w b ys) (k4:AllW ys) (htop:0<lm ys (m+1)) (hle:nb≤na) :
  Calls Tryz.prog 101 #[.slice a na ca,.slice b nb cb] w fun e w'=>∃ c n cc c' n' cc',e = .returned (.tuple #[.slice c n cc,.slice c' n' cc'])∧Got w' w.heap.size (.slice c n cc) (val xs/val ys) na∧Got w' w.heap.size (.slice c' n' cc') (val xs%val ys) na∧(∀ g,(Value.slice c n cc).ownBlock=some g→(Value.slice c' n' cc').ownBlock≠some g)∧Below w.heap.size w w'∧n'=cc':=by
 obtain ⟨b1,o1,rfl,hcb⟩:=k3.at (by omega)
 have hct:=hcb (m+1) (by omega)
 obtain ⟨t0,t1⟩:=k4.at (m+1)
 obtain ⟨n1,hn1⟩:∃ n1,n1=m+1:=⟨_,rfl⟩
 rw [← hn1] at hct htop t0 t1
 have E1:(nb:Int)-1=(n1:Int):=by omega
 have j1:(n1:Int)<(nb:Int):=by omega
 have hn12:n1≤200000000:=by omega
 have W1:=wrap_id n1 (by omega)
 have hnb2:nb≤100000000:=by omega
 have H1:Hid (na=xs.length):=h1
 have ENB:Hid (nb=m+2):=enb
 have EN1:Hid (n1=m+1):=hn1
 have K1:Hid (ys.length=m+2):=k1
 clear h1 enb hn1 k1 hcb
 go_enter Tryz.func101,Tryz.ntmps101
 go_wp2_with fail
 refine (lead_any (lm ys n1) _ htop t1).mono ?_
 rintro e w1 ⟨s,rfl,hs64,hs1,hs2,rfl⟩
 have HS1:Hid (9223372036854775808≤lm ys n1*2^s):=hs1
 have HS2:Hid (lm ys n1*2^s<18446744073709551616):=hs2
 clear hct hs1 hs2
 have hnbI:(nb:Int)≤(nb:Int)+1:=by omega
 go_wp2_with fail
 go_region_held3 (fun w'=>True)
  (trivial)
  ((first
   | (go_at_call 97;go_fit (shUp a na ca xs s _ H1.out (by omega) hs64 (h3.below (belN (Below.refl _ _) 1)) h4);rintro e wA ⟨ga,UA,rfl,hga,hBA,hLA,hWA,hVA,hbA⟩)
   | (go_at_call 97;go_fit (shUp (some ⟨b1,o1,none⟩) nb cb ys s _ (by rw [K1.out];exact ENB.out) (by omega) hs64 (k3.below (bel_tr (belN (Below.refl _ _) 1) hbA)) k4);rintro e wB ⟨gb,UB,rfl,hgb,hBB,hLB,hWB,hVB,hbB⟩)))
 have HT:Below w.heap.size w wB:=bel_tr (bel_tr (belN (Below.refl w.heap.size w) 1) hbA) hbB
 have hga':w.heap.size≤ga:=hga
 have hgaA:=hBA.lt
 have hBA2:=hBA.below hbB hBA.lt
 have hgbB:=hBB.lt
 have hsA:w.heap.size≤wA.heap.size:=by have:=hbA.size;simpa using this
 obtain ⟨P,hP⟩:∃ P:Int,2^s=P:=⟨_,rfl⟩
 have hP0:0<P:=by rw [← hP];exact Int.pow_pos (by decide)
 have HPE:Hid ((2:Int)^s=P):=hP
 rw [hP] at hVA hVB
 have HS1':Hid (9223372036854775808≤lm ys (m+1)*P):=by have:=HS1.out;rw [hP,EN1.out] at this;exact this
 have HYB:Hid (val ys*P<pw (m+2)):=by
  have h1:=HS2.out
  rw [hP,EN1.out] at h1
  refine shl_fits k4 K1.out (Q:=2^(64-s)) hP0 ?_ h1
  rw [← hP,← Int.pow_add,show s+(64-s)=64 by omega];rfl
 have HZV:Hid (val (UB.take nb)=val ys*P):=by show _=_;rw [val_take hWB (by omega) (by rw [hVB,ENB.out];exact HYB.out),hVB]
 have HZL:Hid ((UB.take nb).length=m+2):=by show _=_;rw [List.length_take,hLB,← ENB.out];omega
 have hZW:AllW (UB.take nb):=hWB.take nb
 have HZT:=top_ge k4 hZW K1.out HZL.out hP0 HS1'.out HZV.out
 have hyv0:0<val ys:=by
  have h1:=val_ge2 k4 K1.out (by rw [← EN1.out];exact htop)
  have:=pw_pos (m+1)
  omega
 have HD0:Hid (0<val ys*P):=Int.mul_pos hyv0 hP0
 have HHI:Hid (val ys*P<pw (m+2)):=HYB.out
 have HX0:Hid (val xs*P<val ys*P*pw (na-nb+1)):=by
  show _<_
  have h1:=val_lt h4
  have h2:=val_ge2 k4 K1.out (by rw [← EN1.out];exact htop)
  have h3:pw (m+1)*pw (na-nb+1)≤val ys*pw (na-nb+1):=Int.mul_le_mul_of_nonneg_right h2 (Int.le_of_lt (pw_pos _))
  rw [← pw_add,show m+1+(na-nb+1)=xs.length by rw [← H1.out];have:=ENB.out;omega] at h3
  rw [Int.mul_right_comm]
  exact Int.mul_lt_mul_of_pos_right (by omega) hP0
 obtain ⟨c,hc⟩:∃ c,c=na-nb+1:=⟨_,rfl⟩
 have HC:Hid (c=na-nb+1):=hc
 have EC:(na:Int)-(nb:Int)+1=(c:Int):=by omega
 have hcb:c≤100000001:=by omega
 have hcn:c+nb=na+1:=by omega
 have HCN:Hid (c+nb=na+1):=hcn
 rw [← hc] at HX0
 have HLA:Hid (UA.length=na+1):=hLA
 have HLB:Hid (UB.length=nb+1):=hLB
 have HVA:Hid (val UA=val xs*P):=hVA
 have hdisj:ga<gb:=by omega
 clear hP hc hcn hBA hbA hbB hga hLA hLB hVA hVB h3 h4 k3 k4 t0 t1 htop E1 j1 W1 HS1 HS2
 go_wp2_with (at_make;refine wpList_makeB _ rfl _ _ rfl _ _ c rfl rfl (by omega) (by omega) (by omega) ?_)
 intro wm hbm hbelm
 have hBA3:=hBA2.below hbelm hBA2.lt
 have hBB3:=hBB.below hbelm hBB.lt
 have HT3:=bel_tr HT hbelm
 obtain ⟨G,hG⟩:∃ G,G=wB.heap.size:=⟨_,rfl⟩
 rw [← hG] at hbm
 rw [← hG]
 have hGb:gb<G:=by omega
 have hGw:w.heap.size≤G:=by have:=HT.size;omega
 clear hG hBA2 hBB hbelm HT hgaA hgbB hsA hgb
 go_wp2
 go_loopw [10] (fun t wr=>∃ (k:Nat) (R Uq:List Int),k≤c∧t = .int .i64 ((k:Int)-1)∧Blk wr ga R∧R.length=na+1∧AllW R∧Blk wr G Uq∧Uq.length=c∧AllW Uq∧(∀ j,j<k→lm Uq j=0)∧Blk wr gb UB∧val xs*P=vS Uq c*(val ys*P)+val R∧val R<val ys*P*pw k∧Below w.heap.size w wr) (fun t _=>((intOf t)+1).toNat)
 case atStart=>exact ⟨c,UA,_,Nat.le_refl _,rfl,hBA3,HLA.out,hWA,hbm,by simp,fun x hx=>by rw [List.eq_of_mem_replicate hx];unfold Word;omega,fun j _=>lm_replicate _ _,hBB3,by rw [vS_zeros,HVA.out];omega,by rw [HVA.out];exact HX0.out,HT3⟩
 case round =>
  clear hbm hBA3 hBB3 HT3
  obtain ⟨k,R,Uq,hk,rfl,hR,hRl,hRw,hQ,hQl,hQw,hQz,hB,hV,hlt,hbel⟩:=hrel
  have HRl:Hid (R.length=na+1):=hRl
  have HRw:Hid (AllW R):=hRw
  have HQl:Hid (Uq.length=c):=hQl
  have HQw:Hid (AllW Uq):=hQw
  have HQz:Hid (∀ j,j<k→lm Uq j=0):=hQz
  have HV:Hid (val xs*P=vS Uq c*(val ys*P)+val R):=hV
  have HLT:Hid (val R<val ys*P*pw k):=hlt
  clear hRl hRw hQl hQw hQz hV hlt
  by_cases hk0:k=0
  ·subst hk0
   have HFIN:Hid (val Uq=val xs/val ys∧val R/P=val xs%val ys):=by
    have e:=HV.out
    have e2:vS Uq c=val Uq:=by unfold val;rw [HQl.out]
    rw [e2] at e
    have h2:=HLT.out
    rw [pw_zero,Int.mul_one] at h2
    exact div_fin2 e (val_nn HRw.out) h2 hP0 hyv0
   have hSD:=shiftDown_any ga 0 (na+1) (na+1) s R wr hR HRw.out (by rw [HRl.out];omega) (by rw [HRl.out];omega) (Nat.le_refl _) hs64 P (2^(64-s)) HPE.out.symm rfl
   have HPQ:Hid (P*2^(64-s)=18446744073709551616):=by show _=_;rw [← HPE.out,← Int.pow_add,show s+(64-s)=64 by omega];rfl
   clear hR hB
   go_wp2_with fail
   refine hSD.mono ?_
   rintro e w2 ⟨rfl,U2,hU2,hS2,hO2⟩
   clear hSD
   have hL2:=hS2.1
   obtain ⟨hW2,hV2⟩:=hS2.val2 HRl.out.symm HRw.out HPQ.out hP0 rfl
   rw [HFIN.out.2] at hV2
   have HV2:Hid (val U2=val xs%val ys):=hV2
   have HL2:Hid (U2.length=na+1):=hL2.trans HRl.out
   have hQ2:=hQ.off hO2 (by omega)
   have hbel2:=hbel.trans (hO2.below hga')
   have hqr:Reads w2 (some ⟨G,0,none⟩) Uq:=by have:=hQ2.reads Uq.length;rwa [List.take_length] at this
   have hrr:Reads w2 (some ⟨ga,0,none⟩) (U2.take nb):=hU2.reads nb
   have HTL:Hid (nb=(U2.take nb).length):=by show _=_;rw [List.length_take,HL2.out];omega
   have HVT:Hid (val (U2.take nb)=val xs%val ys):=by
    show _=_
    rw [val_take hW2 (by rw [HL2.out];omega) ?_,HV2.out]
    rw [HV2.out,ENB.out]
    have h1:=Int.emod_lt_of_pos (val xs) hyv0
    have h2:=Int.mul_le_mul_of_nonneg_left (a:=1) (b:=P) (c:=val ys) (by omega) (Int.le_of_lt hyv0)
    rw [Int.mul_one] at h2
    have h3:=HHI.out
    omega
   have hWT:AllW (U2.take nb):=hW2.take nb
   have HGQ:=got_of_blk (B:=w.heap.size) hQ2 HQw.out hGw c HQl.out.symm (S:=na) (by rw [HQl.out];have:=HC.out;have:=ENB.out;omega) (by rw [HQl.out];omega)
   rw [HFIN.out.1] at HGQ
   have hnI:(nb:Int)≤(na:Int)+1:=by omega
   have hgl2:=hbel2.size
   have hGl:=hQ2.lt
   clear hS2 hO2 hQ hbel hV2 hL2 HFIN HV HLT hU2
   go_wp2_with fail
   go_region_held3 (fun w'=>True)
    (trivial)
    ((first
     | (go_at_call 74;go_fit (trim_any (some ⟨G,0,none⟩) c c Uq _ HQl.out.symm (Nat.le_refl _) (by omega) (hqr.below (belN (Below.refl _ _) 1)));rintro e wz ⟨rfl,rfl⟩)
     | (go_at_call 95;go_fit (norm_any (some ⟨ga,0,none⟩) nb (na+1) (U2.take nb) _ HTL.out (by omega) (by omega) (hrr.below (belN (Below.refl _ _) 1)));rintro e wC ⟨gr,rfl,hgr,hBr,hbC⟩)))
   have HB2:Below w.heap.size w wC:=bel_tr (bel_tr hbel2 (belN (Below.refl _ _) 1)) hbC
   have hgr':w2.heap.size≤gr:=hgr
   have G1:=(HGQ.below (bel_tr (belN (Below.refl _ _) 1) hbC))
   have G2:=got_of_norm (B:=w.heap.size) (S:=na) hBr hWT (by omega) (by rw [← HTL.out];omega) (by rw [← HTL.out];omega)
   rw [HVT.out] at G2
   clear HGQ hBr hbC hbel2
   go_wp2
   go_ret2
   exact ⟨_,_,_,_,_,_,rfl,G1,G2,fun g hg e=>by simp [Value.ownBlock] at hg e;omega,HB2,rfl⟩
  ·obtain ⟨j,rfl⟩:∃ j,k=j+1:=⟨k-1,by omega⟩
   have hjc:j<c:=by omega
   have hjI:(j:Int)<(c:Int):=by omega
   obtain ⟨hi,hhi⟩:∃ hi,hi=j+nb+1:=⟨_,rfl⟩
   have EH:(j:Int)+(nb:Int)+1=(hi:Int):=by omega
   have hhi1:(j:Int)≤(hi:Int):=by omega
   have hhi2:(hi:Int)≤(na:Int)+1:=by have:=HCN.out;omega
   have hhi3:hi≤na+1:=by omega
   have hjna:j≤na+1:=by omega
   have ELA:Hid (hi-j=m+3):=by show _=_;have:=ENB.out;omega
   have HFJ:Hid (j+(m+3)≤R.length):=by show _≤_;rw [HRl.out];have:=ELA.out;omega
   have HSG:=sg_lt (m:=m) HRw.out HLT.out HFJ.out
   have hrz:∀ i,i<m+2→wr.cell? ⟨gb,0+i,none⟩=some (.int .u64 (lm (UB.take nb) i)):=fun i hi=>by
    rw [lm_take (by have:=ENB.out;omega),Nat.zero_add]
    exact hB.cell (by rw [HLB.out];have:=ENB.out;omega)
   have HTM:=takeMost_any ga j m (hi-j) (na+1-j) R gb 0 nb (nb+1) (UB.take nb) wr ELA.out ENB.out hR (by have:=HFJ.out;omega) (by rw [HRl.out];omega) HRw.out HZL.out hrz (by omega) hZW HZT (by rw [HZV.out];exact HSG)
   clear hrz hhi
   go_wp2_with fail
   refine HTM.mono ?_
   rintro e w2 ⟨t,rfl,ht,U,hU,hUl,hUw,hUf,hUs,hN⟩
   clear HTM
   rw [HZV.out] at ht hUs
   have hst:=div_step (m:=m) HRw.out HHI.out HD0.out hUl HLT.out hUf hUs HFJ.out
   have ht0:0≤t:=by rw [ht];exact Int.ediv_nonneg (sg_nn HRw.out j (m+3)).1 (Int.le_of_lt HD0.out)
   have ht1:t<18446744073709551616:=by rw [ht];exact Int.ediv_lt_of_lt_mul HD0.out (by rw [Int.mul_comm];exact HSG)
   rw [← ht] at hst
   have hQ2:=hQ.near hN (by omega)
   have hB2:=hB.near hN (by omega)
   have hbel2:=hbel.trans (hN.below (B:=w.heap.size) hga' (by have:=hbel.size;omega))
   have hcq:=hQ2.cell (i:=j) (by rw [HQl.out];exact hjc)
   rw [HQz.out j (by omega)] at hcq
   have hfq:=hQ2.frozen j
   have hQ3:=hQ2.set j t
   have hO3:=(Off.refl G w2).set j (.int .u64 t)
   have hU3:=hU.off hO3 (by omega)
   have hB3:=hB2.off hO3 (by omega)
   have hbel3:=hbel2.trans (hO3.below hGw)
   have HL3:Hid ((Uq.set j t).length=c):=by show _=_;rw [List.length_set,HQl.out]
   have HW3:Hid (AllW (Uq.set j t)):=HQw.out.set _ _ ⟨ht0,ht1⟩
   have HZ3:Hid (∀ i,i<j→lm (Uq.set j t) i=0):=fun i hi=>by rw [lm_set,if_neg (by omega)];exact HQz.out i (by omega)
   have HUL:Hid (U.length=na+1):=hUl.trans HRl.out
   have HV3:Hid (val xs*P=vS (Uq.set j t) c*(val ys*P)+val U):=by
    show _=_
    rw [vS_set _ hjc (by rw [HQl.out];exact hjc),HQz.out j (by omega),Int.sub_zero,Int.add_mul,HV.out,hst.1]
    omega
   have HLT3:Hid (val U<val ys*P*pw j):=hst.2
   clear ht hUs hst hUl hUf hN hR hQ hB hbel hQ2 hB2 hbel2 hO3 hU HSG
   go_wp2
   go_roundw
   case rel=>exact ⟨j,U,_,by omega,by go_num,hU3,HUL.out,hUw,hQ3,HL3.out,HW3.out,HZ3.out,hB3,HV3.out,HLT3.out,hbel3⟩
   case measure=>simp [intOf]
theorem tlen_top {ys:List Int} {m:Nat} (hy:AllW ys) (h:tlen ys=m+1):0<lm ys m:=by
 have h1:=(hy.at m).1
 have h2:=(tl_spec ys ys.length).2 (by unfold tlen at h;omega)
 unfold tlen at h
 rw [h] at h2
 simp at h2
 omega
set_option maxHeartbeats 400000 in
theorem ofGx (v:Int) (w:World) (h0:0≤v) (h1:v<18446744073709551616) :
  Calls Tryz.prog 58 #[.int .u64 v] w fun e w'=>∃ a n cap,e = .returned (.slice a n cap)∧Got w' w.heap.size (.slice a n cap) v 1∧Below w.heap.size w w'∧(0<v→n=cap):=by
 rcases (by omega:v=0∨0<v) with h|h
 ·subst h
  refine (ofG 0 w h0 h1).mono ?_
  rintro e w' ⟨a,n,cap,rfl,G,hb⟩
  exact ⟨a,n,cap,rfl,G,hb,fun h=>by omega⟩
 ·have hv:(v == 0)=false:=beq_eq_false_iff_ne.2 (by omega)
  have hB:Blk (w.alloc (.cells #[Value.int .u64 v] 57)) w.heap.size [v]:=blk_new [v]
  have hW:AllW [v]:=fun x hx=>by simp at hx;subst hx;exact ⟨h0,h1⟩
  have ht:tlen [v]=1:=by
   unfold tlen
   show tl [v] (0+1)=1
   unfold tl
   rw [if_neg (by simp [lm];omega)]
  have hG:=got_of_blk (B:=w.heap.size) (S:=1) hB hW (Nat.le_refl _) 1 rfl (Nat.le_refl _) (by simp)
  rw [ht,show val [v]=v by simp [val,vS,lm,pw]] at hG
  have hb:Below w.heap.size w (w.alloc (.cells #[Value.int .u64 v] 57)):=(Below.refl _ _).alloc (Nat.le_refl _) _
  clear hB ht
  go_enter Tryz.func58,Tryz.ntmps58
  go_wp2
  go_ret
  exact ⟨_,_,_,rfl,hG,hb,fun _=>rfl⟩
set_option maxRecDepth 100000 in
set_option maxHeartbeats 1000000 in
theorem divGx {a b:Option Addr} {na nb ca cb:Nat} {x y:Int} {S R:Nat} (w:World) (ha:Num w a na ca x S) (hb:Num w b nb cb y R) (hS:S≤10000000) (hR:R≤10000000) (hy:0<y) :
  Calls Tryz.prog 72 #[.slice a na ca,.slice b nb cb] w fun e w'=>∃ c n cc c' n' cc',e = .returned (.tuple #[.slice c n cc,.slice c' n' cc',.nilIface])∧Got w' w.heap.size (.slice c n cc) (x/y) (S+1)∧Got w' w.heap.size (.slice c' n' cc') (x%y) (S+1)∧(∀ g,(Value.slice c n cc).ownBlock=some g→(Value.slice c' n' cc').ownBlock≠some g)∧Below w.heap.size w w'∧(0<x%y→n'=cc'):=by
 obtain ⟨xs,a1,a2,a3,a4,a5,a6⟩:=ha
 obtain ⟨ys,b1,b2,b3,b4,b5,b6⟩:=hb
 have Ha:Hid (na=xs.length):=a1
 have Hb:Hid (nb=ys.length):=b1
 have ta:tlen xs≤xs.length:=tl_le _ _
 have tb:tlen ys≤ys.length:=tl_le _ _
 have hta:tlen xs≤S:=by omega
 have htb:tlen ys≤R:=by omega
 have htn:tlen ys≠0:=fun h=>by have:=(tlen_zero b4).1 h;omega
 have HX:Hid (val (trimL xs)=x):=by show _=_;rw [val_trimL];exact a5
 have HY:Hid (val (trimL ys)=y):=by show _=_;rw [val_trimL];exact b5
 have HXL:Hid (tlen xs=(trimL xs).length):=(length_trimL xs).symm
 have HYL:Hid ((trimL ys).length=tlen ys):=length_trimL ys
 have hra:Reads w a (trimL xs):=a3.take _
 have hrb:Reads w b (trimL ys):=b3.take _
 have hxw:=a4.trim
 have hyw:=b4.trim
 have HTOP:Hid (∀ m,tlen ys=m+1→0<lm (trimL ys) m):=fun m h=>by
  rw [lm_trimL (by omega)];exact tlen_top b4 h
 have HLT:Hid (tlen xs<tlen ys→x<y):=fun h=>by
  have h1:=val_lt_tlen a4
  have h2:=val_ge b4 (by omega)
  have h3:=pw_mono (a:=tlen xs) (b:=tlen ys-1) (by omega)
  omega
 have hx0:0≤x:=by rw [← a5];exact val_nn a4
 go_enter Tryz.func72,Tryz.ntmps72
 clear a1 b1 a5 b5 ta tb
 go_wp2_with fail
 refine (trim_any a na ca xs w Ha.out a2 (by omega) a3).mono ?_
 rintro e w1 ⟨rfl,rfl⟩
 go_wp2_with fail
 refine (trim_any b nb cb ys w Hb.out b2 (by omega) b3).mono ?_
 rintro e w1 ⟨rfl,rfl⟩
 have hcx:tlen xs≤ca:=by have:=Ha.out;have:=tl_le xs xs.length;unfold tlen;omega
 obtain ⟨X,hX⟩:∃ X,trimL xs=X:=⟨_,rfl⟩
 obtain ⟨Y,hY⟩:∃ Y,trimL ys=Y:=⟨_,rfl⟩
 obtain ⟨tx,htx⟩:∃ tx,tlen xs=tx:=⟨_,rfl⟩
 obtain ⟨ty,hty⟩:∃ ty,tlen ys=ty:=⟨_,rfl⟩
 rw [hX] at HX hra hxw HXL
 rw [hY] at HY hrb hyw HYL HTOP
 rw [htx] at hta HXL HLT hcx
 rw [hty] at htb htn HYL HTOP HLT
 rw [htx,hty]
 clear hX hY htx hty a2 a3 a4 b2 b3 b4 Ha Hb a6 b6
 have hn0:((ty:Int) == 0)=false:=beq_eq_false_iff_ne.2 (by omega)
 by_cases hlt:tx<ty
 ·have hltI:(tx:Int)<(ty:Int):=by omega
  have hq:=Int.ediv_eq_zero_of_lt hx0 (HLT.out hlt)
  have hr:=Int.emod_eq_of_lt hx0 (HLT.out hlt)
  have HQ:Hid (x/y=0):=hq
  have HR:Hid (x%y=x):=hr
  clear hq hr
  go_wp2_with fail
  refine (norm_any a tx ca X w HXL.out hcx (by omega) hra).mono ?_
  rintro e w1 ⟨g,rfl,hg,hB,hb⟩
  have hN:=got_of_norm (B:=w.heap.size) (S:=S+1) hB hxw hg (by rw [← HXL.out];omega) (by rw [← HXL.out];omega)
  rw [HX.out,← HR.out] at hN
  have hQ:Got w1 w.heap.size (.slice none 0 0) (x/y) (S+1):=by rw [HQ.out];exact (Got.nil _ _).le (Nat.zero_le _)
  clear hB hra hrb
  go_wp2
  go_ret3
  exact ⟨_,_,_,_,_,_,rfl,hQ,hN,fun g hg=>by simp [Value.ownBlock] at hg,hb,fun _=>rfl⟩
 ·have hltI:¬ (tx:Int)<(ty:Int):=by omega
  by_cases h1:ty=1
  ·subst h1
   obtain ⟨b1,o1,rfl,hc1⟩:=hrb.at (by rw [HYL.out];omega)
   have hcd:=hc1 0 (by rw [HYL.out];omega)
   obtain ⟨_,d1⟩:=hyw.at 0
   have d0:=HTOP.out 0 rfl
   have HD:Hid (lm Y 0=y):=by
    show _=_
    rw [← HY.out]
    unfold val
    rw [HYL.out]
    simp [vS,pw]
   obtain ⟨d,hd⟩:∃ d,lm Y 0=d:=⟨_,rfl⟩
   rw [hd] at hcd d0 d1
   have HDY:Hid (d=y):=by rw [← hd];exact HD
   rw [Nat.add_zero] at hcd
   clear hd hc1
   go_wp2_with fail
   refine (norm_any a tx ca X w HXL.out hcx (by omega) hra).mono ?_
   rintro e w1 ⟨g,rfl,hg,hB,hb⟩
   have hblt:=World.block_lt_of_cell? _ _ hcd
   have hcd1:w1.cell? ⟨b1,o1,none⟩=some (.int .u64 d):=by rw [hb.cell hblt];exact hcd
   obtain ⟨Z,hZ⟩:∃ Z,trimL X=Z:=⟨_,rfl⟩
   have HZL:Hid (tlen X=Z.length):=by show _=_;rw [← hZ,length_trimL]
   have HZV:Hid (val Z=x):=by show _=_;rw [← hZ,val_trimL];exact HX.out
   have hZw:AllW Z:=by rw [← hZ];exact hxw.trim
   rw [hZ] at hB
   have hzl:tlen X≤tx:=by have:=tl_le X X.length;rw [HXL.out];exact this
   obtain ⟨zn,hzn⟩:∃ zn,tlen X=zn:=⟨_,rfl⟩
   rw [hzn] at HZL hzl
   rw [hzn]
   have HE:=cutR_end (d:=d) hZw d0
   rw [← HZL.out,HZV.out] at HE
   obtain ⟨e1,e2,e3,e4⟩:=HE
   have hgl:=hB.lt
   have hcut:=fun w' (h:Blk w' g Z)=>cut_any g zn zn Z d w' h (by rw [HZL.out];exact Nat.le_refl _) (by rw [← HZL.out];omega) hZw d0 d1
   obtain ⟨U,hU⟩:∃ U,(cutR Z zn d zn).1=U:=⟨_,rfl⟩
   obtain ⟨C,hC⟩:∃ C,(cutR Z zn d zn).2=C:=⟨_,rfl⟩
   rw [hU] at e1 e2 e3
   rw [hC] at e4
   have HUV:Hid (val U=x/y):=by show _=_;rw [e3,HDY.out]
   have HCV:Hid (C=x%y):=by show _=_;rw [e4,HDY.out]
   have hC0:0≤C:=by rw [e4];exact Int.emod_nonneg _ (by omega)
   have hC1:C<18446744073709551616:=by have:=Int.emod_lt_of_pos x d0;omega
   have HUL:Hid (U.length=zn):=e2
   have HUW:Hid (AllW U):=e1
   clear hZ hzn hra hrb hcd e1 e2 e3 e4 hxw
   go_wp2_with fail
   refine (hcut w1 hB).mono ?_
   rintro e w2 ⟨rfl,hB2,hO2⟩
   rw [hU] at hB2
   rw [hC]
   have hbel2:Below w.heap.size w w2:=hb.trans (hO2.below hg)
   have hB2l:=hB2.lt
   clear hB hO2 hU hC hcut hcd1 hgl
   go_wp2_with fail
   refine (ofGx C _ hC0 hC1).mono ?_
   rintro e w3 ⟨c3,n3,d3,rfl,G3,hb3,hx3⟩
   have HX3:Hid (0<C→n3=d3):=hx3
   clear hx3
   have hB3:=hB2.below hb3 hB2.lt
   have hd3:∀ q,(Value.slice c3 n3 d3).ownBlock=some q→q≠g:=fun q hq e=>by have:=(G3.lt q hq).1;omega
   have hbel3:=bel_tr hbel2 hb3
   have G4:=(G3.mono (B':=w.heap.size) hbel2.size).le (S':=S+1) (by omega)
   rw [HCV.out] at G4
   have HGQ:=got_of_blk (B:=w.heap.size) hB3 HUW.out hg zn HUL.out.symm (S:=S+1) (by rw [HUL.out];omega) (by rw [HUL.out];omega)
   rw [HUV.out] at HGQ
   have hqr:Reads w3 (some ⟨g,0,none⟩) U:=by have:=hB3.reads U.length;rwa [List.take_length] at this
   have HXF:Hid (0<x%y→n3=d3):=by rw [← HCV.out];exact HX3.out
   clear hB2 hB3 G3 hb3 hbel2 HCV HUV HX3
   go_wp2_with fail
   refine (trim_any (some ⟨g,0,none⟩) zn zn U w3 HUL.out.symm (Nat.le_refl _) (by omega) hqr).mono ?_
   rintro e wsame ⟨rfl,rfl⟩
   clear hqr
   go_wp2
   go_ret3
   exact ⟨_,_,_,_,_,_,rfl,HGQ,G4,fun q hq e=>by simp [Value.ownBlock] at hq;exact hd3 q e hq.symm,hbel3,HXF.out⟩
  ·have hn1:((ty:Int) == 1)=false:=beq_eq_false_iff_ne.2 (by omega)
   obtain ⟨m,hm⟩:∃ m,ty=m+2:=⟨ty-2,by omega⟩
   have HDV:=divide_ex a tx ca X b ty cb m Y w HXL.out hra hxw (by omega) hm (by rw [HYL.out];exact hm) hrb hyw (HTOP.out (m+1) hm) (by omega)
   rw [HX.out,HY.out] at HDV
   clear hra hrb hm
   go_wp2_with fail
   refine HDV.mono ?_
   rintro e w1 ⟨c,n,cc,c',n',cc',rfl,G1,G2,hdis,hb,hcc⟩
   clear HDV
   have HCC:Hid (n'=cc'):=hcc
   clear hcc
   replace G1:=G1.le (S':=S+1) (by omega)
   replace G2:=G2.le (S':=S+1) (by omega)
   go_wp2
   go_ret3
   exact ⟨_,_,_,_,_,_,rfl,G1,G2,hdis,hb,fun _=>HCC.out⟩
theorem divG {a b:Option Addr} {na nb ca cb:Nat} {x y:Int} {S R:Nat} (w:World) (ha:Num w a na ca x S) (hb:Num w b nb cb y R) (hS:S≤10000000) (hR:R≤10000000) (hy:0<y) :
  Calls Tryz.prog 72 #[.slice a na ca,.slice b nb cb] w fun e w'=>∃ c n cc c' n' cc',e = .returned (.tuple #[.slice c n cc,.slice c' n' cc',.nilIface])∧Got w' w.heap.size (.slice c n cc) (x/y) (S+1)∧Got w' w.heap.size (.slice c' n' cc') (x%y) (S+1)∧(∀ g,(Value.slice c n cc).ownBlock=some g→(Value.slice c' n' cc').ownBlock≠some g)∧Below w.heap.size w w':=by
 refine (divGx w ha hb hS hR hy).mono ?_
 rintro e w' ⟨c,n,cc,c',n',cc',rfl,h1,h2,h3,h4,_⟩
 exact ⟨c,n,cc,c',n',cc',rfl,h1,h2,h3,h4⟩
end Go.Proofs.YtceigfafmalfgaaGreatDoor
