import Derived.Test.YtceigfafmalfgaaGreatDoorRefAll
import Derived.Laws.AppendOwnNone
import Derived.Test.YtceigfafmalfgaaGreatDoorGcdAll
namespace Go.Proofs.YtceigfafmalfgaaGreatDoor
open Go.RowKit
theorem dig_times {A F x c P d p:Int} (h:F+c*P=A*d) (hp:x*d=p):F+(p+c)%4294967296*P+(p+c)/4294967296*(P*4294967296)=(A+x*P)*d:=by
 rw [Int.add_assoc,mod_mulH,Int.add_mul,Int.add_mul,← hp,Int.mul_right_comm x d P];omega
set_option maxHeartbeats 4000000 in
theorem rtimesV {a:Option Addr} {na ca:Nat} {x d:Int} {S:Nat} (w:World) (ha:HNum w a na ca x S) (hd0:0≤d) (hd1:d<4294967296) (hS:S≤100000000) :
  Calls Tryz.prog 126 #[.slice a na ca,.int .u64 d] w fun e w'=>∃ c n cc,e = .returned (.slice c n cc)∧HNum w' c n cc (x*d) (S+1)∧Below w.heap.size w w':=by
 obtain ⟨xs,a1,a2,hra,hx,a5,a6,_⟩:=ha
 have Hna:Hid (na=xs.length):=a1
 have HX5:Hid (valH xs=x):=a5
 clear a1 a5
 go_enter Tryz.func126,Tryz.ntmps126
 go_wp2
 go_loopw [5,6,7] (fun v s i wr=>∃ (k:Nat) (F:List Int) (c:Int),k≤na+1∧i = .int .i64 k∧s = .int .u64 c∧OwnV wr w.heap.size v F∧F.length=k∧AllH F∧0≤c∧c<4294967296∧(k=na+1→c=0)∧vH F k+c*pwH k=vH xs k*d∧Below w.heap.size w wr) (fun _ _ i _=>na+1-(intOf i).toNat)
 case atStart=>exact ⟨0,[],0,by omega,rfl,rfl,OwnV.nil _ _,rfl,AllH.nil,by omega,by omega,fun _=>rfl,by simp [vH],Below.refl _ _⟩
 case round =>
  obtain ⟨k,F,c,hk,rfl,rfl,hown,hF,hFh,hc0,hc1,hcM,hV,hbel⟩:=hrel
  have HF:Hid (F.length=k):=hF
  have HFh:Hid (AllH F):=hFh
  have HV:Hid (vH F k+c*pwH k=vH xs k*d):=hV
  clear hF hV hFh
  obtain ⟨x0,x1⟩:=hx.at k
  have hsz:=hbel.size
  have hrow:∀ q,u5.ownBlock=some q→w.heap.size≤q:=fun q hq=>(hown.lt q hq).1
  have x2:=mul_bdH x0 x1 hd0 hd1
  have hz:na≤k→lm xs k*d=0:=fun h=>by rw [lm_ge (by have:=Hna.out;omega)];simp
  have hdone:k<na∨lm xs k*d+c<4294967296:=by
   rcases Nat.lt_or_ge k na with h|h
   ·exact .inl h
   ·have:=hz h;right;omega
  have D0:Hid (vH (F++[(lm xs k*d+c)%4294967296]) (k+1)+(lm xs k*d+c)/4294967296*pwH (k+1)=vH xs (k+1)*d):=by
   show _=_
   rw [vH_app _ HF.out,pwH_succ];exact dig_times HV.out rfl
  clear hz
  by_cases hgo:k<na∨0<c
  ·have hkM:k≠na+1:=fun h=>by have:=hcM h;omega
   have hkb:(decide ((k:Int)<(na:Int)) || decide (0<c))=true:=by
    rcases hgo with h|h
    ·have:(k:Int)<(na:Int):=by omega
     simp [this]
    ·simp [h]
   have step:Calls Tryz.prog 124 #[.slice a na ca,.int .i64 k] wr fun e w'=>e = .returned (.int .u64 (lm xs k))∧wr=w':=at_any a na ca xs k wr Hna.out (by omega) (hra.below hbel)
   clear hra
   by_cases hlt:k<na
   ·have hkl:(k:Int)<(na:Int):=by omega
    go_wp2_with fail
    refine step.mono ?_
    rintro e w1 ⟨rfl,rfl⟩
    clear step
    obtain ⟨p,hp⟩:∃ p,lm xs k*d=p:=⟨_,rfl⟩
    rw [hp] at x2 D0 hdone
    generalize lm xs k=X at *
    have T1:(p+c).tmod 4294967296=(p+c)%4294967296:=Int.tmod_eq_emod_of_nonneg (by omega)
    have T2:IntKind.u64.wrap ((p+c).tdiv 4294967296)=(p+c)/4294967296:=by rw [Int.tdiv_eq_ediv_of_nonneg (by omega),IntKind.wrap_u64];omega
    go_wp2_with (at_builtin;refine wpList_append1 22 Tryz.underlying22 _ rfl _ _ rfl w.heap.size u5 F k HF rfl (hown.alloc _) wr.heap.size _ ((p+c)%4294967296) rfl (cell_new1 rfl) (by omega) (by simp;omega) (wr.heap.size+1) (by simp) ?_)
    intro g cap1 w1 hown1 hgrow _ _
    have hbel1:Below w.heap.size w w1:=hbel.trans (((Below.refl _ _).alloc (by omega) _).trans (grown_below hgrow (by simp;omega) hrow))
    clear hgrow hown
    go_wp2
    go_roundw
    case rel=>exact ⟨k+1,_,(p+c)/4294967296,by omega,by go_num,rfl,hown1,by simp [HF.out],allH_app HFh.out (by omega) (by omega),by omega,by omega,by omega,D0.out,hbel1⟩
    case measure=>simp [intOf];omega
   ·have hkl:¬ (k:Int)<(na:Int):=by omega
    have hcc:0<c:=by omega
    go_wp2_with fail
    refine step.mono ?_
    rintro e w1 ⟨rfl,rfl⟩
    clear step
    obtain ⟨p,hp⟩:∃ p,lm xs k*d=p:=⟨_,rfl⟩
    rw [hp] at x2 D0 hdone
    generalize lm xs k=X at *
    have T1:(p+c).tmod 4294967296=(p+c)%4294967296:=Int.tmod_eq_emod_of_nonneg (by omega)
    have T2:IntKind.u64.wrap ((p+c).tdiv 4294967296)=(p+c)/4294967296:=by rw [Int.tdiv_eq_ediv_of_nonneg (by omega),IntKind.wrap_u64];omega
    go_wp2_with (at_builtin;refine wpList_append1 22 Tryz.underlying22 _ rfl _ _ rfl w.heap.size u5 F k HF rfl (hown.alloc _) wr.heap.size _ ((p+c)%4294967296) rfl (cell_new1 rfl) (by omega) (by simp;omega) (wr.heap.size+1) (by simp) ?_)
    intro g cap1 w1 hown1 hgrow _ _
    have hbel1:Below w.heap.size w w1:=hbel.trans (((Below.refl _ _).alloc (by omega) _).trans (grown_below hgrow (by simp;omega) hrow))
    clear hgrow hown
    go_wp2
    go_roundw
    case rel=>exact ⟨k+1,_,(p+c)/4294967296,by omega,by go_num,rfl,hown1,by simp [HF.out],allH_app HFh.out (by omega) (by omega),by omega,by omega,by omega,D0.out,hbel1⟩
    case measure=>simp [intOf];omega
  ·obtain rfl:c=0:=by omega
   have hkl:¬ (k:Int)<(na:Int):=by omega
   have HE:Hid (valH F=x*d):=by
    show _=_
    have e:=HV.out
    rw [vH_long (us:=xs) (by have:=Hna.out;omega),HX5.out] at e
    unfold valH;rw [HF.out];omega
   obtain ⟨c',cc',rfl⟩:=own_form hown HF.out
   obtain ⟨h1,h2,h3⟩:=hown.reads
   have hle:tlen F≤F.length:=tl_le _ _
   clear hra hx D0 HV h1
   go_wp2_with fail
   refine (rcut_any c' k cc' F wr HF.out.symm h2 (by omega) h3).mono ?_
   rintro e w2 ⟨rfl,rfl⟩
   rw [HF.out] at hle
   have HN:=HNum.of_trim (S:=S+1) (cap:=cc') h3 (by omega) HFh.out (by omega)
   rw [HE.out] at HN
   clear hown h3 h2
   go_wp2
   go_ret
   exact ⟨_,_,_,rfl,HN,hbel⟩
theorem div_spec {a b:Int} (hb:0<b):a/b*b≤a∧a<(a/b+1)*b:=by
 have h1:=Int.mul_ediv_add_emod a b
 have h2:=Int.emod_nonneg a (by omega:b≠0)
 have h3:=Int.emod_lt_of_pos a hb
 rw [Int.mul_comm] at h1
 rw [Int.add_mul]
 omega
theorem le_div {q a b:Int} (hb:0<b) (h:q*b≤a):q≤a/b:=(Int.le_ediv_iff_mul_le hb).2 h
theorem lt_of_mul {a b c:Int} (hc:0<c) (h:a*c<b*c):a<b:=Int.lt_of_mul_lt_mul_right h (by omega)
theorem guess_ge {rs ys:List Int} {k:Nat} {r y Q:Int} (hr:AllH rs) (hy:AllH ys) (tr:tlen rs=rs.length) (ty:ys.length=k+1) (er:valH rs=r) (ey:valH ys=y) (hT:0<lm ys k) (hb:r<y*4294967296) (hQ:Q*y≤r) (hQ0:0≤Q) :
  Q≤(lm rs (k+1)*4294967296+lm rs k)/lm ys k:=by
 refine le_div hT ?_
 have hyk:y=vH ys k+lm ys k*pwH k:=by rw [← ey];unfold valH;rw [ty];rfl
 have hyl:y<pwH (k+1):=by rw [← ey,← ty];exact valH_lt hy
 have hlen:rs.length≤k+2:=by
  rcases Nat.lt_or_ge (k+2) rs.length with h|h
  ·have h1:=valH_ge hr (by omega)
   rw [er] at h1
   have h2:=pwH_mono (a:=k+2) (b:=tlen rs-1) (by omega)
   have h3:pwH (k+2)=pwH (k+1)*4294967296:=pwH_succ (k+1)
   omega
  ·exact h
 have e1:r=vH rs k+lm rs k*pwH k+lm rs (k+1)*pwH (k+1):=by rw [← er,← vH_long (n:=k+2) hlen];rfl
 rw [pwH_succ] at e1
 have h1:=(vH_nn hr k).2
 have h2:=(vH_nn hy k).1
 have hP:=pwH_pos k
 have h3:Q*lm ys k*pwH k≤Q*y:=by
  rw [hyk,Int.mul_add,Int.mul_assoc]
  have:=Int.mul_nonneg hQ0 h2
  omega
 have h4:Q*lm ys k*pwH k<(lm rs (k+1)*4294967296+lm rs k+1)*pwH k:=by
  have e2:(lm rs (k+1)*4294967296+lm rs k+1)*pwH k=lm rs (k+1)*(pwH k*4294967296)+lm rs k*pwH k+pwH k:=by
   rw [Int.add_mul,Int.add_mul,Int.one_mul,Int.mul_assoc,Int.mul_comm 4294967296]
  omega
 have:=lt_of_mul hP h4
 omega
theorem mul_eq_of {r y d Q:Int} (h2:r<(Q+1)*y) (hy:0<y) (hQ:Q≤d) (hc:y*d≤r):Q=d:=by
 have:=lt_of_mul (a:=d) (b:=Q+1) hy (by rw [Int.mul_comm d];omega)
 omega
theorem mul_gt_of {r y d Q:Int} (h1:Q*y≤r) (hy:0<y) (hc:r<y*d):Q+1≤d:=by
 have:=lt_of_mul (a:=Q) (b:=d) hy (by rw [Int.mul_comm d];omega)
 omega
theorem atI (a:Option Addr) (n cap:Nat) (hs:List Int) (i:Nat) (z:Int) (w:World) (hz:z=(i:Int)) (hn:n=hs.length) (hm:n≤1099511627776) (hr:Reads w a hs) :
  Calls Tryz.prog 124 #[.slice a n cap,.int .i64 z] w fun e w'=>e = .returned (.int .u64 (lm hs i))∧w=w':=by
 subst hz;exact at_any a n cap hs i w hn hm hr
set_option maxRecDepth 100000 in
set_option maxHeartbeats 400000 in
theorem rguessV {a b:Option Addr} {na nb ca cb:Nat} {r y:Int} {S R:Nat} (w:World) (ha:HNum w a na ca r S) (hb:HNum w b nb cb y R) (hS:S≤100000000) (hR:R≤100000000) (hy0:0<y) (hry:r<y*4294967296) :
  Calls Tryz.prog 127 #[.slice a na ca,.slice b nb cb] w fun e w'=>∃ d:Int,e = .returned (.int .u64 d)∧0≤d∧d<4294967296∧d*y≤r∧r<(d+1)*y∧Below w.heap.size w w':=by
 have HA:Hid (HNum w a na ca r S):=ha
 have HBN:Hid (HNum w b nb cb y R):=hb
 obtain ⟨rs,a1,a2,hra,hr,a5,a6,a7⟩:=ha
 obtain ⟨ys,b1,b2,hrb,hy,b5,b6,b7⟩:=hb
 have hpos:0<nb:=by
  rcases Nat.eq_zero_or_pos nb with h|h
  ·have:ys=[]:=List.eq_nil_of_length_eq_zero (by omega)
   subst this;simp [valH,vH] at b5;omega
  ·exact h
 obtain ⟨k,hk⟩:∃ k,nb=k+1:=⟨nb-1,by omega⟩
 subst hk
 have hT:0<lm ys k:=by
  have h0:=(hy.at k).1
  rcases Int.lt_or_eq_of_le h0 with h|h
  ·exact h
  ·exfalso
   unfold tlen at b7
   rw [← b1] at b7
   unfold tl at b7
   rw [if_pos h.symm] at b7
   have:=tl_le ys k
   omega
 have hr0:0≤r:=by rw [← a5];exact valH_nn hr
 obtain ⟨Q,hQ⟩:∃ Q,Q=r/y:=⟨_,rfl⟩
 have hQs:=div_spec (a:=r) hy0
 rw [← hQ] at hQs
 have hQ0:0≤Q:=by rw [hQ];exact Int.ediv_nonneg hr0 (by omega)
 have hQH:Q<4294967296:=lt_of_mul hy0 (by rw [Int.mul_comm 4294967296];omega)
 have HG:=guess_ge hr hy a7 b1.symm a5 b5 hT hry hQs.1 hQ0
 obtain ⟨t0,t1⟩:=hy.at k
 obtain ⟨h0,h1⟩:=hr.at (k+1)
 obtain ⟨l0,l1⟩:=hr.at k
 obtain ⟨by1,o1,rfl,hc1⟩:=hrb.at (by omega)
 have hcy:=hc1 k (by omega)
 have st1:=fun (z:Int) (hz:z=((k+1:Nat):Int))=>atI a na ca rs (k+1) z w hz a1 (by omega) hra
 have st2:=fun (z:Int) (hz:z=(k:Int))=>atI a na ca rs k z w hz a1 (by omega) hra
 have HQ1:Hid (Q*y≤r):=hQs.1
 have HQ2:Hid (r<(Q+1)*y):=hQs.2
 have hkb:k≤100000000:=by omega
 clear a1 a2 a5 a6 a7 b1 b2 b5 b6 b7 hr hy hra hrb hc1 hQs hQ
 generalize lm rs (k+1)=hi at *
 generalize lm rs k=lo at *
 generalize lm ys k=T at *
 have hTz:(T == 0)=false:=by simp;omega
 obtain ⟨D,hD⟩:∃ D,D=(hi*4294967296+lo)/T:=⟨_,rfl⟩
 have hDs:=Int.ediv_nonneg (a:=hi*4294967296+lo) (b:=T) (by omega) (by omega)
 have hDl:=Int.ediv_le_self (b:=T) (show (0:Int)≤hi*4294967296+lo by omega)
 rw [← hD] at HG hDs hDl
 have HD:Hid (D=(hi*4294967296+lo)/T):=hD
 clear hD
 have T1:IntKind.u64.wrap ((hi*4294967296+lo).tdiv T)=D:=by rw [Int.tdiv_eq_ediv_of_nonneg (by omega),← HD.out,IntKind.wrap_u64];omega
 go_enter Tryz.func127,Tryz.ntmps127
 go_wp2_with fail
 refine (st1 _ (by omega)).mono ?_
 rintro e w1 ⟨rfl,rfl⟩
 go_wp2_with fail
 refine (st2 _ (by omega)).mono ?_
 rintro e w1 ⟨rfl,rfl⟩
 clear st1 st2
 clear hry
 by_cases hD4:4294967296≤D
 ·skip
  go_wp2
  go_loopw [8] (fun s wr=>∃ d:Int,s = .int .u64 d∧Q≤d∧d<4294967296∧Below w.heap.size w wr) (fun s _=>(intOf s).toNat)
  case atStart=>exact ⟨4294967295,rfl,by omega,by omega,Below.refl _ _⟩
  case round =>
   obtain ⟨d,rfl,hd0,hd1,hbel⟩:=hrel
   have HAr:=HA.out.below hbel
   have HBr:=HBN.out.below hbel
   clear hcy
   go_wp2_with fail
   refine (rtimesV _ HBr (by omega) hd1 hR).mono ?_
   rintro e w1 ⟨c2,n2,cc2,rfl,H2,hb2⟩
   replace HAr:=HAr.below hb2
   have hbel2:=bel_tr hbel hb2
   clear HBr hbel hb2
   go_wp2_with fail
   refine (rcmpV _ H2 HAr (by omega) (by omega)).mono ?_
   rintro e w2 ⟨c,rfl,hc,hb3⟩
   have hbel3:=bel_tr hbel2 hb3
   clear H2 HAr hbel2 hb3
   rcases hc with ⟨rfl,hc⟩|⟨rfl,hc⟩|⟨rfl,hc⟩
   ·have HE:=mul_eq_of HQ2.out (by omega:0<y) hd0 (by omega)
    have HQ3:=HQ1.out
    have HQ4:=HQ2.out
    clear hc
    subst HE
    go_wp2
    go_ret
    exact ⟨Q,rfl,by omega,hd1,HQ3,HQ4,hbel3⟩
   ·have HE:=mul_eq_of HQ2.out (by omega:0<y) hd0 (by omega)
    have HQ3:=HQ1.out
    have HQ4:=HQ2.out
    clear hc
    subst HE
    go_wp2
    go_ret
    exact ⟨Q,rfl,by omega,hd1,HQ3,HQ4,hbel3⟩
   ·have HE:=mul_gt_of HQ1.out (by omega:0<y) hc
    clear hc
    go_wp2
    go_roundw
    case rel=>exact ⟨d-1,by go_num,by omega,by omega,hbel3⟩
    case measure=>simp [intOf];omega
 ·skip
  go_wp2
  go_loopw [8] (fun s wr=>∃ d:Int,s = .int .u64 d∧Q≤d∧d<4294967296∧Below w.heap.size w wr) (fun s _=>(intOf s).toNat)
  case atStart=>exact ⟨D,rfl,by omega,by omega,Below.refl _ _⟩
  case round =>
   obtain ⟨d,rfl,hd0,hd1,hbel⟩:=hrel
   have HAr:=HA.out.below hbel
   have HBr:=HBN.out.below hbel
   clear hcy
   go_wp2_with fail
   refine (rtimesV _ HBr (by omega) hd1 hR).mono ?_
   rintro e w1 ⟨c2,n2,cc2,rfl,H2,hb2⟩
   replace HAr:=HAr.below hb2
   have hbel2:=bel_tr hbel hb2
   clear HBr hbel hb2
   go_wp2_with fail
   refine (rcmpV _ H2 HAr (by omega) (by omega)).mono ?_
   rintro e w2 ⟨c,rfl,hc,hb3⟩
   have hbel3:=bel_tr hbel2 hb3
   clear H2 HAr hbel2 hb3
   rcases hc with ⟨rfl,hc⟩|⟨rfl,hc⟩|⟨rfl,hc⟩
   ·have HE:=mul_eq_of HQ2.out (by omega:0<y) hd0 (by omega)
    have HQ3:=HQ1.out
    have HQ4:=HQ2.out
    clear hc
    subst HE
    go_wp2
    go_ret
    exact ⟨Q,rfl,by omega,hd1,HQ3,HQ4,hbel3⟩
   ·have HE:=mul_eq_of HQ2.out (by omega:0<y) hd0 (by omega)
    have HQ3:=HQ1.out
    have HQ4:=HQ2.out
    clear hc
    subst HE
    go_wp2
    go_ret
    exact ⟨Q,rfl,by omega,hd1,HQ3,HQ4,hbel3⟩
   ·have HE:=mul_gt_of HQ1.out (by omega:0<y) hc
    clear hc
    go_wp2
    go_roundw
    case rel=>exact ⟨d-1,by go_num,by omega,by omega,hbel3⟩
    case measure=>simp [intOf];omega
theorem vH_top (xs:List Int) (k:Nat):vH xs (k+1)=vH xs k+lm xs k*pwH k:=rfl
theorem part_step {X Q rest d T P x t q:Int} (h:T=Q*d+rest*(P*4294967296)) (ht:t=rest*4294967296+x) (hq:t=q*d+X):T+x*P=(Q+q*P)*d+X*P:=by
 have e1:rest*(P*4294967296)+x*P=t*P:=by rw [ht,Int.add_mul,Int.mul_comm P,Int.mul_assoc]
 have e2:t*P=q*P*d+X*P:=by rw [hq,Int.add_mul,Int.mul_right_comm]
 rw [Int.add_mul]
 omega
set_option maxRecDepth 100000 in
set_option maxHeartbeats 1000000 in
theorem rpartV {a:Option Addr} {na ca:Nat} {x d:Int} {S:Nat} (w:World) (ha:HNum w a na ca x S) (hd0:0<d) (hd1:d<4294967296) (hS:S≤100000000) :
  Calls Tryz.prog 129 #[.slice a na ca,.int .u64 d] w fun e w'=>∃ c n cc,e = .returned (.tuple #[.slice c n cc,.int .u64 (x%d)])∧HNum w' c n cc (x/d) S∧Below w.heap.size w w':=by
 obtain ⟨xs,a1,a2,hra,hx,a5,a6,_⟩:=ha
 have Hna:Hid (na=xs.length):=a1
 have HX5:Hid (valH xs=x):=a5
 clear a1 a5
 go_enter Tryz.func129,Tryz.ntmps129
 go_wp2_with (at_make;refine wpList_makeH _ rfl _ _ rfl _ _ na rfl rfl (by omega) (by omega) (by omega) ?_)
 intro wm hbm hbelm
 obtain ⟨G,hG⟩:∃ G,G=w.heap.size:=⟨_,rfl⟩
 have HG:Hid (G=w.heap.size):=hG
 rw [← hG] at hbm hbelm
 rw [← hG]
 clear hG
 go_wp2
 go_loopw [7,8] (fun s t wr=>∃ (k:Nat) (U:List Int) (r:Int),k≤na∧t = .int .i64 ((k:Int)-1)∧s = .int .u64 r∧Blk wr G U∧U.length=na∧AllH U∧(∀ j,j<k→lm U j=0)∧0≤r∧r<d∧valH xs-vH xs k=vH U na*d+r*pwH k∧Below G w wr) (fun _ t _=>((intOf t)+1).toNat)
 case atStart=>exact ⟨na,_,0,Nat.le_refl _,rfl,rfl,hbm,by simp,AllH.replicate _,fun j _=>lm_replicate _ _,by omega,by omega,by rw [vH_long (us:=xs) (by have:=Hna.out;omega),vH_congr (us:=List.replicate na 0) (vs:=[]) (fun j _=>by rw [lm_replicate,lm_ge (by simp)]),vH_long (us:=[]) (by simp)];simp [vH,valH],hbelm⟩
 case round =>
  clear hbm hbelm
  obtain ⟨k,U,r,hk,rfl,rfl,hbr,hU,hUh,hz,hr0,hr1,hV,hbel⟩:=hrel
  have HU:Hid (U.length=na):=hU
  have HUh:Hid (AllH U):=hUh
  have HV:Hid (valH xs-vH xs k=vH U na*d+r*pwH k):=hV
  have HZ:Hid (∀ j,j<k→lm U j=0):=hz
  clear hU hUh hV hz
  by_cases hk0:k=0
  ·subst hk0
   have hle:tlen U≤U.length:=tl_le _ _
   have HE:Hid (x=valH U*d+r):=by
    show _=_
    have e:=HV.out
    have e2:vH U na=valH U:=by unfold valH;rw [HU.out]
    rw [e2,HX5.out] at e
    simp [vH,pwH] at e
    omega
   have hUn:=valH_nn HUh.out
   have E1:Hid (x/d=valH U):=by
    show _=_
    rw [HE.out,Int.add_comm,Int.add_mul_ediv_right _ _ (by omega),Int.ediv_eq_zero_of_lt hr0 hr1];omega
   have E2:Hid (r=x%d):=by
    show _=_
    rw [HE.out,Int.add_comm,Int.add_mul_emod_self_right,Int.emod_eq_of_lt hr0 hr1]
   have hre:Reads wr (some ⟨G,0,none⟩) U:=by have:=hbr.reads U.length;rwa [List.take_length] at this
   have HN:=HNum.of_trim (S:=S) (cap:=na) hre (by rw [HU.out] at hle;exact hle) HUh.out (by rw [HU.out] at hle;omega)
   have e3:=E2.out
   clear hbr hra HV HE E2
   subst e3
   go_wp2_with fail
   refine (rcut_any (some ⟨G,0,none⟩) na na U wr HU.out.symm (Nat.le_refl _) (by omega) hre).mono ?_
   rintro e w2 ⟨rfl,rfl⟩
   rw [← E1.out] at HN
   rw [HG.out] at hbel
   clear hre
   go_wp2
   go_ret2
   exact ⟨_,_,_,rfl,HN,hbel⟩
  ·obtain ⟨j,rfl⟩:∃ j,k=j+1:=⟨k-1,by omega⟩
   have hj:j<na:=by omega
   obtain ⟨x0,x1⟩:=hx.at j
   obtain ⟨b1,o1,rfl,hc1⟩:=hra.at (by have:=Hna.out;omega)
   have h1:=hc1 j (by have:=Hna.out;omega)
   have hb1':b1<G:=by rw [HG.out];simpa using World.block_lt_of_cell? _ _ h1
   have hcx:wr.cell? ⟨b1,o1+j,none⟩=some (.int .u64 (lm xs j)):=by rw [hbel.cell (p:=⟨b1,o1+j,none⟩) (by exact hb1')];exact h1
   have hcu:=hbr.cell (i:=j) (by rw [HU.out];exact hj)
   have hfu:=hbr.frozen j
   have hjn:(j:Int)<(na:Int):=by omega
   clear hra hc1 h1
   obtain ⟨t,ht⟩:∃ t,t=r*4294967296+lm xs j:=⟨_,rfl⟩
   have HT:Hid (t=r*4294967296+lm xs j):=ht
   have ht0:0≤t:=by omega
   have ht1:t<d*4294967296:=by omega
   have q0:=Int.ediv_nonneg ht0 (by omega:0≤d)
   have q1:t/d<4294967296:=Int.ediv_lt_of_lt_mul hd0 (by rw [Int.mul_comm];exact ht1)
   have m0:=Int.emod_nonneg t (by omega:d≠0)
   have m1:=Int.emod_lt_of_pos t hd0
   have HQ:Hid (t=t/d*d+t%d):=by show _=_;rw [Int.mul_comm];exact (Int.mul_ediv_add_emod t d).symm
   have T0:IntKind.u64.wrap (r*4294967296+lm xs j)=t:=by rw [← ht,IntKind.wrap_u64];omega
   have T1:IntKind.u64.wrap (t.tdiv d)=t/d:=by rw [Int.tdiv_eq_ediv_of_nonneg ht0,IntKind.wrap_u64];omega
   have T2:t.tmod d=t%d:=Int.tmod_eq_emod_of_nonneg ht0
   have hdz:(d == 0)=false:=beq_eq_false_iff_ne.2 (by omega)
   clear ht
   have hB2:=hbr.set j (t/d)
   have HL2:=hbel.setCell (p:=⟨G,j,none⟩) (Nat.le_refl _) (.int .u64 (t/d))
   have HU2:Hid ((U.set j (t/d)).length=na):=by show _=_;rw [List.length_set,HU.out]
   have HA2:Hid (AllH (U.set j (t/d))):=HUh.out.set _ _ ⟨q0,q1⟩
   have HZ2:Hid (∀ i,i<j→lm (U.set j (t/d)) i=0):=fun i hi=>by rw [lm_set,if_neg (by omega)];exact HZ.out i (by omega)
   have HV2:Hid (valH xs-vH xs j=vH (U.set j (t/d)) na*d+t%d*pwH j):=by
    show _=_
    rw [vH_set _ hj (by rw [HU.out];exact hj),HZ.out j (by omega),Int.sub_zero]
    have e:=HV.out
    rw [pwH_succ] at e
    have e2:=part_step e HT.out HQ.out
    rw [← e2,vH_top]
    omega
   clear hbr hbel
   generalize t/d=q at *
   generalize t%d=m at *
   go_wp2
   go_roundw
   case rel=>exact ⟨j,_,m,by omega,by go_num,rfl,hB2,HU2.out,HA2.out,HZ2.out,m0,m1,HV2.out,HL2⟩
   case measure=>simp [intOf]
theorem run_append_none0 {P:Program} {w:World} (base:Nat) (t ty e:TypeId) (i:TypeInfo) (size:Nat) (ht:P.underlying t=some (.slice e)) (hi:P.info? e=some i)
  (v:Value) (n:Nat) (xs:List Value) (hown:w.ownsRow base e size v n xs) (c:Nat) :
  (Builtin.append_ #[t,t] ty #[v,.slice none 0 c]).run P w = .ok v w:=by
 have h:=run_append_owned_none (P:=P) (w:=w) base t ty e i size ht hi v n xs hown
 rw [← h]
 rfl
theorem wpList_append_none0 {P:Program} {w:World} {ops:Array Oper} {rest:List Oper} {o:Oper} {a:Act} {Q:Exit→Act→World→Prop} (hgd:o.guard=none) (s x:Operand) (t:TypeId)
  (ho:o.op = .call { callee:=.builtin .append,args:=#[s,x],argTypes:=#[t,t] })
  (base:Nat) (e:TypeId) (i:TypeInfo) (size:Nat) (ht:P.underlying t=some (.slice e)) (hi:P.info? e=some i)
  (v:Value) (n:Nat) (xs:List Value) (hs:a.eval s=v) (hown:w.ownsRow base e size v n xs) (c:Nat) (hx:a.eval x = .slice none 0 c)
  (h:wpList P ops Q rest (a.put o.dst v) w):wpList P ops Q (o::rest) a w:=by
 refine wpList_plain hgd fun K hK=>?_
 have hrun:=run_append_none0 (P:=P) (w:=w) base t o.type e i size ht hi v n xs hown c
 unfold Oper.wp
 simp [execOp,ho,resolve,invoke,builtin,hs,hx,hrun,Result.andThen]
 exact hK _ _ h
theorem wpList_appendL (t:TypeId) (ht:Tryz.prog.underlying t=some (.slice 57)) (w:World) {ops:Array Oper} {rest:List Oper} {o:Oper} {a:Act} {Q:Exit→Act→World→Prop} (hgd:o.guard=none) (s x:Operand)
  (ho:o.op = .call { callee:=.builtin .append,args:=#[s,x],argTypes:=#[t,t] }) (B:Nat) (v:Value) (xs:List Int) (hs:a.eval s=v) (hown:OwnV w B v xs) (p:Option Addr) (m c:Nat) (ys:List Int) (hx:a.eval x = .slice p m c)
  (hm:m=ys.length) (hr:Reads w p ys) (hlen:xs.length+m≤1000000000000) (hB:B≤w.heap.size)
  (hK:∀ v' w',OwnV w' B v' (xs++ys)→w.grownBy w' v.ownBlock→wpList Tryz.prog ops Q rest (a.put o.dst v') w') :
  wpList Tryz.prog ops Q (o::rest) a w:=by
 subst hm
 obtain ⟨i0,hi,hz0,hz1,hz2⟩:=info_parts Tryz.infoU64
 have own':∀ v' w',w'.ownsRow B 57 1 v' (xs.length+ys.length) (xs.map (Value.int .u64)++ys.map (Value.int .u64))→w.grownBy w' v.ownBlock→wpList Tryz.prog ops Q rest (a.put o.dst v') w':=fun v' w' h1 h2=>hK v' w' (by unfold OwnV;simpa using h1) h2
 rcases p with _|⟨ad⟩
 ·have hy:ys=[]:=by rcases hr with h|⟨b,o',h,_⟩;exact h;cases h
  subst hy
  refine wpList_append_none0 hgd s x t ho B 57 i0 1 ht hi v xs.length (xs.map (Value.int .u64)) hs hown c hx ?_
  exact hK v w (by simpa using hown) (World.grownBy.refl _ _)
 ·refine wpList_append_own w hgd s x t ho B 57 i0 (.int .u64 0) 1 8 ht hi hz0 hz1 hz2 rfl (by decide) v xs.length (xs.map (Value.int .u64)) hs hown ad ys.length c (ys.map (Value.int .u64)) hx (by simp) ?_ (fun u hu=>by simp only [List.mem_map] at hu;obtain ⟨x,_,rfl⟩:=hu;rfl) (by unfold maxLen;omega) (by omega) hB (fun v' w' h1 h2 _=>own' v' w' h1 h2)
  intro j u hj
  simp only [List.getElem?_map,Option.map_eq_some_iff] at hj
  obtain ⟨y,hy,rfl⟩:=hj
  have hjl:j<ys.length:=(List.getElem?_eq_some_iff.1 hy).1
  rw [lm_lt hjl] at hy
  cases hy
  obtain ⟨b,o',h,hc⟩:=hr.at (by omega)
  cases h
  have:=hc j hjl
  by_cases h0:j=0
  ·subst h0;simpa [Addr.add] using this
  ·simpa [Addr.add,h0] using this
theorem valH_cons (z:Int) (rs:List Int):valH (z::rs)=z+4294967296*valH rs:=by
 have h:∀ n,vH (z::rs) (n+1)=z+4294967296*vH rs n:=by
  intro n
  induction n with
  | zero=>simp [vH,lm,pwH]
  | succ n ih =>
   rw [vH_top,ih,vH_top,pwH_succ]
   have e:lm (z::rs) (n+1)=lm rs n:=by simp [lm]
   rw [e,Int.mul_add,Int.add_assoc]
   congr 2
   ac_rfl
 show vH (z::rs) (rs.length+1)=_
 rw [h];rfl
theorem HNum.shrink {w:World} {a:Option Addr} {n cap:Nat} {x:Int} {S m:Nat} (h:HNum w a n cap x S) (hx:x<pwH m):HNum w a n cap x m:=by
 obtain ⟨hs,h1,h2,h3,h4,h5,h6,h7⟩:=h
 refine ⟨hs,h1,h2,h3,h4,h5,?_,h7⟩
 rcases Nat.lt_or_ge m n with h|h
 ·have g:=valH_ge h4 (by omega)
  have:=pwH_mono (a:=m) (b:=tlen hs-1) (by omega)
  omega
 ·exact h
theorem rofGot (v:Int) (w:World) (h0:0≤v) (h1:v<18446744073709551616) :
  Calls Tryz.prog 64 #[.int .u64 v] w fun e w'=>∃ c n cc,e = .returned (.slice c n cc)∧Got w' w.heap.size (.slice c n cc) v 1∧Below w.heap.size w w':=by
 refine (rof_any v w h0 h1).mono ?_
 rintro e w' ⟨c,cc,rfl,ho,hb⟩
 have t1:tlen [v]≤1:=tl_le _ _
 have ev:val [v]=v:=by simp [val,vS,lm,pw]
 exact ⟨c,_,cc,rfl,⟨trimL [v],ho,NF.trimL (fun x hx=>by simp at hx;subst hx;exact ⟨h0,h1⟩),by rw [val_trimL];exact ev,by rw [length_trimL];exact t1⟩,hb⟩
theorem uval_fit {xs:List Int} (hx:AllW xs) (h:ufit xs=true):uval xs=val xs∧0≤val xs∧val xs<18446744073709551616:=by
 have h1:tlen xs≤1:=by simpa [ufit] using h
 have h2:=val_lt_tlen hx
 have h3:=val_nn hx
 have h4:=pw_mono h1
 have h5:pw 1=18446744073709551616:=by simp [pw]
 refine ⟨?_,h3,by omega⟩
 unfold uval
 split
 ·rename_i h6
  have h7:=vS_trim xs
  rw [h6] at h7
  rw [← h7]
  simp [vS,pw]
 ·rename_i h6
  rw [(tlen_zero hx).1 (by omega)]
theorem uval_far {xs:List Int} (h:ufit xs=false):uval xs=0:=by
 have h1:¬ tlen xs≤1:=by simpa [ufit] using h
 unfold uval;rw [if_neg (by omega)]
set_option maxRecDepth 100000 in
set_option maxHeartbeats 1000000 in
theorem rdivW {a b:Option Addr} {na nb ca cb:Nat} (xs ys:List Int) (w:World) (h1:na=xs.length) (h2:na≤ca) (h3:na≤10000000) (h4:Reads w a xs) (h5:AllW xs) (k1:nb=ys.length) (k2:nb≤cb) (k3:nb≤10000000) (k4:Reads w b ys) (k5:AllW ys) (hy:0<val ys) (u1:ufit xs=true) (u2:ufit ys=true) :
  Calls Tryz.prog 94 #[.slice a na ca,.slice b nb cb] w fun e w'=>∃ c n cc c' n' cc',e = .returned (.tuple #[.slice c n cc,.slice c' n' cc'])∧Got w' w.heap.size (.slice c n cc) (val xs/val ys) 1∧Got w' w.heap.size (.slice c' n' cc') (val xs%val ys) 1∧Below w.heap.size w w':=by
 obtain ⟨e1,x0,x1⟩:=uval_fit h5 u1
 obtain ⟨e2,y0,y1⟩:=uval_fit k5 u2
 have E1:Hid (uval xs=val xs):=e1
 have E2:Hid (uval ys=val ys):=e2
 have U1:Hid (ufit xs=true):=u1
 have U2:Hid (ufit ys=true):=u2
 have H1:Hid (na=xs.length):=h1
 have K1:Hid (nb=ys.length):=k1
 clear e1 e2 u1 u2 h1 k1
 go_enter Tryz.func94,Tryz.ntmps94
 go_wp2_with fail
 refine (ruint64_any a na ca xs _ H1.out h2 (by omega) h4 h5).mono ?_
 rintro e w1 ⟨rfl,hb1⟩
 have k4':=k4.below hb1
 go_wp2_with fail
 refine (ruint64_any b nb cb ys _ K1.out k2 (by omega) k4' k5).mono ?_
 rintro e w2 ⟨rfl,hb2⟩
 have HB:=bel_tr hb1 hb2
 rw [U1.out,U2.out,E1.out,E2.out]
 clear h2 h3 h4 h5 k2 k3 k4 k5 k4' hb1 hb2 E1 E2 U1 U2 H1 K1
 obtain ⟨x,hx⟩:∃ x,val xs=x:=⟨_,rfl⟩
 obtain ⟨y,hy'⟩:∃ y,val ys=y:=⟨_,rfl⟩
 have HX:Hid (val xs=x):=hx
 have HY:Hid (val ys=y):=hy'
 rw [hx] at x0 x1
 rw [hy'] at hy y0 y1
 rw [hx,hy']
 clear hx hy'
 have hyz:(y == 0)=false:=beq_eq_false_iff_ne.2 (by omega)
 have q0:=Int.ediv_nonneg x0 y0
 have q1:=Int.ediv_le_self y x0
 have m0:=Int.emod_nonneg x (by omega:y≠0)
 have m1:=Int.emod_lt_of_pos x hy
 obtain ⟨q,hq⟩:∃ q,x/y=q:=⟨_,rfl⟩
 obtain ⟨r,hr⟩:∃ r,x%y=r:=⟨_,rfl⟩
 rw [hq] at q0 q1
 rw [hr] at m0 m1
 have T1:IntKind.u64.wrap (x.tdiv y)=q:=by rw [Int.tdiv_eq_ediv_of_nonneg x0,hq,IntKind.wrap_u64];omega
 have T2:x.tmod y=r:=by rw [Int.tmod_eq_emod_of_nonneg x0,hr]
 have HQ:Hid (val xs/val ys=q):=by show _=_;rw [HX.out,HY.out,hq]
 have HR:Hid (val xs%val ys=r):=by show _=_;rw [HX.out,HY.out,hr]
 have hsz:=HB.size
 have hyne:¬ y=0:=by omega
 clear hq hr
 go_wp2_with fail
 go_region_held3 (fun w'=>True)
  (trivial)
  ((first
   | (go_at_call 64;go_fit (rofGot q _ q0 (by omega));rintro e wA ⟨c1,n1,d1,rfl,G1,hbA⟩)
   | (go_at_call 64;go_fit (rofGot r _ m0 (by omega));rintro e wB ⟨c2,n2,d2,rfl,G2,hbB⟩)))
 have G1':=(G1.below hbB).mono (B':=w.heap.size) (by simp;omega)
 have hsA:=hbA.size
 have G2':=G2.mono (B':=w.heap.size) (by simp at hsA;omega)
 rw [← HQ.out] at G1'
 rw [← HR.out] at G2'
 have HB2:=bel_tr (bel_tr HB (belN (Below.refl _ _) 1)) (bel_tr hbA hbB)
 clear G1 G2 hbA hbB HB
 go_wp2
 go_ret2
 exact ⟨_,_,_,_,_,_,rfl,G1',G2',HB2⟩
theorem div_fin {x y d Q p:Int} (h:x*d=Q*(y*d)+p) (h0:0≤p) (h1:p<y*d) (hd:0<d) (hy:0<y):Q=x/y∧p/d=x%y:=by
 have e:p=(x-Q*y)*d:=by rw [Int.sub_mul,Int.mul_assoc];omega
 have e1:p/d=x-Q*y:=by rw [e,Int.mul_ediv_cancel _ (by omega)]
 have m0:0≤x-Q*y:=by
  by_cases h:0≤x-Q*y
  ·exact h
  ·have:=Int.mul_neg_of_neg_of_pos (by omega:x-Q*y<0) hd;omega
 have m1:x-Q*y<y:=lt_of_mul hd (by omega)
 have:=(Int.ediv_emod_unique hy).2 ⟨(by rw [Int.mul_comm y];omega:(x-Q*y)+y*Q=x),m0,m1⟩
 exact ⟨this.1.symm,by rw [e1];exact this.2.symm⟩
theorem ediv_pos1 {T:Int} (h0:0<T) (h1:T<4294967296):0<4294967296/(T+1):=(Int.le_ediv_iff_mul_le (by omega)).2 (by omega)
theorem ediv_lt1 {T:Int} (h0:0<T):4294967296/(T+1)<4294967296:=Int.ediv_lt_of_lt_mul (by omega) (by omega)
theorem own_new1 (w:World) (z:Int):OwnV (w.alloc (.cells #[Value.int .u64 z] 57)) w.heap.size (.slice (some ⟨w.heap.size,0,none⟩) 1 1) [z]:=by
 have h:Blk (w.alloc (.cells #[Value.int .u64 z] 57)) w.heap.size [z]:=blk_new [z]
 have:=(h.row 1 (by unfold maxLen;simp)).own (Nat.le_refl w.heap.size)
 simpa using this
theorem HNum.off {w w':World} {a:Option Addr} {n cap:Nat} {x:Int} {S g:Nat} (h:HNum w a n cap x S) (ho:Off g w w') (ha:Away a g):HNum w' a n cap x S:=by
 obtain ⟨xs,h1,h2,h3,h4⟩:=h
 exact ⟨xs,h1,h2,h3.off ho ha,h4⟩
theorem HNum.nil (w:World) (S:Nat):HNum w none 0 0 0 S:=⟨[],rfl,Nat.le_refl _,.inl rfl,AllH.nil,rfl,Nat.zero_le _,rfl⟩
theorem HNum.top {w:World} {a:Option Addr} {n cap:Nat} {x:Int} {S:Nat} (h:HNum w a n cap x S) (hx:0<x):∃ k b o T,n=k+1∧a=some ⟨b,o,none⟩∧w.cell? ⟨b,o+k,none⟩=some (.int .u64 T)∧0<T∧T<4294967296:=by
 obtain ⟨ys,b1,b2,hrb,hy,b5,b6,b7⟩:=h
 have hpos:0<n:=by
  rcases Nat.eq_zero_or_pos n with h|h
  ·have:ys=[]:=List.eq_nil_of_length_eq_zero (by omega)
   subst this;simp [valH,vH] at b5;omega
  ·exact h
 obtain ⟨k,hk⟩:∃ k,n=k+1:=⟨n-1,by omega⟩
 subst hk
 obtain ⟨b,o,e,hc⟩:=hrb.at (by omega)
 refine ⟨k,b,o,lm ys k,rfl,e,hc k (by omega),?_,(hy.at k).2⟩
 rcases Int.lt_or_eq_of_le (hy.at k).1 with h|h
 ·exact h
 ·exfalso
  unfold tlen at b7
  rw [← b1] at b7
  unfold tl at b7
  rw [if_pos h.symm] at b7
  have:=tl_le ys k
  omega
set_option maxRecDepth 100000 in
set_option maxHeartbeats 12000000 in
theorem rdivL {a b:Option Addr} {na nb ca cb:Nat} (xs ys:List Int) (w0:World) (h1:na=xs.length) (h2:na≤ca) (h3:na≤10000000) (h4:Reads w0 a xs) (h5:AllW xs) (k1:nb=ys.length) (k2:nb≤cb) (k3:nb≤10000000) (k4:Reads w0 b ys) (k5:AllW ys) (hy:0<val ys) (u:(ufit xs=false∧ufit ys=false)∨(ufit xs=true∧ufit ys=false)∨(ufit xs=false∧ufit ys=true)) :
  Calls Tryz.prog 94 #[.slice a na ca,.slice b nb cb] w0 fun e w'=>∃ c n cc c' n' cc',e = .returned (.tuple #[.slice c n cc,.slice c' n' cc'])∧Got w' w0.heap.size (.slice c n cc) (val xs/val ys) 20000001∧Got w' w0.heap.size (.slice c' n' cc') (val xs%val ys) 20000001∧Below w0.heap.size w0 w':=by
 have HA:Hid (Num w0 a na ca (val xs) 10000000):=⟨xs,h1,h2,h4,h5,rfl,h3⟩
 have HBN:Hid (Num w0 b nb cb (val ys) 10000000):=⟨ys,k1,k2,k4,k5,rfl,k3⟩
 rcases u with ⟨u1,u2⟩|⟨u1,u2⟩|⟨u1,u2⟩
 all_goals
  first|have E2:Hid (uval ys=0):=uval_far u2|(obtain ⟨e2,y0,y1⟩:=uval_fit k5 u2;have E2:Hid (uval ys=val ys):=e2;clear e2)
  have U1:Hid (ufit xs=_):=u1
  have U2:Hid (ufit ys=_):=u2
  have H1:Hid (na=xs.length):=h1
  have K1:Hid (nb=ys.length):=k1
  clear u1 u2 h1 k1
  go_enter Tryz.func94,Tryz.ntmps94
  go_wp2_with fail
  refine (ruint64_any a na ca xs _ H1.out h2 (by omega) h4 h5).mono ?_
  rintro e w1 ⟨rfl,hb1⟩
  have k4':=k4.below hb1
  go_wp2_with fail
  refine (ruint64_any b nb cb ys _ K1.out k2 (by omega) k4' k5).mono ?_
  rintro e w2 ⟨rfl,hb2⟩
  have HT:=bel_tr hb1 hb2
  have HA:=HA.out.below HT
  have HBN:=HBN.out.below HT
  rw [U1.out,U2.out,E2.out]
  clear h2 h3 h4 h5 k2 k3 k4 k5 k4' hb1 hb2 E2 U1 U2 H1 K1
  obtain ⟨x,hx⟩:∃ x,val xs=x:=⟨_,rfl⟩
  obtain ⟨y,hy'⟩:∃ y,val ys=y:=⟨_,rfl⟩
  have HX:Hid (val xs=x):=hx
  have HY:Hid (val ys=y):=hy'
  rw [hx] at HA
  rw [hy'] at hy HBN
  try (rw [hy'] at y0 y1;rw [hy'];have hyz:(y == 0)=false:=beq_eq_false_iff_ne.2 (by omega))
  clear hx hy'
  generalize uval xs=V at *
  go_wp2_with fail
  refine (halvesV _ HBN (by omega)).mono ?_
  rintro e w3 ⟨yb,yn,yc,rfl,H3,hb3⟩
  replace HA:=HA.below hb3
  replace HT:=bel_tr HT hb3
  obtain ⟨k,bb,oo,T,ek,rfl,hct,hT0,hT1⟩:=H3.top hy
  subst ek
  have hkb:k+1≤20000000:=by obtain ⟨_,_,_,_,_,_,h6,_⟩:=H3;omega
  obtain ⟨d,hd⟩:∃ d,4294967296/(T+1)=d:=⟨_,rfl⟩
  have hd0:0<d:=by rw [← hd];exact ediv_pos1 hT0 hT1
  have hd1:d<4294967296:=by rw [← hd];exact ediv_lt1 hT0
  have T1:IntKind.u64.wrap (Int.tdiv 4294967296 (T+1))=d:=by rw [Int.tdiv_eq_ediv_of_nonneg (by omega),hd,IntKind.wrap_u64];omega
  have T2:Int.tdiv 4294967296 (T+1)=d:=by rw [Int.tdiv_eq_ediv_of_nonneg (by omega),hd]
  have hTn:¬ T+1=0:=by omega
  clear HBN hb3 hd
  go_wp2_with fail
  refine (halvesV _ HA (by omega)).mono ?_
  rintro e w4 ⟨xb,xn,xc,rfl,H4,hb4⟩
  replace H3:=H3.below hb4
  replace HT:=bel_tr HT hb4
  clear HA hb4 hct
  go_wp2_with fail
  refine (rtimesV _ H4 (by omega) hd1 (by omega)).mono ?_
  rintro e w5 ⟨xb',xn',xc',rfl,H5,hb5⟩
  replace H3:=H3.below hb5
  replace HT:=bel_tr HT hb5
  clear H4 hb5
  go_wp2_with fail
  refine (rtimesV _ H3 (by omega) hd1 (by omega)).mono ?_
  rintro e w ⟨yb',yn',yc',rfl,H6,hb6⟩
  replace H5:=H5.below hb6
  replace HT:=bel_tr HT hb6
  clear H3 hb6
  obtain ⟨X,hX⟩:∃ X,x*d=X:=⟨_,rfl⟩
  obtain ⟨Y,hY⟩:∃ Y,y*d=Y:=⟨_,rfl⟩
  rw [hX] at H5
  rw [hY] at H6
  have HXd:Hid (x*d=X):=hX
  have HYd:Hid (y*d=Y):=hY
  have hY0:0<Y:=by rw [← hY];exact Int.mul_pos hy hd0
  clear hX hY
  have hpY:Hid (Y<pwH (20000001)):=by
   obtain ⟨ys',g1,_,_,g4,g5,g6,_⟩:=H6
   show Y<_
   rw [← g5]
   exact Int.lt_of_lt_of_le (valH_lt g4) (pwH_mono (by omega))
  obtain ⟨zs,z1,z2,hrz,hz,z5,z6,_⟩:=H5
  have Z1:Hid (xn'=zs.length):=z1
  have Z5:Hid (valH zs=X):=z5
  clear z1 z5
  go_wp2_with (at_make;refine wpList_makeH _ rfl _ _ rfl _ _ xn' rfl rfl (by omega) (by omega) (by omega) ?_)
  intro wm hbm hbelm
  obtain ⟨G,hG⟩:∃ G,G=w.heap.size:=⟨_,rfl⟩
  have HG:Hid (G=w.heap.size):=hG
  rw [← hG] at hbm hbelm
  rw [← hG]
  clear hG
  go_wp2
  go_loopw [14,15] (fun rv t wr=>∃ (k:Nat) (U:List Int) (p:Int) (ra:Option Addr) (rn rc:Nat),k≤xn'∧t = .int .i64 ((k:Int)-1)∧rv = .slice ra rn rc∧HNum wr ra rn rc p 20000001∧0≤p∧p<Y∧Blk wr G U∧U.length=xn'∧AllH U∧(∀ j,j<k→lm U j=0)∧valH zs-vH zs k=vH U xn'*Y+p*pwH k∧Below G w wr) (fun _ t _=>((intOf t)+1).toNat)
  case atStart=>exact ⟨xn',_,0,none,0,0,Nat.le_refl _,rfl,rfl,HNum.nil _ _,by omega,hY0,hbm,by simp,AllH.replicate _,fun j _=>lm_replicate _ _,by rw [vH_long (us:=zs) (by have:=Z1.out;omega),vH_congr (us:=List.replicate xn' 0) (vs:=[]) (fun j _=>by rw [lm_replicate,lm_ge (by simp)]),vH_long (us:=[]) (by simp)];simp [vH,valH],hbelm⟩
  case round =>
   clear hbm hbelm
   obtain ⟨k,U,p,ra,rn,rc,hk,rfl,rfl,HP,hp0,hp1,hbr,hU,hUh,hzz,hV,hbel⟩:=hrel
   have HU:Hid (U.length=xn'):=hU
   have HUh:Hid (AllH U):=hUh
   have HV:Hid (valH zs-vH zs k=vH U xn'*Y+p*pwH k):=hV
   have HZ:Hid (∀ j,j<k→lm U j=0):=hzz
   have hsz:=hbel.size
   clear hU hUh hV hzz
   by_cases hk0:k=0
   ·subst hk0
    have HE:Hid (valH U=val xs/val ys∧p/d=val xs%val ys):=by
     have e:=HV.out
     have e2:vH U xn'=valH U:=by unfold valH;rw [HU.out]
     rw [e2,Z5.out] at e
     simp [vH,pwH] at e
     rw [← HXd.out,← HYd.out] at e
     show _∧_
     rw [HX.out,HY.out]
     exact div_fin e hp0 (by rw [HYd.out];exact hp1) hd0 hy
    have hre:Reads wr (some ⟨G,0,none⟩) U:=by have:=hbr.reads U.length;rwa [List.take_length] at this
    clear hrz HV hbr
    go_wp2_with fail
    refine (rpartV _ HP hd0 hd1 (by omega)).mono ?_
    rintro e w7 ⟨c7,n7,cc7,rfl,H7,hb7⟩
    replace hre:=hre.below hb7
    rw [HE.out.2] at H7
    have HT7:Below w0.heap.size w0 w7:=bel_tr (bel_tr HT (by rw [HG.out] at hbel;exact hbel)) hb7
    have hs7:=HT7.size
    clear HP hbel hb7 HT
    obtain ⟨D,hD⟩:∃ D,p%d=D:=⟨_,rfl⟩
    rw [hD]
    clear hD
    go_wp2_with fail
    refine (numberL U _ HU.out.symm (Nat.le_refl _) (by omega) hre HUh.out 20000001 (by omega)).mono ?_
    rintro e wA ⟨c1,n1,d1,rfl,G1,hbA⟩
    replace H7:=H7.below hbA
    have hsA:=hbA.size
    clear hre
    go_wp2_with fail
    refine (numberV _ H7 (by omega)).mono ?_
    rintro e wB ⟨c2,n2,d2,rfl,G2,hbB⟩
    have G1':=(G1.below hbB).mono (B':=w0.heap.size) (by omega)
    have G2':=G2.mono (B':=w0.heap.size) (by omega)
    rw [HE.out.1] at G1'
    have HB2:=bel_tr HT7 (bel_tr hbA hbB)
    clear G1 G2 hbA hbB HT7 H7
    go_wp2
    go_ret2
    exact ⟨_,_,_,_,_,_,rfl,G1',G2',HB2⟩
   ·obtain ⟨j,rfl⟩:∃ j,k=j+1:=⟨k-1,by omega⟩
    have hj:j<xn':=by omega
    have hjn:(j:Int)<(xn':Int):=by omega
    obtain ⟨x0,x1⟩:=hz.at j
    obtain ⟨b1,o1,rfl,hc1⟩:=hrz.at (by have:=Z1.out;omega)
    have h1:=hc1 j (by have:=Z1.out;omega)
    have hb1':b1<G:=by rw [HG.out];simpa using World.block_lt_of_cell? _ _ h1
    have hcx:wr.cell? ⟨b1,o1+j,none⟩=some (.int .u64 (lm zs j)):=by rw [hbel.cell (p:=⟨b1,o1+j,none⟩) (by exact hb1')];exact h1
    clear hrz hc1 h1
    have HBR:Hid (Blk wr G U):=hbr
    have hGl:=hbr.lt
    obtain ⟨rs,r1,r2,hrr,hrh,r5,r6,_⟩:=HP
    have R1:Hid (rn=rs.length):=r1
    have R5:Hid (valH rs=p):=r5
    have HRH:Hid (AllH rs):=hrh
    clear r1 r5 hbr hrh
    obtain ⟨z,hzj⟩:∃ z,lm zs j=z:=⟨_,rfl⟩
    have HZJ:Hid (lm zs j=z):=hzj
    rw [hzj] at hcx x0 x1
    clear hzj
    have hown0:OwnV (wr.alloc (.cells #[Value.int .u64 z] 57)) wr.heap.size (.slice (some ⟨wr.heap.size,0,none⟩) 1 1) [z]:=own_new1 wr z
    have hrr0:Reads (wr.alloc (.cells #[Value.int .u64 z] 57)) ra rs:=hrr.below ((Below.refl _ _).alloc (Nat.le_refl _) _)
    have hB0:Below wr.heap.size wr (wr.alloc (.cells #[Value.int .u64 z] 57)):=(Below.refl _ _).alloc (Nat.le_refl _) _
    clear hrr
    go_wp2_with (at_builtin;refine wpList_appendL 22 Tryz.underlying22 _ rfl _ _ rfl wr.heap.size (.slice (some ⟨wr.heap.size,0,none⟩) 1 1) [z] rfl hown0 ra rn rc rs rfl R1.out hrr0 (by simp;omega) (by simp) ?_)
    intro va w8 hown8 hgrow8
    have hbel8:Below wr.heap.size wr w8:=hB0.trans (grown_below hgrow8 (by simp) (fun q hq=>by simp [Value.ownBlock] at hq;omega))
    have LZ:Hid (([z]++rs).length=rn+1):=by show _=_;rw [R1.out];simp
    obtain ⟨va',vc',rfl⟩:=own_form hown8 LZ.out
    have haw:Away va' G:=fun q hq=>by
     subst hq
     have:=(hown8.lt q.block (by simp [Value.ownBlock])).1
     omega
    obtain ⟨g1,g2,g3⟩:=hown8.reads
    clear hown0 hrr0 hgrow8 hown8 hB0 g1 hcx
    go_wp2_with fail
    refine (rcut_any va' (rn+1) vc' ([z]++rs) w8 LZ.out.symm g2 (by omega) g3).mono ?_
    rintro e wsame ⟨rfl,rfl⟩
    have hle:tlen ([z]++rs)≤([z]++rs).length:=tl_le _ _
    rw [LZ.out] at hle
    have H9:=HNum.of_trim (hs:=[z]++rs) (S:=20000002) (cap:=vc') g3 (Nat.le_trans hle g2) (AllH.append (fun u hu=>by simp at hu;subst hu;exact ⟨x0,x1⟩) HRH.out) (Nat.le_trans hle (by omega))
    have EV:Hid (valH ([z]++rs)=p*4294967296+z):=by show valH (z::rs)=_;rw [valH_cons,R5.out,Int.mul_comm];omega
    rw [EV.out] at H9
    have hbelY:Below G w w8:=hbel.trans (hbel8.mono (by omega))
    have HY8:=H6.below (w':=w8) (by rw [HG.out] at hbelY;exact hbelY)
    obtain ⟨tn,htn⟩:∃ tn,tlen ([z]++rs)=tn:=⟨_,rfl⟩
    rw [htn] at H9 hle
    rw [htn]
    clear htn
    have hp2:p*4294967296+z<Y*4294967296:=by omega
    obtain ⟨r,hr⟩:∃ r,p*4294967296+z=r:=⟨_,rfl⟩
    have HR:Hid (r=p*4294967296+z):=hr.symm
    rw [hr] at H9 hp2
    clear g2 g3 hr EV
    go_wp2_with fail
    refine (rguessV _ H9 HY8 (by omega) (by omega) hY0 hp2).mono ?_
    rintro e w9 ⟨dq,rfl,dq0,dq1,hq1,hq2,hb9⟩
    have hB9:Below wr.heap.size wr w9:=bel_tr hbel8 hb9
    have hbr9:=HBR.out.below hB9 hGl
    have hL9:Below G w w9:=hbel.trans (hB9.mono (by omega))
    replace H9:=H9.below hb9
    have hcu:=hbr9.cell (i:=j) (by rw [HU.out];exact hj)
    have hfu:=hbr9.frozen j
    have hB10:=hbr9.set j dq
    have hL10:=hL9.setCell (p:=⟨G,j,none⟩) (Nat.le_refl _) (.int .u64 dq)
    have hO10:=(Off.refl G w9).set j (.int .u64 dq)
    have H10:=H9.off hO10 haw
    have HU2:Hid ((U.set j dq).length=xn'):=by show _=_;rw [List.length_set,HU.out]
    have HA2:Hid (AllH (U.set j dq)):=HUh.out.set _ _ ⟨dq0,dq1⟩
    have HZ2:Hid (∀ i,i<j→lm (U.set j dq) i=0):=fun i hi=>by rw [lm_set,if_neg (by omega)];exact HZ.out i (by omega)
    have HRR:Hid (r=dq*Y+(r-dq*Y)):=by show _=_;omega
    have HV2:Hid (valH zs-vH zs j=vH (U.set j dq) xn'*Y+(r-dq*Y)*pwH j):=by
     show _=_
     rw [vH_set _ hj (by rw [HU.out];exact hj),HZ.out j (by omega),Int.sub_zero]
     have e:=HV.out
     rw [pwH_succ] at e
     have e2:=part_step (x:=lm zs j) e (by rw [HZJ.out];exact HR.out) HRR.out
     rw [← e2,vH_top]
     omega
    have HY10:=H6.below (w':=w9.setCell ⟨G,j,none⟩ (.int .u64 dq)) (hL10.mono (by have:=HG.out;omega))
    have hcq:=hB10.cell (i:=j) (by rw [HU2.out];exact hj)
    rw [lm_set,if_pos ⟨rfl,by rw [HU.out];exact hj⟩] at hcq
    have hr0:0≤r-dq*Y:=by omega
    have hr1:r-dq*Y<Y:=by rw [Int.add_mul] at hq2;omega
    have HQ1:Hid (dq*Y≤r):=hq1
    clear hbel8 hbelY HY8 hb9 hB9 hbr9 hL9 H9 HBR hbel hO10 HR hp2 hq1 hq2 hle haw
    go_wp2_with fail
    refine (rtimesV _ HY10 dq0 dq1 (by omega)).mono ?_
    rintro e w11 ⟨tb,tn',tc,rfl,H11,hb11⟩
    replace H10:=H10.below hb11
    have hB11:=hB10.below hb11 hB10.lt
    have hL11:Below G w w11:=hL10.trans (hb11.mono (by have:=hB10.lt;omega))
    clear HY10 hB10 hL10 hb11 hcq hcu hfu
    go_wp2_with fail
    refine (minusV _ H10 H11 (by omega) (by omega) (by rw [Int.mul_comm];exact HQ1.out)).mono ?_
    rintro e w12 ⟨mb,mn,mc,rfl,H12,hb12⟩
    have hB12:=hB11.below hb12 hB11.lt
    have hL12:Below G w w12:=hL11.trans (hb12.mono (by have:=hB11.lt;omega))
    rw [Int.mul_comm Y dq] at H12
    have H13:=H12.shrink (m:=20000001) (Int.lt_trans hr1 hpY.out)
    clear H10 H11 hB11 hL11 hb12 H12
    generalize r-dq*Y=p' at *
    go_wp2
    go_roundw
    case rel=>exact ⟨j,_,p',mb,mn,mc,by omega,by go_num,rfl,H13,hr0,hr1,hB12,HU2.out,HA2.out,HZ2.out,HV2.out,hL12⟩
    case measure=>simp [intOf]
theorem rdivV {a b:Option Addr} {na nb ca cb:Nat} {x y:Int} {S R:Nat} (w:World) (ha:Num w a na ca x S) (hb:Num w b nb cb y R) (hS:S≤10000000) (hR:R≤10000000) (hy:0<y) :
  Calls Tryz.prog 94 #[.slice a na ca,.slice b nb cb] w fun e w'=>∃ c n cc c' n' cc',e = .returned (.tuple #[.slice c n cc,.slice c' n' cc'])∧Got w' w.heap.size (.slice c n cc) (x/y) 20000001∧Got w' w.heap.size (.slice c' n' cc') (x%y) 20000001∧Below w.heap.size w w':=by
 obtain ⟨xs,h1,h2,h4,h5,rfl,h3⟩:=ha
 obtain ⟨ys,k1,k2,k4,k5,rfl,k3⟩:=hb
 rcases u1:ufit xs <;> rcases u2:ufit ys
 ·exact rdivL xs ys w h1 h2 (by omega) h4 h5 k1 k2 (by omega) k4 k5 hy (.inl ⟨u1,u2⟩)
 ·exact rdivL xs ys w h1 h2 (by omega) h4 h5 k1 k2 (by omega) k4 k5 hy (.inr (.inr ⟨u1,u2⟩))
 ·exact rdivL xs ys w h1 h2 (by omega) h4 h5 k1 k2 (by omega) k4 k5 hy (.inr (.inl ⟨u1,u2⟩))
 ·refine (rdivW xs ys w h1 h2 (by omega) h4 h5 k1 k2 (by omega) k4 k5 hy u1 u2).mono ?_
  rintro e w' ⟨c,n,cc,c',n',cc',rfl,G1,G2,hb⟩
  exact ⟨c,n,cc,c',n',cc',rfl,G1.le (by omega),G2.le (by omega),hb⟩
theorem rnormG2 {a:Option Addr} {na ca:Nat} {x:Int} {S:Nat} (w:World) (ha:Num w a na ca x S) (hS:S≤10000000) :
  Calls Tryz.prog 63 #[.slice a na ca] w fun e w'=>∃ c n cc,e = .returned (.slice c n cc)∧Got w' w.heap.size (.slice c n cc) x S∧Below w.heap.size w w':=by
 obtain ⟨xs,h1,h2,h3,h4,h5,h6⟩:=ha
 refine (rnorm_any a na ca xs w h1 h2 (by omega) h3 h4).mono ?_
 rintro e w' ⟨c,cc,rfl,ho,hb⟩
 have hl:tlen xs≤xs.length:=tl_le _ _
 exact ⟨c,_,cc,rfl,⟨trimL xs,ho,NF.trimL h4,by rw [val_trimL];exact h5,by rw [length_trimL];omega⟩,hb⟩
theorem Got.wval {w:World} {B:Nat} {a:Option Addr} {n cap:Nat} {x S:Nat} (h:Got w B (.slice a n cap) (x:Int) S):wval w (.slice a n cap)=x:=by
 obtain ⟨xs,h1,h2,h3,h4⟩:=h
 rcases h1.row with ⟨e1,e2⟩|⟨g,c,e1,hB,hr⟩
 ·subst e2
  simp only [Value.slice.injEq] at e1
  obtain ⟨rfl,rfl,rfl⟩:=e1
  simp [Go.Proofs.YtceigfafmalfgaaGreatDoor.val,vS] at h3
  show (0:Nat)=x
  omega
 ·simp only [Value.slice.injEq] at e1
  obtain ⟨rfl,e2,rfl⟩:=e1
  have e:∀ k,k≤xs.length→rdv w g 0 k=vS xs k:=by
   intro k hk
   induction k with
   | zero=>rfl
   | succ k ih =>
    show rdv w g 0 k+cellI w g (0+k)*pw k=vS _ k+lm _ k*pw k
    rw [ih (by omega)]
    congr 2
    unfold cellI
    rw [Nat.zero_add,hr.cell (by omega)]
  show (rdv w g 0 n).toNat=x
  have e3:vS xs xs.length=Go.Proofs.YtceigfafmalfgaaGreatDoor.val xs:=rfl
  rw [e2,e _ (Nat.le_refl _),e3,h3]
  simp
theorem Got.len {w:World} {B:Nat} {a:Option Addr} {n cap:Nat} {x S:Nat} (h:Got w B (.slice a n cap) (x:Int) S):(x:Int)<pw n∧(n=0↔x=0)∧n≤S:=by
 obtain ⟨xs,h1,h2,h3,h4⟩:=h
 have h5:=h1.reads.1
 have h6:=val_lt h2.1
 have h7:=tlen_zero h2.1
 have h8:=h2.2
 rw [h3] at h6 h7
 rw [← h5] at h6
 refine ⟨h6,?_,by omega⟩
 omega
set_option maxRecDepth 100000 in
set_option maxHeartbeats 1000000 in
theorem rgcdV {a0 b0:Option Addr} {na0 nb0 ca0 cb0:Nat} {x y S:Nat} (w0:World) (ha:Num w0 a0 na0 ca0 (x:Int) S) (hb:Num w0 b0 nb0 cb0 (y:Int) S) (hS:S≤10000000) :
  Calls Tryz.prog 93 #[.slice a0 na0 ca0,.slice b0 nb0 cb0] w0 fun e w'=>∃ c n cc,e = .returned (.slice c n cc)∧Got w' w0.heap.size (.slice c n cc) (Nat.gcd x y:Nat) (S+1)∧Below w0.heap.size w0 w':=by
 go_enter Tryz.func93,Tryz.ntmps93
 go_wp2_with fail
 refine (rnormG2 _ ha hS).mono ?_
 rintro e w1 ⟨x1,x2,x3,rfl,GX,hb1⟩
 replace hb:=hb.below hb1
 clear ha
 go_wp2_with fail
 refine (rnormG2 _ hb hS).mono ?_
 rintro e w2 ⟨y1,y2,y3,rfl,GY,hb2⟩
 have GX2:=GX.below hb2
 have GY2:=GY.mono (B':=w0.heap.size) hb1.size
 have HB:=bel_tr hb1 hb2
 clear hb hb1 hb2 GX GY
 go_wp2
 go_loopw [5,6] (fun a b wr=>∃ xa xn xc ya yn yc p q,a = .slice xa xn xc∧b = .slice ya yn yc∧Got wr w0.heap.size (.slice xa xn xc) ((p:Nat):Int) S∧Got wr w0.heap.size (.slice ya yn yc) ((q:Nat):Int) S∧Nat.gcd p q=Nat.gcd x y∧Below w0.heap.size w0 wr) (fun _ b wr=>wval wr b)
 case atStart=>exact ⟨x1,x2,x3,y1,y2,y3,x,y,rfl,rfl,GX2,GY2,rfl,HB⟩
 case round =>
  clear GX2 GY2 HB
  obtain ⟨xa,xn,xc,ya,yn,yc,p,q,rfl,rfl,GX,GY,hG,hbel⟩:=hrel
  have HG:Hid (Nat.gcd p q=Nat.gcd x y):=hG
  obtain ⟨xl1,xl2,xl3⟩:=GX.len
  obtain ⟨yl1,yl2,yl3⟩:=GY.len
  have HWY:Hid (wval wr (.slice ya yn yc)=q):=GY.wval
  have hsz:=hbel.size
  clear hG
  by_cases hx1:1<xn
  ·have hxI:(1:Int)<(xn:Int):=by omega
   rcases Nat.eq_zero_or_pos q with h0|h0
   ·have hyn:yn=0:=yl2.2 h0
    subst h0 hyn
    have GF:=GX.le (S':=S+1) (by omega)
    rw [Nat.gcd_zero_right] at HG
    rw [HG.out] at GF
    clear GX GY
    go_wp2
    go_ret
    exact ⟨_,_,_,rfl,GF,hbel⟩
   ·have hyn:yn≠0:=fun e=>by have:=yl2.1 e;omega
    have hyI:((yn:Int) == 0)=false:=beq_eq_false_iff_ne.2 (by omega)
    have hdv:=rdivV wr GX.num GY.num (by omega) (by omega) (by omega:(0:Int)<(q:Int))
    clear GX
    go_wp2_with fail
    refine hdv.mono ?_
    rintro e w3 ⟨d1,d2,d3,r1,r2,r3,rfl,_,GR,hb3⟩
    clear hdv
    have em:(p:Int)%(q:Int)=((p%q:Nat):Int):=(Int.natCast_emod p q).symm
    rw [em] at GR
    have hlt:=Nat.mod_lt p h0
    have HGN:Hid (Nat.gcd q (p%q)=Nat.gcd x y):=by show _=_;rw [← HG.out,Nat.gcd_comm p q,Nat.gcd_rec q p,Nat.gcd_comm]
    obtain ⟨r,hr⟩:∃ r,p%q=r:=⟨_,rfl⟩
    rw [hr] at GR hlt HGN
    have GR1:=(GR.shrink (m:=yn) (by omega)).le (S':=S) yl3
    have GR2:=GR1.mono (B':=w0.heap.size) hsz
    have GY2:=GY.below hb3
    have hbel3:=bel_tr hbel hb3
    have HWR:Hid (wval w3 (.slice r1 r2 r3)=r):=GR2.wval
    clear GR GR1 GY hb3 em hr hbel
    go_wp2
    go_roundw
    case rel=>exact ⟨ya,yn,yc,r1,r2,r3,q,r,rfl,rfl,GY2,GR2,HGN.out,hbel3⟩
    case measure=>rw [HWR.out,HWY.out];exact hlt
  ·by_cases hy1:1<yn
   ·have hxI:¬ (1:Int)<(xn:Int):=by omega
    have hyyI:(1:Int)<(yn:Int):=by omega
    rcases Nat.eq_zero_or_pos q with h0|h0
    ·exfalso
     have hyn:yn=0:=yl2.2 h0
     omega
    ·have hyn:yn≠0:=fun e=>by have:=yl2.1 e;omega
     have hyI:((yn:Int) == 0)=false:=beq_eq_false_iff_ne.2 (by omega)
     have hdv:=rdivV wr GX.num GY.num (by omega) (by omega) (by omega:(0:Int)<(q:Int))
     clear GX
     go_wp2_with fail
     refine hdv.mono ?_
     rintro e w3 ⟨d1,d2,d3,r1,r2,r3,rfl,_,GR,hb3⟩
     clear hdv
     have em:(p:Int)%(q:Int)=((p%q:Nat):Int):=(Int.natCast_emod p q).symm
     rw [em] at GR
     have hlt:=Nat.mod_lt p h0
     have HGN:Hid (Nat.gcd q (p%q)=Nat.gcd x y):=by show _=_;rw [← HG.out,Nat.gcd_comm p q,Nat.gcd_rec q p,Nat.gcd_comm]
     obtain ⟨r,hr⟩:∃ r,p%q=r:=⟨_,rfl⟩
     rw [hr] at GR hlt HGN
     have GR1:=(GR.shrink (m:=yn) (by omega)).le (S':=S) yl3
     have GR2:=GR1.mono (B':=w0.heap.size) hsz
     have GY2:=GY.below hb3
     have hbel3:=bel_tr hbel hb3
     have HWR:Hid (wval w3 (.slice r1 r2 r3)=r):=GR2.wval
     clear GR GR1 GY hb3 em hr hbel
     go_wp2
     go_roundw
     case rel=>exact ⟨ya,yn,yc,r1,r2,r3,q,r,rfl,rfl,GY2,GR2,HGN.out,hbel3⟩
     case measure=>rw [HWR.out,HWY.out];exact hlt
   ·skip
    obtain ⟨xs,x1,x2,x3,x4⟩:=GX
    obtain ⟨ys,y1,y2,y3,y4⟩:=GY
    obtain ⟨rx1,rx2,rx3⟩:=x1.reads
    obtain ⟨ry1,ry2,ry3⟩:=y1.reads
    have u1:ufit xs=true:=by have:=x2.2;simp [ufit];omega
    have u2:ufit ys=true:=by have:=y2.2;simp [ufit];omega
    obtain ⟨e1,p0,p1⟩:=uval_fit x2.1 u1
    obtain ⟨e2,q0,q1⟩:=uval_fit y2.1 u2
    have E1:Hid (uval xs=(p:Int)):=e1.trans x3
    have E2:Hid (uval ys=(q:Int)):=e2.trans y3
    rw [x3] at p1
    rw [y3] at q1
    have RX:Hid (xn=xs.length):=rx1
    have RY:Hid (yn=ys.length):=ry1
    have xw:=x2.1
    have yw:=y2.1
    have hxI:¬ (1:Int)<(xn:Int):=by omega
    have hyI:¬ (1:Int)<(yn:Int):=by omega
    clear x1 x2 x3 y1 y2 y3 e1 e2 u1 u2 rx1 ry1 p0 q0
    go_wp2_with fail
    refine (ruint64_any xa xn xc xs _ RX.out rx2 (by omega) rx3 xw).mono ?_
    rintro e w3 ⟨rfl,hb3⟩
    have ry3':=ry3.below hb3
    rw [E1.out]
    generalize ufit xs=f1 at *
    go_wp2_with fail
    refine (ruint64_any ya yn yc ys _ RY.out ry2 (by omega) ry3' yw).mono ?_
    rintro e w4 ⟨rfl,hb4⟩
    rw [E2.out]
    generalize ufit ys=f2 at *
    have hbel4:=bel_tr (bel_tr hbel hb3) hb4
    clear hb3 hb4 hbel rx3 ry3 ry3' xw yw E1 E2
    go_wp2
    go_loopw [9,11] (fun v t wz=>wz=w4∧∃ i j:Nat,v = .int .u64 (i:Int)∧t = .int .u64 (j:Int)∧i<18446744073709551616∧j<18446744073709551616∧Nat.gcd i j=Nat.gcd x y) (fun _ t _=>(intOf t).toNat)
    case atStart=>exact ⟨rfl,p,q,rfl,rfl,by omega,by omega,HG.out⟩
    case round =>
     obtain ⟨rfl,i,j,rfl,rfl,hi,hj,hij⟩:=hrel
     have HIJ:Hid (Nat.gcd i j=Nat.gcd x y):=hij
     clear hij
     rcases Nat.eq_zero_or_pos j with h0|h0
     ·subst h0
      have HF:Hid (i=Nat.gcd x y):=by show _=_;rw [← HIJ.out,Nat.gcd_zero_right]
      clear HIJ
      go_wp2_with fail
      refine (rofGot (i:Int) _ (by omega) (by omega)).mono ?_
      rintro e w5 ⟨c5,n5,d5,rfl,G5,hb5⟩
      have G6:=(G5.mono (B':=w0.heap.size) hbel4.size).le (S':=S+1) (by omega)
      rw [HF.out] at G6
      have hbel5:=bel_tr hbel4 hb5
      clear G5 hb5 hbel4
      go_wp2
      go_ret
      exact ⟨_,_,_,rfl,G6,hbel5⟩
     ·have h0I:(0:Int)<(j:Int):=by omega
      have hjne:¬ (j:Int)=0:=by omega
      have T1:(i:Int).tmod (j:Int)=((i%j:Nat):Int):=by rw [Int.tmod_eq_emod_of_nonneg (by omega),Int.natCast_emod]
      have hlt:=Nat.mod_lt i h0
      have HN:Hid (Nat.gcd j (i%j)=Nat.gcd x y):=by show _=_;rw [← HIJ.out,Nat.gcd_comm i j,Nat.gcd_rec j i,Nat.gcd_comm]
      obtain ⟨r,hr⟩:∃ r,i%j=r:=⟨_,rfl⟩
      rw [hr] at T1 hlt HN
      clear hr
      go_wp2
      go_roundw
      case rel=>exact ⟨trivial,j,r,rfl,rfl,hj,by omega,HN.out⟩
      case measure=>simp [intOf];omega
end Go.Proofs.YtceigfafmalfgaaGreatDoor
