import Derived.Test.YtceigfafmalfgaaGreatDoorDivAll
import Derived.Shelf.Spec.TrailingZeros
namespace Go.Proofs.YtceigfafmalfgaaGreatDoor
open Go.RowKit
theorem odd_coprime {y:Nat} (hy:y%2=1) (k:Nat):Nat.gcd (2^k) y=1:=by
 induction k with
 | zero=>simp
 | succ k ih =>
  have h2:Nat.gcd 2 y=1:=by rw [Nat.gcd_rec,hy];simp
  rw [Nat.pow_succ]
  exact Nat.Coprime.mul_left ih h2
theorem gcd_odd {m y:Nat} (hy:y%2=1) (k:Nat):Nat.gcd (2^k*m) y=Nat.gcd m y:=Nat.Coprime.gcd_mul_left_cancel m (odd_coprime hy k)
theorem gcd_less {x y:Nat} (h:y≤x):Nat.gcd (x-y) y=Nat.gcd x y:=by
 have e:x=(x-y)+y:=by omega
 rw [e,Nat.gcd_add_self_left,show x-y+y-y=x-y by omega]
theorem gcd_twos {x y a b:Nat} (hx:x%2=1) (hy:y%2=1):Nat.gcd (2^a*x) (2^b*y)=2^(min a b)*Nat.gcd x y:=by
 rcases Nat.le_total a b with h|h
 ·rw [Nat.min_eq_left h,show b=a+(b-a) by omega,Nat.pow_add,Nat.mul_assoc,Nat.gcd_mul_left,Nat.gcd_comm x,gcd_odd hx,Nat.gcd_comm y]
 ·rw [Nat.min_eq_right h,show a=b+(a-b) by omega,Nat.pow_add,Nat.mul_assoc,Nat.gcd_mul_left,gcd_odd hy]
set_option maxHeartbeats 1000000 in
theorem tz_core (x k idx:Nat) (w:World) (hx0:((x:Int) == 0)=false)
  (key:IntKind.u64.wrap (bits BinOp.and IntKind.u64 (x:Int) (IntKind.u64.wrap (-(x:Int)))*285870213051353865)/288230376151711744=(idx:Int))
  (hi:idx<64) (hk:k<64) (hcell:w.cell? ⟨4,idx,none⟩=some (.int .u8 k)) :
  Calls Tryz.prog 130 #[.int .u64 x] w fun e w'=>e = .returned (.int .i64 k)∧w'=w:=by
 go_enter Tryz.func130,Tryz.ntmps130
 go_wp2_with (simp only [key])
 go_ret
 exact ⟨rfl,rfl⟩
theorem tz_any (x:Nat) (w:World) (h0:x≠0) (h1:x<18446744073709551616) (hT:TabAt 4 Lib.deBruijn64tab w) :
  Calls Tryz.prog 130 #[.int .u64 x] w fun e w'=>∃ k m:Nat,e = .returned (.int .i64 k)∧k<64∧x=2^k*(2*m+1)∧w=w':=by
 obtain ⟨hlow,hk⟩:=Lib.lowest_bit 64 x h0 h1
 obtain ⟨hi,htab⟩:=Lib.deBruijn64_at _ hk
 obtain ⟨m,hm,_⟩:=Lib.ctzFrom_spec 64 x (Nat.pos_of_ne_zero h0) h1
 have ec:Lib.ctz 64 x=Lib.ctzFrom 64 x:=by unfold Lib.ctz;rw [if_neg h0]
 have hcell:=hT _ hi
 rw [htab] at hcell
 refine (tz_core x (Lib.ctz 64 x) _ w (by simpa using h0) (tz64_key x _ h1 h0 hlow) hi hk hcell).mono ?_
 rintro e w' ⟨rfl,rfl⟩
 exact ⟨_,m,rfl,hk,by rw [ec];exact hm,rfl⟩
set_option maxHeartbeats 1000000 in
theorem gcdWords_any (x y:Nat) (w:World) (hx:x%2=1) (hy:y%2=1) (hx1:x<18446744073709551616) (hy1:y<18446744073709551616) (hT:TabAt 4 Lib.deBruijn64tab w) :
  Calls Tryz.prog 132 #[.int .u64 x,.int .u64 y] w fun e w'=>e = .returned (.int .u64 (Nat.gcd x y:Nat))∧w=w':=by
 go_enter Tryz.func132,Tryz.ntmps132
 go_wp2
 go_loopw [0,1] (fun a b wr=>w=wr∧∃ p q:Nat,a = .int .u64 p∧b = .int .u64 q∧p%2=1∧q%2=1∧p<18446744073709551616∧q<18446744073709551616∧Nat.gcd p q=Nat.gcd x y) (fun a b _=>((intOf a)+(intOf b)).toNat)
 case atStart=>exact ⟨rfl,x,y,rfl,rfl,hx,hy,hx1,hy1,rfl⟩
 case round =>
  obtain ⟨rfl,p,q,rfl,rfl,hp,hq,hp1,hq1,hG⟩:=hrel
  have HG:Hid (Nat.gcd p q=Nat.gcd x y):=hG
  clear hG
  by_cases h:p=q
  ·subst h
   have HE:Hid (p=Nat.gcd x y):=by show _=_;rw [← HG.out,Nat.gcd_self]
   go_wp2
   go_ret
   exact ⟨by rw [← HE.out];rfl,rfl⟩
  ·have hne:((p:Int) == (q:Int))=false:=beq_eq_false_iff_ne.2 (by omega)
   by_cases hlt:p<q
   ·have hltI:(p:Int)<(q:Int):=by omega
    have hG2:=gcd_less (Nat.le_of_lt hlt)
    obtain ⟨r,hr⟩:∃ r,q-p=r:=⟨_,rfl⟩
    have E:(q:Int)-(p:Int)=(r:Int):=by omega
    have hr0:r≠0:=by omega
    have hrq:r<q:=by omega
    have HR:Hid (Nat.gcd r p=Nat.gcd x y):=by show _=_;rw [← hr,hG2,Nat.gcd_comm];exact HG.out
    have hstep:=tz_any r w hr0 (by omega) hT
    clear hr hG2
    go_wp2_with fail
    refine hstep.mono ?_
    rintro e w' ⟨k,m,rfl,hk,hm,rfl⟩
    have ED:(r:Int)/2^k=((2*m+1:Nat):Int):=by rw [hm,show ((2:Int)^k)=((2^k:Nat):Int) by rw [Int.natCast_pow];rfl,← Int.natCast_ediv,Nat.mul_div_cancel_left _ (Nat.pow_pos (by decide))]
    have hle:2*m+1≤r:=by rw [hm];exact Nat.le_mul_of_pos_left _ (Nat.pow_pos (by decide))
    have HF:Hid (Nat.gcd (2*m+1) p=Nat.gcd x y):=by show _=_;rw [← HR.out,hm,gcd_odd hp]
    obtain ⟨z,hz⟩:∃ z,2*m+1=z:=⟨_,rfl⟩
    have hzo:z%2=1:=by omega
    rw [hz] at ED hle HF
    clear hm hstep hz
    go_wp2
    go_roundw
    case rel=>exact ⟨trivial,z,p,rfl,rfl,hzo,hp,by omega,hp1,HF.out⟩
    case measure=>simp [intOf];omega
   ·have hltI:¬ (p:Int)<(q:Int):=by omega
    have hG2:=gcd_less (show q≤p by omega)
    obtain ⟨r,hr⟩:∃ r,p-q=r:=⟨_,rfl⟩
    have E:(p:Int)-(q:Int)=(r:Int):=by omega
    have hr0:r≠0:=by omega
    have hrq:r<p:=by omega
    have HR:Hid (Nat.gcd r q=Nat.gcd x y):=by show _=_;rw [← hr,hG2];exact HG.out
    have hstep:=tz_any r w hr0 (by omega) hT
    clear hr hG2
    go_wp2_with fail
    refine hstep.mono ?_
    rintro e w' ⟨k,m,rfl,hk,hm,rfl⟩
    have ED:(r:Int)/2^k=((2*m+1:Nat):Int):=by rw [hm,show ((2:Int)^k)=((2^k:Nat):Int) by rw [Int.natCast_pow];rfl,← Int.natCast_ediv,Nat.mul_div_cancel_left _ (Nat.pow_pos (by decide))]
    have hle:2*m+1≤r:=by rw [hm];exact Nat.le_mul_of_pos_left _ (Nat.pow_pos (by decide))
    have HF:Hid (Nat.gcd (2*m+1) q=Nat.gcd x y):=by show _=_;rw [← HR.out,hm,gcd_odd hq]
    obtain ⟨z,hz⟩:∃ z,2*m+1=z:=⟨_,rfl⟩
    have hzo:z%2=1:=by omega
    rw [hz] at ED hle HF
    clear hm hstep hz
    go_wp2
    go_roundw
    case rel=>exact ⟨trivial,z,q,rfl,rfl,hzo,hq,by omega,hq1,HF.out⟩
    case measure=>simp [intOf];omega
def Seg (w:World) (B g o n cap:Nat) (x:Nat) (S:Nat):Prop:=∃ us,Blk w g us∧B≤g∧o+n≤us.length∧n≤cap∧us.length≤S∧AllW us∧tlen ((us.drop o).take n)=n∧val ((us.drop o).take n)=(x:Int)
theorem seg_list {us:List Int} {o n:Nat} (h:o+n≤us.length):((us.drop o).take n).length=n:=by simp;omega
theorem seg_w {us:List Int} (hu:AllW us) (o n:Nat):AllW ((us.drop o).take n):=fun x hx=>hu x (List.mem_of_mem_drop (List.mem_of_mem_take hx))
theorem seg_lm {us:List Int} {o n i:Nat} (h:i<n):lm ((us.drop o).take n) i=lm us (o+i):=by rw [lm_take h,lm_drop]
theorem seg_reads {w:World} {g o n:Nat} {us:List Int} (hb:Blk w g us) (h:o+n≤us.length):Reads w (some ⟨g,o,none⟩) ((us.drop o).take n) :=
 .inr ⟨g,o,rfl,fun i hi=>by
  rw [seg_list h] at hi
  rw [seg_lm hi]
  exact hb.cell (by omega)⟩
theorem Seg.num {w:World} {B g o n cap x S:Nat} (h:Seg w B g o n cap x S):Num w (some ⟨g,o,none⟩) n cap x S:=by
 obtain ⟨us,h1,h2,h3,h4,h5,h6,h7,h8⟩:=h
 exact ⟨_,(seg_list h3).symm,h4,seg_reads h1 h3,seg_w h6 o n,h8,by omega⟩
theorem Seg.of_block {w w':World} {B g o n cap x S:Nat} (h:Seg w B g o n cap x S) (hb:w'.heap[g]? = w.heap[g]?):Seg w' B g o n cap x S:=by
 obtain ⟨us,h1,h2⟩:=h
 exact ⟨us,by unfold Blk;rw [hb];exact h1,h2⟩
theorem Seg.lt {w:World} {B g o n cap x S:Nat} (h:Seg w B g o n cap x S):B≤g∧g<w.heap.size:=by
 obtain ⟨us,h1,h2,_⟩:=h;exact ⟨h2,h1.lt⟩
theorem Seg.below {w w':World} {B g o n cap x S:Nat} (h:Seg w B g o n cap x S) (hb:Below w.heap.size w w'):Seg w' B g o n cap x S:=h.of_block (hb.block g h.lt.2)
theorem Seg.off {w w':World} {B g o n cap x S k:Nat} (h:Seg w B g o n cap x S) (hb:Off k w w') (hk:g≠k):Seg w' B g o n cap x S:=h.of_block (hb.block g hk)
theorem val_zeros {xs:List Int} {j:Nat} (hj:j<xs.length) (hz:∀ i,i<j→lm xs i=0):val xs=pw j*(lm xs j+18446744073709551616*val (xs.drop (j+1))):=by
 have e1:=vS_split2 xs j (1+(xs.length-(j+1)))
 rw [show j+(1+(xs.length-(j+1)))=xs.length by omega] at e1
 have e2:vS xs j=0:=by
  have:vS xs j=vS ([]:List Int) j:=vS_congr fun i hi=>by rw [hz i hi,lm_ge (by simp)]
  rw [this,vS_long (by simp)];rfl
 have e3:=vS_split2 (xs.drop j) 1 (xs.length-(j+1))
 have e4:vS (xs.drop j) 1=lm xs j:=by simp [vS,lm_drop,pw]
 have e5:vS ((xs.drop j).drop 1) (xs.length-(j+1))=val (xs.drop (j+1)):=by
  unfold val;rw [List.drop_drop,List.length_drop]
 have e6:pw 1=18446744073709551616:=by simp [pw]
 rw [e4,e5,e6] at e3
 rw [e2,e3] at e1
 show vS xs xs.length=_
 omega
theorem tz_math {x j k m:Nat} {l r:Int} (hk:k<64) (hl:l=((2^k*(2*m+1):Nat):Int)) (hr:0≤r) (hx:(x:Int)=pw j*(l+18446744073709551616*r)):∃ M,x=2^(j*64+k)*(2*M+1):=by
 obtain ⟨r,rfl⟩:=Int.eq_ofNat_of_zero_le hr
 refine ⟨m+2^(63-k)*r,?_⟩
 have e1:(18446744073709551616:Int)=((2^k*(2*2^(63-k)):Nat):Int):=by
  have:2^k*(2*2^(63-k))=2^64:=by rw [← Nat.pow_succ',← Nat.pow_add,show k+(63-k+1)=64 by omega]
  rw [this];rfl
 have e2:pw j=((2^(j*64):Nat):Int):=by rw [pw2,Int.natCast_pow,Nat.mul_comm];rfl
 rw [hl,e1,e2] at hx
 rw [← Int.natCast_mul,← Int.natCast_add,← Int.natCast_mul] at hx
 have hx':=Int.ofNat.inj hx
 have e3:2^k*(2*m+1)+2^k*(2*2^(63-k))*r=2^k*(2*(m+2^(63-k)*r)+1):=by
  rw [Nat.mul_assoc (2^k),← Nat.mul_add]
  congr 1
  rw [Nat.mul_add 2 m,Nat.mul_assoc]
  omega
 rw [hx',e3,Nat.pow_add,Nat.mul_assoc]
set_option maxHeartbeats 1000000 in
theorem countTwos_any {B g o n cap x S:Nat} (w:World) (h:Seg w B g o n cap x S) (hx:0<x) (hS:S≤100000000) (hT:TabAt 4 Lib.deBruijn64tab w) :
  Calls Tryz.prog 96 #[.slice (some ⟨g,o,none⟩) n cap] w fun e w'=>∃ K M:Nat,e = .returned (.int .i64 K)∧x=2^K*(2*M+1)∧K≤6400000000∧w=w':=by
 obtain ⟨us,h1,h2,h3,h4,h5,h6,h7,h8⟩:=h
 have hcell:∀ i,i<n→w.cell? ⟨g,o+i,none⟩=some (.int .u64 (lm ((us.drop o).take n) i)):=fun i hi=>by rw [seg_lm hi];exact h1.cell (by omega)
 have hl:=seg_list h3
 have hw:=seg_w h6 o n
 have hn:n≤100000000:=by omega
 obtain ⟨xs,hxs⟩:∃ xs,(us.drop o).take n=xs:=⟨_,rfl⟩
 rw [hxs] at h8 hcell hl hw
 have HL:Hid (xs.length=n):=hl
 have HV:Hid (val xs=(x:Int)):=h8
 clear hxs h1 h2 h3 h6 h7 h8 hl
 go_enter Tryz.func96,Tryz.ntmps96
 go_wp2
 go_loopw [3] (fun t wr=>w=wr∧∃ j:Nat,t = .int .i64 j∧j<n∧∀ i,i<j→lm xs i=0) (fun t _=>n-(intOf t).toNat)
 case atStart =>
  refine ⟨rfl,0,rfl,?_,fun i hi=>by omega⟩
  rcases Nat.eq_zero_or_pos n with h|h
  ·have:xs=[]:=List.eq_nil_of_length_eq_zero (by rw [HL.out];exact h)
   have hv:=HV.out
   rw [this] at hv
   simp [val,vS] at hv
   omega
  ·exact h
 case round =>
  obtain ⟨rfl,j,rfl,hj,hz⟩:=hrel
  have HZ:Hid (∀ i,i<j→lm xs i=0):=hz
  have hjI:(j:Int)<(n:Int):=by omega
  have hcj:=hcell j hj
  obtain ⟨l0,l1⟩:=hw.at j
  clear hz hcell
  by_cases hl:lm xs j=0
  ·have hj1:j+1<n:=by
    rcases Nat.lt_or_ge (j+1) n with h|h
    ·exact h
    ·exfalso
     have e:=val_zeros (xs:=xs) (j:=j) (by rw [HL.out];exact hj) HZ.out
     rw [hl,List.drop_eq_nil_of_le (by rw [HL.out];exact h),HV.out] at e
     simp [val,vS] at e
     omega
   have HZ2:Hid (∀ i,i<j+1→lm xs i=0):=fun i hi=>by
    rcases Nat.lt_or_ge i j with h|h
    ·exact HZ.out i h
    ·rw [show i=j by omega];exact hl
   rw [hl] at hcj
   clear hl
   go_wp2
   go_roundw
   case rel=>exact ⟨trivial,j+1,by go_num,hj1,HZ2.out⟩
   case measure=>simp [intOf];omega
  ·obtain ⟨L,hL⟩:=Int.eq_ofNat_of_zero_le l0
   rw [hL] at hcj hl l1
   have hne:((L:Int) == 0)=false:=beq_eq_false_iff_ne.2 hl
   have htz:=tz_any L w (by omega) (by omega) hT
   have HLL:Hid (lm xs j=(L:Int)):=hL
   clear hl hL l0
   go_wp2_with fail
   refine htz.mono ?_
   rintro e w' ⟨k,m,rfl,hk,hm,rfl⟩
   have hr:=val_nn (allW_drop2 hw (j+1))
   have e:=val_zeros (xs:=xs) (j:=j) (by rw [HL.out];exact hj) HZ.out
   rw [HV.out,HLL.out] at e
   obtain ⟨M,hM⟩:=tz_math hk (by rw [hm]) hr e
   have HM:Hid (x=2^(j*64+k)*(2*M+1)):=hM
   have E:(j:Int)*64+(k:Int)=((j*64+k:Nat):Int):=by omega
   have hjk:j*64+k≤6400000000:=by omega
   obtain ⟨K,hK⟩:∃ K,j*64+k=K:=⟨_,rfl⟩
   rw [hK] at E HM hjk
   clear hM hm e hr htz hK
   go_wp2
   go_ret
   exact ⟨K,M,rfl,HM.out,hjk,rfl⟩
theorem drop_take_drop (us:List Int) (o n q:Nat):((us.drop o).take n).drop q=(us.drop (o+q)).take (n-q):=by
 rw [List.drop_take,List.drop_drop]
theorem val_drop2 {xs:List Int} (hx:AllW xs) {q:Nat} (hq:q≤xs.length):val (xs.drop q)=val xs/pw q:=by
 have e:=vS_split2 xs q (xs.length-q)
 rw [show q+(xs.length-q)=xs.length by omega] at e
 have e2:vS (xs.drop q) (xs.length-q)=val (xs.drop q):=by unfold val;rw [List.length_drop]
 rw [e2] at e
 have h:=vS_nn hx q
 have hp:=pw_pos q
 show _=vS xs xs.length/pw q
 rw [e,Int.add_mul_ediv_left _ _ (by omega),Int.ediv_eq_zero_of_lt h.1 h.2]
 omega
theorem SDown.seg {us U:List Int} {o m:Nat} {P Q:Int} (h:SDown us o m P Q m U) (hm:o+m≤us.length) (hu:AllW us) (hPQ:P*Q=18446744073709551616) (hP:0<P) {n:Nat} (hQ:Q=2^(64-n)):AllW U∧U.length=us.length∧Go.Proofs.YtceigfafmalfgaaGreatDoor.val ((U.drop o).take m)=Go.Proofs.YtceigfafmalfgaaGreatDoor.val ((us.drop o).take m)/P:=by
 obtain ⟨h1,h2,h3⟩:=h
 have hw:=seg_w hu o m
 refine ⟨?_,h1,?_⟩
 ·intro x hx
  obtain ⟨j,hj,e⟩:=List.getElem_of_mem hx
  have e2:lm U j=x:=by unfold lm;rw [List.getD_eq_getElem?_getD,List.getElem?_eq_getElem hj,e];rfl
  rw [← e2]
  rcases (by omega:(j<o∨o+m≤j)∨(o≤j∧j<o+m)) with g|⟨g1,g2⟩
  ·rw [h2 j g];exact hu.at j
  ·have:=h3 (j-o) (by omega)
   rw [show o+(j-o)=j by omega] at this
   rw [this]
   exact (sdl_or hw hPQ hP hQ (j-o)).1
 ·refine sdl_val hPQ hP (by rw [seg_list hm,seg_list (by omega)]) fun j hj=>?_
  rw [seg_list hm] at hj
  rw [seg_lm hj,h3 j hj]
set_option maxHeartbeats 1000000 in
theorem leaveOdd_any {B g o n cap x S:Nat} (w:World) (h:Seg w B g o n cap x S) (hx:0<x) (hS:S≤100000000) (hT:TabAt 4 Lib.deBruijn64tab w) :
  Calls Tryz.prog 99 #[.slice (some ⟨g,o,none⟩) n cap] w fun e w'=>∃ K M o' n' cap',e = .returned (.slice (some ⟨g,o',none⟩) n' cap')∧x=2^K*(2*M+1)∧Seg w' B g o' n' cap' (2*M+1) S∧Off g w w':=by
 have hct:=countTwos_any w h hx hS hT
 obtain ⟨us,h1,h2,h3,h4,h5,h6,h7,h8⟩:=h
 have hn:n≤100000000:=by omega
 go_enter Tryz.func99,Tryz.ntmps99
 go_wp2_with fail
 refine hct.mono ?_
 rintro e w' ⟨K,M,rfl,hK,hKb,rfl⟩
 obtain ⟨q,hq⟩:∃ q,K/64=q:=⟨_,rfl⟩
 obtain ⟨s,hs⟩:∃ s,K%64=s:=⟨_,rfl⟩
 have hs64:s<64:=by omega
 have D1:(K:Int)/64=(q:Int):=by omega
 have D2:(K:Int)%64=(s:Int):=by omega
 have D3:(K:Int).tdiv 64=(q:Int):=by rw [Int.tdiv_eq_ediv_of_nonneg (by omega),D1]
 have D4:(K:Int).tmod 64=(s:Int):=by rw [Int.tmod_eq_emod_of_nonneg (by omega),D2]
 have HK:Hid (x=2^K*(2*M+1)):=hK
 have hxI:(x:Int)=2^K*((2*M+1:Nat):Int):=by rw [hK,Int.natCast_mul,Int.natCast_pow];rfl
 have hsl:=seg_list h3
 have hsw:=seg_w h6 o n
 have hPK:(2:Int)^K=pw q*2^s:=by rw [pw2,← Int.pow_add,show 64*q+s=K by omega]
 have hqn:q<n:=by
  rcases Nat.lt_or_ge q n with h|h
  ·exact h
  ·exfalso
   have hv:=val_lt hsw
   rw [h8,hsl,hxI,hPK] at hv
   have h9:=pw_mono h
   have h10:(0:Int)<2^s:=Int.pow_pos (by decide)
   have h11:=Int.mul_le_mul_of_nonneg_left (a:=1) (b:=2^s*((2*M+1:Nat):Int)) (c:=pw q) (by have:=Int.mul_pos h10 (by omega:(0:Int)<((2*M+1:Nat):Int));omega) (Int.le_of_lt (pw_pos q))
   rw [Int.mul_one,← Int.mul_assoc] at h11
   omega
 have hqI:(q:Int)≤(n:Int):=by omega
 have HVQ:Hid (val ((us.drop (o+q)).take (n-q))=2^s*((2*M+1:Nat):Int)):=by
  show _=_
  rw [← drop_take_drop,val_drop2 hsw (by rw [hsl];omega),h8,hxI,hPK,Int.mul_assoc,Int.mul_ediv_cancel_left _ (by have:=pw_pos q;omega)]
 have hSD:=shiftDown_any g (o+q) (n-q) (cap-q) s us w h1 h6 (by omega) (by omega) (by omega) hs64 _ _ rfl rfl
 clear hK hxI hPK hsl hsw h7 h8 hq hs hct
 go_wp2_with fail
 refine hSD.mono ?_
 rintro e w2 ⟨rfl,U,hU,hS2,hO⟩
 obtain ⟨u1,u2,u3⟩:=hS2.seg (by omega) h6 (by rw [← Int.pow_add,show s+(64-s)=64 by omega];rfl) (Int.pow_pos (by decide)) rfl
 rw [HVQ.out,Int.mul_ediv_cancel_left _ (by have:(0:Int)<2^s:=Int.pow_pos (by decide);omega)] at u3
 have hfit:o+q+(n-q)≤U.length:=by omega
 have hre:=seg_reads hU hfit
 have hll:=seg_list hfit
 have hle:tlen ((U.drop (o+q)).take (n-q))≤n-q:=by have:=tl_le ((U.drop (o+q)).take (n-q)) ((U.drop (o+q)).take (n-q)).length;rw [hll] at this;unfold tlen;rw [hll];exact this
 have HLL:Hid (n-q=((U.drop (o+q)).take (n-q)).length):=hll.symm
 have HSEG:Hid (Seg w2 B g (o+q) (tlen ((U.drop (o+q)).take (n-q))) (cap-q) (2*M+1) S):=by
  have e1:(U.drop (o+q)).take (tlen ((U.drop (o+q)).take (n-q)))=trimL ((U.drop (o+q)).take (n-q)):=by
   unfold trimL
   rw [List.take_take,Nat.min_eq_left hle]
  refine ⟨U,hU,h2,by omega,by omega,by omega,u1,?_,?_⟩
  ·rw [e1,tlen_trimL]
  ·rw [e1,val_trimL,u3]
 clear hSD hS2 u1 u2 u3 hU hll
 go_wp2_with fail
 refine (trim_any (some ⟨g,o+q,none⟩) (n-q) (cap-q) ((U.drop (o+q)).take (n-q)) w2 HLL.out (by omega) (by omega) hre).mono ?_
 rintro e wsame ⟨rfl,rfl⟩
 clear hre
 go_wp2
 go_ret
 exact ⟨K,M,_,_,_,rfl,HK.out,HSEG.out,hO⟩
theorem sip_far (o n:Nat):∀ (f:Nat) (u:List Int) (c:Int) (i:Nat),f≤n→i<o∨o+n≤i→lm (sip o n f u c).1 i=lm u i
 | 0,_,_,_,_,_=>rfl
 | f+1,u,c,i,hf,h=>by
  unfold sip
  split
  ·rw [sip_far o n f _ _ i (by omega) h,lm_set,if_neg (by omega)]
  ·rfl
theorem subR_far (us:List Int) (o:Nat) (ys:List Int) (k i:Nat) (h:i<o∨o+k≤i):lm (subR us o ys k).1 i=lm us i:=by
 induction k with
 | zero=>rfl
 | succ k ih=>simp only [subR];rw [lm_set,if_neg (by omega),ih (by omega)]
theorem subF_sg {us ys:List Int} {o n:Nat} (hu:AllW us) (hy:AllW ys) (hl:o+n≤us.length) (hle:ys.length≤n) (hge:val ys≤sg us o n):(subF us o n ys).2=0∧AllW (subF us o n ys).1∧sg (subF us o n ys).1 o n=sg us o n-val ys:=by
 obtain ⟨a1,a2,a3,a4⟩:=subR_ok (us:=us) (ys:=ys) o hu ys.length
 have e:=subR_val hu hy o ys.length (o+n) (by omega) (by omega)
 obtain ⟨h2,h3,h4,h5⟩:=sip_val o n (o+n) (n-ys.length) (subR us o ys ys.length).1 (subR us o ys ys.length).2 (by omega) a1 a3 a4 (by omega) (by omega)
 have hf:∀ i,i<o→lm (sip o n (n-ys.length) (subR us o ys ys.length).1 (subR us o ys ys.length).2).1 i=lm us i:=fun i hi=>by
  rw [sip_far o n _ _ _ i (by omega) (.inl hi),subR_far us o ys _ i (.inl hi)]
 rw [show o+(n-(n-ys.length))=o+ys.length by omega,e,sg_split,sg_split] at h5
 unfold subF
 generalize sip o n (n-ys.length) (subR us o ys ys.length).1 (subR us o ys ys.length).2=U at *
 have e2:vS U.1 o=vS us o:=vS_congr fun i hi=>hf i hi
 have e7:vS ys ys.length=val ys:=rfl
 rw [e2,e7,pw_add] at h5
 have h6:pw o*(sg U.1 o n-U.2*pw n)=pw o*(sg us o n-val ys):=by
  rw [Int.mul_sub,Int.mul_sub,Int.mul_left_comm (pw o) U.2]
  omega
 have h7:=Int.eq_of_mul_eq_mul_left (by have:=pw_pos o;omega) h6
 have h8:=(sg_nn h2 o n).2
 have hz:U.2=0:=by
  rcases (by omega:U.2=0∨U.2=1) with h|h
  ·exact h
  ·rw [h] at h7;omega
 rw [hz] at h7
 exact ⟨hz,h2,by omega⟩
theorem sg_val {us:List Int} {o n:Nat} (h:o+n≤us.length):val ((us.drop o).take n)=sg us o n:=by
 unfold sg
 rw [← vS_long (us:=(us.drop o).take n) (n:=n) (by rw [seg_list h];exact Nat.le_refl _)]
 exact vS_congr fun i hi=>lm_take hi
theorem tab_below {w w':World} {B g:Nat} {tab:List Nat} (h:TabAt g tab w) (hb:Below B w w') (hg:g<B):TabAt g tab w':=fun j hj=>by
 rw [hb.cell (p:=⟨g,j,none⟩) hg];exact h j hj
theorem seg_of_got {w:World} {B:Nat} {a:Option Addr} {n:Nat} {x S:Nat} (h:Got w B (.slice a n n) x S) (hx:0<x):∃ g,a=some ⟨g,0,none⟩∧B≤g∧Seg w B g 0 n n x S:=by
 obtain ⟨xs,h1,h2,h3,h4⟩:=h
 rcases h1.row with ⟨e1,e2⟩|⟨g,cap,e1,hB,cur,r1,r2,r3,r4,r5⟩
 ·subst e2;simp [val,vS] at h3;omega
 ·simp only [Value.slice.injEq] at e1
  obtain ⟨rfl,e3,e4⟩:=e1
  subst e4
  have hb:Blk w g xs:=by
   unfold Blk
   rw [r1]
   have:cur=(xs.map (Value.int .u64)).toArray:=by
    rw [← r5,List.take_of_length_le (by simp [r4];omega)]
   rw [this]
  refine ⟨g,rfl,hB,xs,hb,hB,by omega,Nat.le_refl _,h4,h2.1,?_,?_⟩
  ·rw [List.drop_zero,e3,List.take_length];exact h2.2
  ·rw [List.drop_zero,e3,List.take_length];exact h3
set_option maxHeartbeats 1000000 in
theorem lessen_any {B ga oa na ca x gb ob nb cb y S:Nat} (w:World) (hA:Seg w B ga oa na ca x S) (hB:Seg w B gb ob nb cb y S) (hne:ga≠gb) (hy:0<y) (hyx:y≤x) (hS:S≤9000000) :
  Calls Tryz.prog 131 #[.slice (some ⟨ga,oa,none⟩) na ca,.slice (some ⟨gb,ob,none⟩) nb cb] w fun e w'=>∃ a' n' c' z,e = .returned (.slice a' n' c')∧z<x∧Nat.gcd z y=Nat.gcd x y∧Seg w' B gb ob nb cb y S∧(z=0∧n'=0∨0<z∧0<n'∧∃ g' o',a'=some ⟨g',o',none⟩∧g'≠gb∧Seg w' B g' o' n' c' z S)∧Below B w w':=by
 have hBw:B≤w.heap.size:=by have:=hA.lt;omega
 by_cases hlt:nb<na
 ·have hltI:(nb:Int)<(na:Int):=by omega
  have hnbS:nb≤S:=by obtain ⟨us,_,_,h3,_,h5,_⟩:=hB;omega
  have hyl:(y:Int)<pw nb:=by
   obtain ⟨us,h1,h2,h3,h4,h5,h6,h7,h8⟩:=hB
   have:=val_lt (seg_w h6 ob nb)
   rw [h8,seg_list h3] at this
   exact this
  have HDV:=divGx w hA.num hB.num (by omega) (by omega) (by omega:(0:Int)<(y:Int))
  have HB:Hid (Seg w B gb ob nb cb y S):=hB
  have hgb:=hB.lt.2
  clear hA hB
  go_enter Tryz.func131,Tryz.ntmps131
  go_wp2_with fail
  refine HDV.mono ?_
  rintro e w1 ⟨c,n,cc,c',n',cc',rfl,_,G2,_,hb,hcc⟩
  clear HDV
  have em:(x:Int)%(y:Int)=((x%y:Nat):Int):=(Int.natCast_emod x y).symm
  rw [em] at G2 hcc
  have hz:=Nat.mod_lt x hy
  have hg:Nat.gcd (x%y) y=Nat.gcd x y:=by rw [Nat.gcd_comm x y,Nat.gcd_rec y x]
  have hB1:=HB.out.below hb
  obtain ⟨z,hz'⟩:∃ z,x%y=z:=⟨_,rfl⟩
  rw [hz'] at G2 hcc hz hg
  have G3:=G2.shrink (m:=nb) (by omega)
  have G4:=G3.le (S':=S) hnbS
  have HFIN:Hid (z=0∧n'=0∨0<z∧0<n'∧∃ g' o',c'=some ⟨g',o',none⟩∧g'≠gb∧Seg w1 B g' o' n' cc' z S):=by
   rcases Nat.eq_zero_or_pos z with h|h
   ·subst h
    left
    refine ⟨rfl,?_⟩
    obtain ⟨xs,g1,g2,g3,_⟩:=G2
    have:=g1.reads.1
    have h0:=(tlen_zero g2.1).2 g3
    have:=g2.2
    omega
   ·right
    have e2:=hcc (by omega)
    subst e2
    obtain ⟨g',e3,h4,h5⟩:=seg_of_got G4 h
    refine ⟨h,?_,g',0,e3,by omega,?_⟩
    ·rcases Nat.eq_zero_or_pos n' with h0|h0
     ·subst h0
      obtain ⟨us,_,_,_,_,_,_,_,h8⟩:=h5
      simp [val,vS] at h8
      omega
     ·exact h0
    ·obtain ⟨us,i1,_,i3⟩:=h5
     exact ⟨us,i1,by omega,i3⟩
  have hbB:=hb.mono hBw
  clear G2 G3 G4 em hz' hcc HB
  go_wp2
  go_ret
  exact ⟨_,_,_,z,rfl,by omega,hg,hB1,HFIN.out,hbB⟩
 ·have hltI:¬ (nb:Int)<(na:Int):=by omega
  have HB:Hid (Seg w B gb ob nb cb y S):=hB
  obtain ⟨us,h1,h2,h3,h4,h5,h6,h7,h8⟩:=hA
  obtain ⟨vs,k1,k2,k3,k4,k5,k6,k7,k8⟩:=hB
  have hna:nb≤na:=by
   have g1:=val_lt (seg_w h6 oa na)
   rw [h8,seg_list h3] at g1
   have hnb0:0<nb:=by
    rcases Nat.eq_zero_or_pos nb with h|h
    ·subst h;simp [val,vS] at k8;omega
    ·exact h
   have g2:=val_ge (seg_w k6 ob nb) (by rw [k7];exact hnb0)
   rw [k7,k8] at g2
   rcases Nat.lt_or_ge na nb with h|h
   ·have:=pw_mono (a:=na) (b:=nb-1) (by omega)
    omega
   ·exact h
  have hsv:=sg_val h3
  rw [h8] at hsv
  obtain ⟨f1,f2,f3⟩:=subF_sg (ys:=(vs.drop ob).take nb) h6 (seg_w k6 ob nb) h3 (by rw [seg_list k3];exact hna) (by rw [k8,← hsv];omega)
  rw [k8,← hsv] at f3
  have HTF:=takeFrom_any ga oa na ca us (some ⟨gb,ob,none⟩) nb cb ((vs.drop ob).take nb) w h1 h3 (by omega) h6 (seg_list k3).symm hna (seg_reads k1 k3) (fun _ q hq=>by cases hq;exact fun e=>hne e.symm) (seg_w k6 ob nb) f1
  have hlU:(subF us oa na ((vs.drop ob).take nb)).1.length=us.length:=length_subF _ _ _ _
  clear hltI
  have hltI:¬ (nb:Int)<(na:Int):=by omega
  clear h1 h7 h8 k1 k2 k3 k4 k5 k6 k7 k8 hsv f1
  generalize (subF us oa na ((vs.drop ob).take nb)).1=U at *
  go_enter Tryz.func131,Tryz.ntmps131
  go_wp2_with fail
  refine HTF.mono ?_
  rintro e w1 ⟨rfl,hU,hO⟩
  have hfit:oa+na≤U.length:=by omega
  have hre:=seg_reads hU hfit
  have HLL:Hid (na=((U.drop oa).take na).length):=(seg_list hfit).symm
  have hval:val ((U.drop oa).take na)=((x-y:Nat):Int):=by rw [sg_val hfit,f3];omega
  have hle:tlen ((U.drop oa).take na)≤na:=by have:=tl_le ((U.drop oa).take na) ((U.drop oa).take na).length;rw [← HLL.out] at this;unfold tlen;rw [← HLL.out];exact this
  have hB1:=HB.out.off hO (fun e=>hne e.symm)
  have hbB:=hO.below h2
  have hg:=gcd_less hyx
  obtain ⟨z,hz⟩:∃ z,x-y=z:=⟨_,rfl⟩
  have hzx:z<x:=by omega
  rw [hz] at hval hg
  have HFIN:Hid (z=0∧tlen ((U.drop oa).take na)=0∨0<z∧0<tlen ((U.drop oa).take na)∧∃ g' o',(some ⟨ga,oa,none⟩:Option Addr)=some ⟨g',o',none⟩∧g'≠gb∧Seg w1 B g' o' (tlen ((U.drop oa).take na)) ca z S):=by
   have hz0:=tlen_zero (seg_w f2 oa na)
   rw [hval] at hz0
   rcases Nat.eq_zero_or_pos z with h|h
   ·left;exact ⟨h,hz0.2 (by omega)⟩
   ·right
    have hn0:tlen ((U.drop oa).take na)≠0:=fun e=>by have:=hz0.1 e;omega
    refine ⟨h,by omega,ga,oa,rfl,hne,U,hU,h2,by omega,by omega,by omega,f2,?_,?_⟩
    ·have e1:(U.drop oa).take (tlen ((U.drop oa).take na))=trimL ((U.drop oa).take na):=by
      unfold trimL
      rw [List.take_take,Nat.min_eq_left hle]
     rw [e1,tlen_trimL]
    ·have e1:(U.drop oa).take (tlen ((U.drop oa).take na))=trimL ((U.drop oa).take na):=by
      unfold trimL
      rw [List.take_take,Nat.min_eq_left hle]
     rw [e1,val_trimL,hval]
  clear hU hO HB HTF f2 f3 hval hz
  go_wp2_with fail
  refine (trim_any (some ⟨ga,oa,none⟩) na ca ((U.drop oa).take na) w1 HLL.out h4 (by omega) hre).mono ?_
  rintro e wsame ⟨rfl,rfl⟩
  clear hre
  go_wp2
  go_ret
  exact ⟨_,_,_,z,rfl,hzx,hg,hB1,HFIN.out,hbB⟩
def cellI (w:World) (g i:Nat):Int:=match w.cell? ⟨g,i,none⟩ with
 | some (.int _ z)=>z
 | _=>0
def rdv (w:World) (g o:Nat):Nat→Int
 | 0=>0
 | k+1=>rdv w g o k+cellI w g (o+k)*pw k
def wval (w:World):Value→Nat
 | .slice (some a) n _=>(rdv w a.block a.off n).toNat
 | _=>0
theorem Seg.wval {w:World} {B g o n cap x S:Nat} (h:Seg w B g o n cap x S):wval w (.slice (some ⟨g,o,none⟩) n cap)=x:=by
 obtain ⟨us,h1,h2,h3,h4,h5,h6,h7,h8⟩:=h
 have e:∀ k,k≤n→rdv w g o k=vS ((us.drop o).take n) k:=by
  intro k hk
  induction k with
  | zero=>rfl
  | succ k ih =>
   show rdv w g o k+cellI w g (o+k)*pw k=vS _ k+lm _ k*pw k
   rw [ih (by omega),seg_lm (by omega)]
   congr 2
   unfold cellI
   rw [h1.cell (by omega)]
 show (rdv w g o n).toNat=x
 have e2:vS ((us.drop o).take n) n=val ((us.drop o).take n):=by unfold Go.Proofs.YtceigfafmalfgaaGreatDoor.val;rw [seg_list h3]
 rw [e n (Nat.le_refl _),e2,h8]
 simp
theorem Seg.pos {w:World} {B g o n cap x S:Nat} (h:Seg w B g o n cap x S) (hx:0<x):0<n:=by
 obtain ⟨us,h1,h2,h3,h4,h5,h6,h7,h8⟩:=h
 rcases Nat.eq_zero_or_pos n with h|h
 ·subst h;simp [Go.Proofs.YtceigfafmalfgaaGreatDoor.val,vS] at h8;omega
 ·exact h
theorem Seg.ge {w:World} {B g o n cap x S:Nat} (h:Seg w B g o n cap x S) (hx:0<x):pw (n-1)≤(x:Int):=by
 have hn:=h.pos hx
 obtain ⟨us,h1,h2,h3,h4,h5,h6,h7,h8⟩:=h
 have:=val_ge (seg_w h6 o n) (by rw [h7];exact hn)
 rw [h7,h8] at this
 exact this
theorem Seg.one {w:World} {B g o cap x S:Nat} (h:Seg w B g o 1 cap x S):w.cell? ⟨g,o,none⟩=some (.int .u64 (x:Int))∧x<18446744073709551616:=by
 obtain ⟨us,h1,h2,h3,h4,h5,h6,h7,h8⟩:=h
 have e:val ((us.drop o).take 1)=lm us o:=by
  unfold Go.Proofs.YtceigfafmalfgaaGreatDoor.val
  rw [seg_list h3]
  show (0:Int)+lm _ 0*pw 0=_
  rw [seg_lm (by omega),pw_zero]
  simp
 rw [e] at h8
 have hc:=h1.cell (i:=o) (by omega)
 rw [h8] at hc
 refine ⟨hc,?_⟩
 have:=(h6.at o).2
 omega
theorem Seg.drewN {w:World} {B g o n cap x S:Nat} (h:Seg w B g o n cap x S) (m:Nat):Seg (w.drewN m) B g o n cap x S:=h.of_block rfl
theorem odd_le {z K M:Nat} (h:z=2^K*(2*M+1)):2*M+1≤z:=by rw [h];exact Nat.le_mul_of_pos_left _ (Nat.pow_pos (by decide))
set_option maxRecDepth 100000 in
set_option maxHeartbeats 4000000 in
theorem gcdOdd_any {B ga0 oa0 na0 ca0 x gb0 ob0 nb0 cb0 y S:Nat} (w:World) (hA0:Seg w B ga0 oa0 na0 ca0 x S) (hB0:Seg w B gb0 ob0 nb0 cb0 y S) (hne0:ga0≠gb0) (hx:x%2=1) (hy:y%2=1) (hS:S≤9000000) (hT:TabAt 4 Lib.deBruijn64tab w) (hgt:4<B) :
  Calls Tryz.prog 98 #[.slice (some ⟨ga0,oa0,none⟩) na0 ca0,.slice (some ⟨gb0,ob0,none⟩) nb0 cb0] w fun e w'=>∃ c n cc,e = .returned (.slice c n cc)∧Num w' c n cc (Nat.gcd x y:Nat) (S+1)∧pw (n-1)≤((Nat.gcd x y:Nat):Int)∧Below B w w':=by
 go_enter Tryz.func98,Tryz.ntmps98
 go_wp2
 go_loopw [0,1] (fun a b wr=>∃ ga oa na ca p gb ob nb cb q,a = .slice (some ⟨ga,oa,none⟩) na ca∧b = .slice (some ⟨gb,ob,none⟩) nb cb∧Seg wr B ga oa na ca p S∧Seg wr B gb ob nb cb q S∧ga≠gb∧p%2=1∧q%2=1∧Nat.gcd p q=Nat.gcd x y∧Below B w wr) (fun a b wr=>wval wr a+wval wr b)
 case atStart=>exact ⟨ga0,oa0,na0,ca0,x,gb0,ob0,nb0,cb0,y,rfl,rfl,hA0,hB0,hne0,hx,hy,rfl,Below.refl _ _⟩
 case round =>
  clear hA0 hB0 hne0
  obtain ⟨ga,oa,na,ca,p,gb,ob,nb,cb,q,rfl,rfl,hA,hB,hne,hp,hq,hG,hbel⟩:=hrel
  have HG:Hid (Nat.gcd p q=Nat.gcd x y):=hG
  have hna:=hA.pos (by omega)
  have hnb:=hB.pos (by omega)
  have HWA:Hid (wval wr (.slice (some ⟨ga,oa,none⟩) na ca)=p):=hA.wval
  have HWB:Hid (wval wr (.slice (some ⟨gb,ob,none⟩) nb cb)=q):=hB.wval
  have hTr:=tab_below hT hbel hgt
  have hBw:B≤wr.heap.size:=by have:=hA.lt;omega
  have hnaS:na≤S:=by obtain ⟨us,_,_,h3,_,h5,_⟩:=hA;omega
  have hnbS:nb≤S:=by obtain ⟨us,_,_,h3,_,h5,_⟩:=hB;omega
  clear hG
  by_cases h1:1<na
  ·have h1I:(1:Int)<(na:Int):=by omega
   go_wp2_with fail
   refine (cmpV _ hA.num hB.num (by omega) (by omega)).mono ?_
   rintro e w1 ⟨c,rfl,hc,m,rfl⟩
   have hA1:=hA.drewN m
   have hB1:=hB.drewN m
   have hbel1:Below B w (wr.drewN m):=belN hbel m
   clear hA hB hbel
   rcases hc with ⟨rfl,hc⟩|⟨rfl,hc⟩|⟨rfl,hc⟩
   ·go_wp2_with fail
    refine (lessen_any _ hA1 hB1 hne (by omega) (by omega) hS).mono ?_
    rintro e w2 ⟨a',n',c',z,rfl,hz,hg,hS2,hfin,hb2⟩
    have hbel2:=hbel1.trans hb2
    clear hA1 hB1 hb2
    rcases hfin with ⟨h0,h1⟩|⟨h0,h1,g',o',e1,h2,h3⟩
    ·subst h0 h1
     have HF:Hid (q=Nat.gcd x y):=by show _=_;rw [← HG.out,← hg,Nat.gcd_zero_left]
     have hN:=hS2.num
     have hge:=hS2.ge (by omega)
     rw [HF.out] at hN hge
     have hN1:Num w2 (some ⟨gb,ob,none⟩) nb cb ((Nat.gcd x y:Nat):Int) (S+1):=by
      obtain ⟨xs,i1,i2,i3,i4,i5,i6⟩:=hN
      exact ⟨xs,i1,i2,i3,i4,i5,by omega⟩
     clear hS2 hN hTr
     go_wp2
     go_ret
     exact ⟨_,_,_,rfl,hN1,hge,hbel2⟩
    ·subst e1
     have hn0:((n':Int) == 0)=false:=beq_eq_false_iff_ne.2 (by omega)
     have hT2:=tab_below hT hbel2 hgt
     have hLO:=leaveOdd_any w2 h3 h0 (by omega) hT2
     have hg'B:=h3.lt.1
     clear h3
     go_wp2_with fail
     refine hLO.mono ?_
     rintro e w3 ⟨K,M,o3,n3,c3,rfl,hM,hS3,hO3⟩
     have hS4:=hS2.off hO3 (fun e=>h2 e.symm)
     have hbel3:=hbel2.trans (hO3.below hg'B)
     have hMl:=odd_le hM
     have HGF:Hid (Nat.gcd (2*M+1) q=Nat.gcd x y):=by show _=_;rw [← HG.out,← hg,hM,gcd_odd hq]
     have HW3:Hid (wval w3 (.slice (some ⟨g',o3,none⟩) n3 c3)=2*M+1):=hS3.wval
     have HW4:Hid (wval w3 (.slice (some ⟨gb,ob,none⟩) nb cb)=q):=hS4.wval
     clear hLO hM hO3 hS2 hTr hT2
     go_wp2
     go_roundw
     case rel=>exact ⟨g',o3,n3,c3,2*M+1,gb,ob,nb,cb,q,rfl,rfl,hS3,hS4,h2,by omega,hq,HGF.out,hbel3⟩
     case measure=>rw [HW3.out,HW4.out,HWA.out,HWB.out];omega
   ·go_wp2_with fail
    refine (lessen_any _ hB1 hA1 (fun e=>hne e.symm) (by omega) (by omega) hS).mono ?_
    rintro e w2 ⟨a',n',c',z,rfl,hz,hg,hS2,hfin,hb2⟩
    have hbel2:=hbel1.trans hb2
    clear hA1 hB1 hb2
    rcases hfin with ⟨h0,h1⟩|⟨h0,h1,g',o',e1,h2,h3⟩
    ·subst h0 h1
     have HF:Hid (p=Nat.gcd x y):=by show _=_;rw [← HG.out,Nat.gcd_comm p q,← hg,Nat.gcd_zero_left]
     have hN:=hS2.num
     have hge:=hS2.ge (by omega)
     rw [HF.out] at hN hge
     have hN1:Num w2 (some ⟨ga,oa,none⟩) na ca ((Nat.gcd x y:Nat):Int) (S+1):=by
      obtain ⟨xs,i1,i2,i3,i4,i5,i6⟩:=hN
      exact ⟨xs,i1,i2,i3,i4,i5,by omega⟩
     clear hS2 hN hTr
     go_wp2
     go_ret
     exact ⟨_,_,_,rfl,hN1,hge,hbel2⟩
    ·subst e1
     have hn0:((n':Int) == 0)=false:=beq_eq_false_iff_ne.2 (by omega)
     have hT2:=tab_below hT hbel2 hgt
     have hLO:=leaveOdd_any w2 h3 h0 (by omega) hT2
     have hg'B:=h3.lt.1
     clear h3
     go_wp2_with fail
     refine hLO.mono ?_
     rintro e w3 ⟨K,M,o3,n3,c3,rfl,hM,hS3,hO3⟩
     have hS4:=hS2.off hO3 (fun e=>h2 e.symm)
     have hbel3:=hbel2.trans (hO3.below hg'B)
     have hMl:=odd_le hM
     have HGF:Hid (Nat.gcd (2*M+1) p=Nat.gcd x y):=by show _=_;rw [← HG.out,Nat.gcd_comm p q,← hg,hM,gcd_odd hp]
     have HW3:Hid (wval w3 (.slice (some ⟨g',o3,none⟩) n3 c3)=2*M+1):=hS3.wval
     have HW4:Hid (wval w3 (.slice (some ⟨ga,oa,none⟩) na ca)=p):=hS4.wval
     clear hLO hM hO3 hS2 hTr hT2
     go_wp2
     go_roundw
     case rel=>exact ⟨g',o3,n3,c3,2*M+1,ga,oa,na,ca,p,rfl,rfl,hS3,hS4,h2,by omega,hp,HGF.out,hbel3⟩
     case measure=>rw [HW3.out,HW4.out,HWA.out,HWB.out];omega
   ·go_wp2_with fail
    refine (lessen_any _ hA1 hB1 hne (by omega) (by omega) hS).mono ?_
    rintro e w2 ⟨a',n',c',z,rfl,hz,hg,hS2,hfin,hb2⟩
    have hbel2:=hbel1.trans hb2
    clear hA1 hB1 hb2
    rcases hfin with ⟨h0,h1⟩|⟨h0,h1,g',o',e1,h2,h3⟩
    ·subst h0 h1
     have HF:Hid (q=Nat.gcd x y):=by show _=_;rw [← HG.out,← hg,Nat.gcd_zero_left]
     have hN:=hS2.num
     have hge:=hS2.ge (by omega)
     rw [HF.out] at hN hge
     have hN1:Num w2 (some ⟨gb,ob,none⟩) nb cb ((Nat.gcd x y:Nat):Int) (S+1):=by
      obtain ⟨xs,i1,i2,i3,i4,i5,i6⟩:=hN
      exact ⟨xs,i1,i2,i3,i4,i5,by omega⟩
     clear hS2 hN hTr
     go_wp2
     go_ret
     exact ⟨_,_,_,rfl,hN1,hge,hbel2⟩
    ·subst e1
     have hn0:((n':Int) == 0)=false:=beq_eq_false_iff_ne.2 (by omega)
     have hT2:=tab_below hT hbel2 hgt
     have hLO:=leaveOdd_any w2 h3 h0 (by omega) hT2
     have hg'B:=h3.lt.1
     clear h3
     go_wp2_with fail
     refine hLO.mono ?_
     rintro e w3 ⟨K,M,o3,n3,c3,rfl,hM,hS3,hO3⟩
     have hS4:=hS2.off hO3 (fun e=>h2 e.symm)
     have hbel3:=hbel2.trans (hO3.below hg'B)
     have hMl:=odd_le hM
     have HGF:Hid (Nat.gcd (2*M+1) q=Nat.gcd x y):=by show _=_;rw [← HG.out,← hg,hM,gcd_odd hq]
     have HW3:Hid (wval w3 (.slice (some ⟨g',o3,none⟩) n3 c3)=2*M+1):=hS3.wval
     have HW4:Hid (wval w3 (.slice (some ⟨gb,ob,none⟩) nb cb)=q):=hS4.wval
     clear hLO hM hO3 hS2 hTr hT2
     go_wp2
     go_roundw
     case rel=>exact ⟨g',o3,n3,c3,2*M+1,gb,ob,nb,cb,q,rfl,rfl,hS3,hS4,h2,by omega,hq,HGF.out,hbel3⟩
     case measure=>rw [HW3.out,HW4.out,HWA.out,HWB.out];omega
  ·have h1I:¬ (1:Int)<(na:Int):=by omega
   by_cases h2:1<nb
   ·have h2I:(1:Int)<(nb:Int):=by omega
    go_wp2_with fail
    refine (cmpV _ hA.num hB.num (by omega) (by omega)).mono ?_
    rintro e w1 ⟨c,rfl,hc,m,rfl⟩
    have hA1:=hA.drewN m
    have hB1:=hB.drewN m
    have hbel1:Below B w (wr.drewN m):=belN hbel m
    clear hA hB hbel
    rcases hc with ⟨rfl,hc⟩|⟨rfl,hc⟩|⟨rfl,hc⟩
    ·go_wp2_with fail
     refine (lessen_any _ hA1 hB1 hne (by omega) (by omega) hS).mono ?_
     rintro e w2 ⟨a',n',c',z,rfl,hz,hg,hS2,hfin,hb2⟩
     have hbel2:=hbel1.trans hb2
     clear hA1 hB1 hb2
     rcases hfin with ⟨h0,h1⟩|⟨h0,h1,g',o',e1,h2,h3⟩
     ·subst h0 h1
      have HF:Hid (q=Nat.gcd x y):=by show _=_;rw [← HG.out,← hg,Nat.gcd_zero_left]
      have hN:=hS2.num
      have hge:=hS2.ge (by omega)
      rw [HF.out] at hN hge
      have hN1:Num w2 (some ⟨gb,ob,none⟩) nb cb ((Nat.gcd x y:Nat):Int) (S+1):=by
       obtain ⟨xs,i1,i2,i3,i4,i5,i6⟩:=hN
       exact ⟨xs,i1,i2,i3,i4,i5,by omega⟩
      clear hS2 hN hTr
      go_wp2
      go_ret
      exact ⟨_,_,_,rfl,hN1,hge,hbel2⟩
     ·subst e1
      have hn0:((n':Int) == 0)=false:=beq_eq_false_iff_ne.2 (by omega)
      have hT2:=tab_below hT hbel2 hgt
      have hLO:=leaveOdd_any w2 h3 h0 (by omega) hT2
      have hg'B:=h3.lt.1
      clear h3
      go_wp2_with fail
      refine hLO.mono ?_
      rintro e w3 ⟨K,M,o3,n3,c3,rfl,hM,hS3,hO3⟩
      have hS4:=hS2.off hO3 (fun e=>h2 e.symm)
      have hbel3:=hbel2.trans (hO3.below hg'B)
      have hMl:=odd_le hM
      have HGF:Hid (Nat.gcd (2*M+1) q=Nat.gcd x y):=by show _=_;rw [← HG.out,← hg,hM,gcd_odd hq]
      have HW3:Hid (wval w3 (.slice (some ⟨g',o3,none⟩) n3 c3)=2*M+1):=hS3.wval
      have HW4:Hid (wval w3 (.slice (some ⟨gb,ob,none⟩) nb cb)=q):=hS4.wval
      clear hLO hM hO3 hS2 hTr hT2
      go_wp2
      go_roundw
      case rel=>exact ⟨g',o3,n3,c3,2*M+1,gb,ob,nb,cb,q,rfl,rfl,hS3,hS4,h2,by omega,hq,HGF.out,hbel3⟩
      case measure=>rw [HW3.out,HW4.out,HWA.out,HWB.out];omega
    ·go_wp2_with fail
     refine (lessen_any _ hB1 hA1 (fun e=>hne e.symm) (by omega) (by omega) hS).mono ?_
     rintro e w2 ⟨a',n',c',z,rfl,hz,hg,hS2,hfin,hb2⟩
     have hbel2:=hbel1.trans hb2
     clear hA1 hB1 hb2
     rcases hfin with ⟨h0,h1⟩|⟨h0,h1,g',o',e1,h2,h3⟩
     ·subst h0 h1
      have HF:Hid (p=Nat.gcd x y):=by show _=_;rw [← HG.out,Nat.gcd_comm p q,← hg,Nat.gcd_zero_left]
      have hN:=hS2.num
      have hge:=hS2.ge (by omega)
      rw [HF.out] at hN hge
      have hN1:Num w2 (some ⟨ga,oa,none⟩) na ca ((Nat.gcd x y:Nat):Int) (S+1):=by
       obtain ⟨xs,i1,i2,i3,i4,i5,i6⟩:=hN
       exact ⟨xs,i1,i2,i3,i4,i5,by omega⟩
      clear hS2 hN hTr
      go_wp2
      go_ret
      exact ⟨_,_,_,rfl,hN1,hge,hbel2⟩
     ·subst e1
      have hn0:((n':Int) == 0)=false:=beq_eq_false_iff_ne.2 (by omega)
      have hT2:=tab_below hT hbel2 hgt
      have hLO:=leaveOdd_any w2 h3 h0 (by omega) hT2
      have hg'B:=h3.lt.1
      clear h3
      go_wp2_with fail
      refine hLO.mono ?_
      rintro e w3 ⟨K,M,o3,n3,c3,rfl,hM,hS3,hO3⟩
      have hS4:=hS2.off hO3 (fun e=>h2 e.symm)
      have hbel3:=hbel2.trans (hO3.below hg'B)
      have hMl:=odd_le hM
      have HGF:Hid (Nat.gcd (2*M+1) p=Nat.gcd x y):=by show _=_;rw [← HG.out,Nat.gcd_comm p q,← hg,hM,gcd_odd hp]
      have HW3:Hid (wval w3 (.slice (some ⟨g',o3,none⟩) n3 c3)=2*M+1):=hS3.wval
      have HW4:Hid (wval w3 (.slice (some ⟨ga,oa,none⟩) na ca)=p):=hS4.wval
      clear hLO hM hO3 hS2 hTr hT2
      go_wp2
      go_roundw
      case rel=>exact ⟨g',o3,n3,c3,2*M+1,ga,oa,na,ca,p,rfl,rfl,hS3,hS4,h2,by omega,hp,HGF.out,hbel3⟩
      case measure=>rw [HW3.out,HW4.out,HWA.out,HWB.out];omega
    ·go_wp2_with fail
     refine (lessen_any _ hA1 hB1 hne (by omega) (by omega) hS).mono ?_
     rintro e w2 ⟨a',n',c',z,rfl,hz,hg,hS2,hfin,hb2⟩
     have hbel2:=hbel1.trans hb2
     clear hA1 hB1 hb2
     rcases hfin with ⟨h0,h1⟩|⟨h0,h1,g',o',e1,h2,h3⟩
     ·subst h0 h1
      have HF:Hid (q=Nat.gcd x y):=by show _=_;rw [← HG.out,← hg,Nat.gcd_zero_left]
      have hN:=hS2.num
      have hge:=hS2.ge (by omega)
      rw [HF.out] at hN hge
      have hN1:Num w2 (some ⟨gb,ob,none⟩) nb cb ((Nat.gcd x y:Nat):Int) (S+1):=by
       obtain ⟨xs,i1,i2,i3,i4,i5,i6⟩:=hN
       exact ⟨xs,i1,i2,i3,i4,i5,by omega⟩
      clear hS2 hN hTr
      go_wp2
      go_ret
      exact ⟨_,_,_,rfl,hN1,hge,hbel2⟩
     ·subst e1
      have hn0:((n':Int) == 0)=false:=beq_eq_false_iff_ne.2 (by omega)
      have hT2:=tab_below hT hbel2 hgt
      have hLO:=leaveOdd_any w2 h3 h0 (by omega) hT2
      have hg'B:=h3.lt.1
      clear h3
      go_wp2_with fail
      refine hLO.mono ?_
      rintro e w3 ⟨K,M,o3,n3,c3,rfl,hM,hS3,hO3⟩
      have hS4:=hS2.off hO3 (fun e=>h2 e.symm)
      have hbel3:=hbel2.trans (hO3.below hg'B)
      have hMl:=odd_le hM
      have HGF:Hid (Nat.gcd (2*M+1) q=Nat.gcd x y):=by show _=_;rw [← HG.out,← hg,hM,gcd_odd hq]
      have HW3:Hid (wval w3 (.slice (some ⟨g',o3,none⟩) n3 c3)=2*M+1):=hS3.wval
      have HW4:Hid (wval w3 (.slice (some ⟨gb,ob,none⟩) nb cb)=q):=hS4.wval
      clear hLO hM hO3 hS2 hTr hT2
      go_wp2
      go_roundw
      case rel=>exact ⟨g',o3,n3,c3,2*M+1,gb,ob,nb,cb,q,rfl,rfl,hS3,hS4,h2,by omega,hq,HGF.out,hbel3⟩
      case measure=>rw [HW3.out,HW4.out,HWA.out,HWB.out];omega
   ·have h2I:¬ (1:Int)<(nb:Int):=by omega
    obtain rfl:na=1:=by omega
    obtain rfl:nb=1:=by omega
    obtain ⟨ca1,hx1⟩:=hA.one
    obtain ⟨cb1,hy1⟩:=hB.one
    have hgw:∀ wz,TabAt 4 Lib.deBruijn64tab wz→Calls Tryz.prog 132 #[.int .u64 (p:Int),.int .u64 (q:Int)] wz fun e w'=>e = .returned (.int .u64 (Nat.gcd x y:Nat))∧wz=w':=fun wz hz=>by
     have:=gcdWords_any p q wz hp hq hx1 hy1 hz
     rw [HG.out] at this
     exact this
    have hGb:Nat.gcd x y≤p:=by rw [← HG.out];exact Nat.gcd_le_left q (by omega)
    have hGw:((Nat.gcd x y:Nat):Int)<18446744073709551616:=by omega
    have hG0:(0:Int)≤((Nat.gcd x y:Nat):Int):=Int.natCast_nonneg _
    clear hA hB
    go_wp2_with fail
    go_region_held3 (fun w'=>w'.cell? ⟨ga,oa,none⟩=some (.int .u64 (p:Int))∧w'.cell? ⟨gb,ob,none⟩=some (.int .u64 (q:Int)))
     (first|(go_keep;done)|(refine ⟨?_,?_⟩ <;> exact keepB hb2 (by go_keep)))
     ((first
      | (go_at_call 132;go_fit (hgw wr.drew (fun j hj=>hTr j hj));rintro e wz ⟨rfl,rfl⟩)
      | (go_at_call 58;go_fit (ofG _ _ hG0 hGw);rintro e w2 ⟨c2,n2,d2,rfl,G2,hb2⟩)))
    have hn2:n2≤1:=by obtain ⟨xs,i1,_,_,i4⟩:=G2;have:=i1.reads.1;omega
    have hG1:0<Nat.gcd x y:=Nat.gcd_pos_of_pos_left y (by omega)
    have HGE:Hid (pw (n2-1)≤((Nat.gcd x y:Nat):Int)):=by show _≤_;rw [show n2-1=0 by omega,pw_zero];omega
    have hN:=G2.num
    have hN1:Num w2 c2 n2 d2 ((Nat.gcd x y:Nat):Int) (S+1):=by
     obtain ⟨xs,i1,i2,i3,i4,i5,i6⟩:=hN
     exact ⟨xs,i1,i2,i3,i4,i5,by omega⟩
    have hbel2:=(belN hbel 1).trans (hb2.mono hBw)
    clear hgw G2 hN hb2 hTr ca1 cb1
    go_wp2
    go_ret
    exact ⟨_,_,_,rfl,hN1,HGE.out,hbel2⟩
theorem two_unique {a b m n:Nat} (h:2^a*(2*m+1)=2^b*(2*n+1)):a=b:=by
 rcases Nat.lt_trichotomy a b with g|g|g
 ·exfalso
  obtain ⟨c,rfl⟩:∃ c,b=a+(c+1):=⟨b-a-1,by omega⟩
  rw [Nat.pow_add,Nat.mul_assoc] at h
  have:=Nat.eq_of_mul_eq_mul_left (Nat.pow_pos (by decide)) h
  rw [Nat.pow_succ,Nat.mul_comm (2^c) 2,Nat.mul_assoc] at this
  omega
 ·exact g
 ·exfalso
  obtain ⟨c,rfl⟩:∃ c,a=b+(c+1):=⟨a-b-1,by omega⟩
  rw [Nat.pow_add,Nat.mul_assoc] at h
  have:=Nat.eq_of_mul_eq_mul_left (Nat.pow_pos (by decide)) h
  rw [Nat.pow_succ,Nat.mul_comm (2^c) 2,Nat.mul_assoc] at this
  omega
def Mine (w:World) (B:Nat) (a:Option Addr) (n cap x S:Nat):Prop:=Got w B (.slice a n cap) (x:Int) S∧(0<x→∃ g,a=some ⟨g,0,none⟩∧Seg w B g 0 n cap x S)
theorem Mine.below {w w':World} {B:Nat} {a:Option Addr} {n cap x S:Nat} (h:Mine w B a n cap x S) (hb:Below w.heap.size w w'):Mine w' B a n cap x S :=
 ⟨h.1.below hb,fun hx=>by obtain ⟨g,e,h2⟩:=h.2 hx;exact ⟨g,e,h2.below hb⟩⟩
theorem Mine.nil (w:World) (B S:Nat):Mine w B none 0 0 0 S:=⟨(Got.nil w B).le (Nat.zero_le _),fun h=>by omega⟩
theorem Mine.zero {w:World} {B:Nat} {a:Option Addr} {n cap S:Nat} (h:Mine w B a n cap 0 S):n=0:=by
 obtain ⟨xs,h1,h2,h3,_⟩:=h.1
 have h4:=h1.reads.1
 have h5:=(tlen_zero h2.1).2 (by simpa using h3)
 have h6:=h2.2
 omega
set_option maxRecDepth 100000 in
set_option maxHeartbeats 4000000 in
theorem gcdTwo_any {B:Nat} {ag:Option Addr} {ng cg x:Nat} {a:Option Addr} {na ca y S R:Nat} (w:World) (hg:Mine w B ag ng cg x S) (ha:Num w a na ca y R) (hS:S≤9000000) (hR:R+2≤S) (hBw:B≤w.heap.size) (hT:TabAt 4 Lib.deBruijn64tab w) (hgt:4<B) :
  Calls Tryz.prog 71 #[.slice ag ng cg,.slice a na ca] w fun e w'=>∃ c n cc,e = .returned (.slice c n cc)∧Mine w' B c n cc (Nat.gcd x y) S∧Below B w w':=by
 obtain ⟨ys,a1,a2,a3,a4,a5,a6⟩:=ha
 have Ha:Hid (na=ys.length):=a1
 have hl:tlen ys≤ys.length:=tl_le _ _
 have HVT:Hid (val (trimL ys)=(y:Int)):=by show _=_;rw [val_trimL];exact a5
 have HTT:Hid (tlen (trimL ys)=tlen ys):=tlen_trimL ys
 have HTL:Hid ((trimL ys).length=tlen ys):=length_trimL ys
 have hW:=a4.trim
 have HZ:Hid (tlen ys=0↔(y:Int)=0):=by rw [← a5];exact tlen_zero a4
 have hlR:tlen ys≤R:=by omega
 have hylt:(y:Int)<pw R:=by rw [← a5];exact Int.lt_of_lt_of_le (val_lt_tlen a4) (pw_mono hlR)
 go_enter Tryz.func71,Tryz.ntmps71
 clear a1 a5 hl
 go_wp2_with fail
 refine (norm_any a na ca ys w Ha.out a2 (by omega) a3).mono ?_
 rintro e w1 ⟨g1,rfl,hg1,hB1,hb1⟩
 clear a2 a3 a4 a6 Ha
 generalize trimL ys=zs at *
 generalize tlen ys=tn at *
 have hg1':=hg.below hb1
 have hT1:=tab_below hT (hb1.mono hBw) hgt
 have hbel1:Below B w w1:=hb1.mono hBw
 have hBg:B≤g1:=by omega
 have hM1:0<y→Seg w1 B g1 0 tn tn y S:=fun hy=>by
  refine ⟨zs,hB1,hBg,by rw [HTL.out];omega,Nat.le_refl _,by rw [HTL.out];omega,hW,?_,?_⟩
  ·rw [List.drop_zero,← HTL.out,List.take_length];rw [HTL.out];exact HTT.out
  ·rw [List.drop_zero,← HTL.out,List.take_length];exact HVT.out
 have hGN:Got w1 B (.slice (some ⟨g1,0,none⟩) tn tn) (y:Int) S:=by
  have h2:=(hB1.row zs.length (by rw [HTL.out];unfold maxLen;omega)).own hBg
  rw [List.take_length,HTL.out] at h2
  exact ⟨zs,h2,⟨hW,by rw [HTT.out,HTL.out]⟩,HVT.out,by rw [HTL.out];omega⟩
 have hdis:∀ g0,B≤g0→g0<w.heap.size→g0≠g1:=fun g0 _ h=>by omega
 have hold:=hg
 clear hg hB1 hb1 hT
 rcases Nat.eq_zero_or_pos x with h0|h0
 ·subst h0
  have hn0:ng=0:=hold.zero
  subst hn0
  have hFIN:Mine w1 B (some ⟨g1,0,none⟩) tn tn (Nat.gcd 0 y) S:=by
   rw [Nat.gcd_zero_left]
   exact ⟨hGN,fun h=>⟨g1,rfl,hM1 h⟩⟩
  clear hold hg1' hM1 hGN
  go_wp2
  go_ret
  exact ⟨_,_,_,rfl,hFIN,hbel1⟩
 ·obtain ⟨g0,rfl,hsg0⟩:∃ g0,ag=some ⟨g0,0,none⟩∧Seg w B g0 0 ng cg x S:=by
   exact hold.2 h0
  have hgl:=hsg0.lt
  have hne:g0≠g1:=hdis g0 hgl.1 hgl.2
  have hsg1:Seg w1 B g0 0 ng cg x S:=by
   obtain ⟨g,e,h⟩:=hg1'.2 h0
   cases e;exact h
  have hGG:=hg1'.1
  have hng:=hsg1.pos h0
  have hng':((ng:Int) == 0)=false:=beq_eq_false_iff_ne.2 (by omega)
  clear hold hg1' hdis hsg0 hGN
  rcases Nat.eq_zero_or_pos y with hy|hy
  ·have htn:tn=0:=HZ.out.2 (by omega)
   subst htn
   have hFIN:Mine w1 B (some ⟨g0,0,none⟩) ng cg (Nat.gcd x y) S:=by
    rw [hy,Nat.gcd_zero_right]
    exact ⟨hGG,fun _=>⟨g0,rfl,hsg1⟩⟩
   clear hM1 hsg1
   go_wp2
   go_ret
   exact ⟨_,_,_,rfl,hFIN,hbel1⟩
  ·have hseg2:=hM1 hy
   have htn:=hseg2.pos hy
   have htn':((tn:Int) == 0)=false:=beq_eq_false_iff_ne.2 (by omega)
   have hc1:=fun wz (h:Seg wz B g0 0 ng cg x S) (ht:TabAt 4 Lib.deBruijn64tab wz)=>countTwos_any wz h h0 (by omega) ht
   have hc2:=fun wz (h:Seg wz B g1 0 tn tn y S) (ht:TabAt 4 Lib.deBruijn64tab wz)=>countTwos_any wz h hy (by omega) ht
   clear hM1
   go_wp2_with fail
   refine (hc1 w1 hsg1 hT1).mono ?_
   rintro e wz ⟨K1,M1,rfl,hK1,hKb1,rfl⟩
   go_wp2_with fail
   refine (hc2 w1 hseg2 hT1).mono ?_
   rintro e wz ⟨K2,M2,rfl,hK2,hKb2,rfl⟩
   obtain ⟨T,hTm⟩:∃ T,min K1 K2=T:=⟨_,rfl⟩
   have MI:min (K1:Int) (K2:Int)=(T:Int):=by omega
   have hTb:T≤6400000000:=by omega
   have HK1:Hid (x=2^K1*(2*M1+1)):=hK1
   have HK2:Hid (y=2^K2*(2*M2+1)):=hK2
   have HTM:Hid (min K1 K2=T):=hTm
   have hl1:=leaveOdd_any w1 hsg1 h0 (by omega) hT1
   clear hc1 hc2 hK1 hK2 hTm hsg1
   go_wp2_with fail
   refine hl1.mono ?_
   rintro e w2 ⟨K3,M3,o3,n3,c3,rfl,hK3,hS3,hO3⟩
   have hbel2:=hbel1.trans (hO3.below hgl.1)
   have hsg2:=hseg2.off hO3 (fun e=>hne e.symm)
   have hT2:=tab_below hT1 (hO3.below hgl.1) hgt
   have HK3:Hid (x=2^K3*(2*M3+1)):=hK3
   have hl2:=leaveOdd_any w2 hsg2 hy (by omega) hT2
   clear hl1 hseg2 hT1 hbel1 hO3 hK3 hsg2
   go_wp2_with fail
   refine hl2.mono ?_
   rintro e w3 ⟨K4,M4,o4,n4,c4,rfl,hK4,hS4,hO4⟩
   have hbel3:=hbel2.trans (hO4.below hBg)
   have hS5:=hS3.off hO4 hne
   have hT3:=tab_below hT2 (hO4.below hBg) hgt
   have HK4:Hid (y=2^K4*(2*M4+1)):=hK4
   have hgo:=gcdOdd_any w3 hS5 hS4 hne (by omega) (by omega) hS hT3 hgt
   clear hl2 hS3 hT2 hbel2 hO4 hK4 hS4 hS5
   go_wp2_with fail
   refine hgo.mono ?_
   rintro e w4 ⟨c5,n5,d5,rfl,hN5,hge,hb4⟩
   have hbel4:=hbel3.trans hb4
   obtain ⟨G,hG⟩:∃ G,Nat.gcd (2*M3+1) (2*M4+1)=G:=⟨_,rfl⟩
   rw [hG] at hN5 hge
   have HGX:Hid (Nat.gcd x y=2^T*G):=by
    show _=_
    have e1:=two_unique (HK1.out.symm.trans HK3.out)
    have e2:=two_unique (HK2.out.symm.trans HK4.out)
    rw [HK3.out,HK4.out,gcd_twos (by omega) (by omega),hG,← e1,← e2,HTM.out]
   obtain ⟨xs,i1,i2,i3,i4,i5,i6⟩:=hN5
   have hgle:Nat.gcd x y≤y:=Nat.gcd_le_right x hy
   have HLEN:Hid (T/64+n5+1≤S):=by
    show _≤_
    have e1:((Nat.gcd x y:Nat):Int)=2^T*(G:Int):=by rw [HGX.out,Int.natCast_mul,Int.natCast_pow];rfl
    have e2:pw (T/64)≤(2:Int)^T:=by
     rw [pw2]
     obtain ⟨r,hr⟩:=Nat.le.dest (show 64*(T/64)≤T by omega)
     rw [← hr,Int.pow_add]
     have h1:(0:Int)<2^(64*(T/64)):=Int.pow_pos (by decide)
     have h2:(0:Int)<2^r:=Int.pow_pos (by decide)
     have h3:=Int.mul_le_mul_of_nonneg_left (a:=1) (b:=2^r) (c:=2^(64*(T/64))) (by omega) (by omega)
     rw [Int.mul_one] at h3
     rw [hr]
     exact h3
    have e3:pw (T/64)*pw (n5-1)≤2^T*(G:Int):=Int.mul_le_mul e2 hge (Int.le_of_lt (pw_pos _)) (Int.le_of_lt (Int.pow_pos (by decide)))
    rw [← pw_add,← e1] at e3
    rcases Nat.lt_or_ge (T/64+(n5-1)) R with h|h
    ·omega
    ·have:=pw_mono h
     omega
   have HFV:Hid ((G:Int)*2^T=((Nat.gcd x y:Nat):Int)):=by show _=_;rw [HGX.out,Int.natCast_mul,Int.natCast_pow,Int.mul_comm];rfl
   have hsu:=shiftUp_any c5 n5 d5 xs T (T/64) (T%64) w4 i1 (by omega) (by omega) rfl rfl i3 i4
   rw [i5,HFV.out] at hsu
   have hB4:B≤w4.heap.size:=Nat.le_trans hBw hbel4.size
   obtain ⟨q,hq⟩:∃ q,T/64=q:=⟨_,rfl⟩
   rw [hq] at hsu HLEN
   clear hgo hT3 hbel3 hb4 hge i1 i2 i3 i4 i5 i6 hG HFV hq
   go_wp2_with fail
   refine hsu.mono ?_
   rintro e w5 ⟨U,rfl,hU,hUl,hUw,hUv,hb5⟩
   have hbel5:=hbel4.trans (hb5.mono hB4)
   have hre:Reads w5 (some ⟨w4.heap.size,0,none⟩) U:=by have:=hU.reads U.length;rwa [List.take_length] at this
   have hle:tlen U≤U.length:=tl_le _ _
   have HUL:Hid (U.length=q+n5+1):=hUl
   have hFIN:Mine w5 B (some ⟨w4.heap.size,0,none⟩) (tlen U) (q+n5+1) (Nat.gcd x y) S:=by
    have hGU:=got_of_blk (B:=B) hU hUw hB4 (q+n5+1) hUl.symm (S:=S) (by have:=HLEN.out;omega) (by have:=HLEN.out;omega)
    rw [hUv] at hGU
    refine ⟨hGU,fun _=>⟨w4.heap.size,rfl,U,hU,hB4,by omega,by omega,by have:=HLEN.out;omega,hUw,?_,?_⟩⟩
    ·rw [List.drop_zero];exact (show tlen (trimL U)=tlen U from tlen_trimL U)
    ·rw [List.drop_zero];exact (show val (trimL U)=_ by rw [val_trimL];exact hUv)
   clear hsu hU hUl hUv hUw
   go_wp2_with fail
   refine (trim_any (some ⟨w4.heap.size,0,none⟩) (q+n5+1) (q+n5+1) U w5 HUL.out.symm (Nat.le_refl _) (by have:=HLEN.out;omega) hre).mono ?_
   rintro e wsame ⟨rfl,rfl⟩
   clear hre
   go_wp2
   go_ret
   exact ⟨_,_,_,rfl,hFIN,hbel5⟩
def gcdN (Y:Nat→Nat):Nat→Nat
 | 0=>0
 | k+1=>Nat.gcd (gcdN Y k) (Y k)
set_option maxRecDepth 100000 in
set_option maxHeartbeats 1000000 in
theorem gcdL_any (gl m cap:Nat) (A:Nat→Option Addr) (N C Y:Nat→Nat) (R:Nat) (w:World) (hc:∀ j,j<m→w.cell? ⟨gl,j,none⟩=some (.slice (A j) (N j) (C j))) (hn:∀ j,j<m→Num w (A j) (N j) (C j) (Y j) R) (hm:m≤10000000) (hR:R≤8000000) (hT:TabAt 4 Lib.deBruijn64tab w) (hgt:4<w.heap.size) :
  Calls Tryz.prog 54 #[.slice (some ⟨gl,0,none⟩) m cap] w fun e w'=>∃ c n cc,e = .returned (.slice c n cc)∧Mine w' w.heap.size c n cc (gcdN Y m) (R+2)∧Below w.heap.size w w':=by
 have hgw:4<w.heap.size:=hgt
 go_enter Tryz.func54,Tryz.ntmps54
 go_wp2
 go_loopw [3,8] (fun v t wr=>∃ (k:Nat) (c:Option Addr) (n cc:Nat),k≤m∧t = .int .i64 k∧v = .slice c n cc∧Mine wr w.heap.size c n cc (gcdN Y k) (R+2)∧Below w.heap.size w wr) (fun _ t _=>m-(intOf t).toNat)
 case atStart=>exact ⟨0,none,0,0,Nat.zero_le _,rfl,rfl,Mine.nil _ _ _,Below.refl _ _⟩
 case round =>
  obtain ⟨k,c,n,cc,hk,rfl,rfl,hM,hbel⟩:=hrel
  by_cases hlt:k<m
  ·have hkI:(k:Int)<(m:Int):=by omega
   have hck:=hc k hlt
   have hck1:wr.cell? ⟨gl,k,none⟩=some (.slice (A k) (N k) (C k)):=by rw [hbel.cell (World.block_lt_of_cell? _ _ hck)];exact hck
   have hN:=(hn k hlt).below hbel
   have hT1:=tab_below hT hbel hgt
   have hgg:=gcdTwo_any wr hM hN (by omega) (Nat.le_refl _) hbel.size hT1 hgt
   have HY:Hid (Nat.gcd (gcdN Y k) (Y k)=gcdN Y (k+1)):=rfl
   rw [HY.out] at hgg
   clear hck hM hN hT1
   go_wp2_with fail
   refine hgg.mono ?_
   rintro e w1 ⟨c1,n1,d1,rfl,hM1,hb1⟩
   have hbel1:=hbel.trans hb1
   clear hgg hb1 hbel hck1
   go_wp2
   go_roundw
   case rel=>exact ⟨k+1,c1,n1,d1,by omega,by go_num,rfl,hM1,hbel1⟩
   case measure=>simp [intOf];omega
  ·have hkI:¬ (k:Int)<(m:Int):=by omega
   obtain rfl:k=m:=by omega
   go_wp2
   go_ret
   exact ⟨_,_,_,rfl,hM,hbel⟩
end Go.Proofs.YtceigfafmalfgaaGreatDoor
