import Derived.Test.YtiohbjnflpnfbaaGreatDoorBpCAll
import Derived.Test.YtiohbjnflpnfbaaGreatDoorBpE
namespace Go.Proofs.YtiohbjnflpnfbaaGreatDoor
open Go.RowKit
theorem totB_mono {f g:Nat→Nat}:∀ n,(∀ i,i < n→f i≤g i)→totB f n≤totB g n
 | 0,_=>Nat.le_refl _
 | n + 1,h=>by
  have h1:=totB_mono n fun i hi=>h i (by omega)
  have h2:=h n (by omega)
  show totB f n + f n≤totB g n + g n
  omega
theorem totB_add (f g:Nat→Nat):∀ n,totB (fun i=>f i + g i) n = totB f n + totB g n
 | 0=>rfl
 | n + 1=>by
  have h1:=totB_add f g n
  show totB (fun i=>f i + g i) n + (f n + g n) = totB f n + f n + (totB g n + g n)
  omega
theorem totB_cut (f:Nat→Nat) (k:Nat):∀ n,totB (fun i=>if i < k then f i else 0) n≤totB f k
 | 0=>Nat.zero_le _
 | n + 1=>by
  have h1:=totB_cut f k n
  show totB (fun i=>if i < k then f i else 0) n + (if n < k then f n else 0)≤totB f k
  by_cases h:n < k
  ·rw [if_pos h]
   have e:totB (fun i=>if i < k then f i else 0) n = totB f n:=totB_ext n fun i hi=>if_pos (by omega)
   rw [e]
   exact totB_up (f:=f) (show n + 1≤k by omega)
  ·rw [if_neg h]
   exact h1
theorem totB_pt (v x:Nat):∀ n,totB (fun i=>if i = x then v else 0) n≤v
 | 0=>Nat.zero_le _
 | n + 1=>by
  show totB (fun i=>if i = x then v else 0) n + (if n = x then v else 0)≤v
  by_cases h:n = x
  ·rw [if_pos h]
   have e:totB (fun i=>if i = x then v else 0) n = totB (fun _=>0) n:=totB_ext n fun i hi=>if_neg (by omega)
   have z:∀ k,totB (fun _=>0) k = 0:=fun k=>by
    induction k with
    | zero=>rfl
    | succ k ih=>show totB (fun _=>0) k + 0 = 0;omega
   rw [e,z]
   omega
  ·rw [if_neg h]
   exact totB_pt v x n
theorem szr_dsg {s:Bool} {r:Rat} {K:Nat} (h:SzR r K):SzR (dsg s r) K:=by
 unfold dsg
 split
 ·exact ⟨by rw [Rat.neg_num,Int.natAbs_neg];exact h.1,by rw [Rat.neg_den];exact h.2⟩
 ·exact h
def stz (s:StD) (ZE:Nat→Nat→Nat) (ZB:Nat→Nat) (c r:Nat):Nat:=if TX s.row (s.cn + s.bn) c r = 0 then 0 else if c = s.cn + s.bn then ZB r + 1 else if c = s.cn + r then 2 else ZE r c + 1
theorem stz_ok {s:StD} {ZE:Nat→Nat→Nat} {ZB:Nat→Nat} (hE:∀ r,r < s.bn→∀ c,c < s.k r→SzR (s.E r c) (ZE r c)) (hB:∀ r,r < s.bn→SzR (s.B r) (ZB r)):StZ s (stz s ZE ZB):=by
 intro r hr c hc
 unfold stz
 by_cases h0:TX s.row (s.cn + s.bn) c r = 0
 ·exact .inl ⟨h0,if_pos h0⟩
 ·refine .inr ?_
  rw [if_neg h0]
  have hk:=s.k_le r
  by_cases hN:c = s.cn + s.bn
  ·rw [if_pos hN]
   refine ⟨by omega,?_⟩
   rw [Nat.add_sub_cancel]
   unfold TX
   rw [if_neg (by omega)]
   exact szr_dsg (hB r hr)
  ·rw [if_neg hN]
   have e:TX s.row (s.cn + s.bn) c r = lat (fln (s.t r) (s.E r) (s.k r) (s.cn + r)) c:=if_pos (by omega)
   rw [e,fln_lat _ _ (by omega)] at h0 ⊢
   by_cases hA:c = s.cn + r
   ·rw [if_pos hA,if_pos hA.symm]
    exact ⟨by omega,⟨by decide,by decide⟩⟩
   ·rw [if_neg hA,if_neg (Ne.symm hA)]
    rw [if_neg (Ne.symm hA)] at h0
    by_cases hck:c < s.k r
    ·rw [if_pos hck,Nat.add_sub_cancel]
     exact ⟨by omega,szr_dsg (hE r hr c hck)⟩
    ·rw [if_neg hck] at h0
     exact absurd rfl h0
theorem rws_mono {f g:Nat→Nat}:∀ n k,(∀ r,k≤r→r < k + n→f r≤g r)→rws f n k≤rws g n k
 | 0,_,_=>Nat.le_refl _
 | n + 1,k,h=>by
  have h1:=rws_mono n (k + 1) fun r h1 h2=>h r (by omega) (by omega)
  have h2:=h k (by omega) (by omega)
  show f k + rws f n (k + 1)≤g k + rws g n (k + 1)
  omega
theorem stz_le (s:StD) (ZE:Nat→Nat→Nat) (ZB:Nat→Nat):stK s (stz s ZE ZB)≤rws (fun r=>totB (fun c=>ZE r c + 1) (s.k r) + 2 + (ZB r + 1)) s.bn 0 + 1:=by
 unfold stK
 refine Nat.add_le_add_right (rws_mono _ _ fun r _ hr=>?_) 1
 have hk:=s.k_le r
 have h1:totB (fun c=>stz s ZE ZB c r) (s.cn + s.bn + 1)≤totB (fun c=>(if c < s.k r then ZE r c + 1 else 0) + ((if c = s.cn + r then 2 else 0) + (if c = s.cn + s.bn then ZB r + 1 else 0))) (s.cn + s.bn + 1):=totB_mono _ fun c hc=>by
  unfold stz
  by_cases h0:TX s.row (s.cn + s.bn) c r = 0
  ·rw [if_pos h0];exact Nat.zero_le _
  ·rw [if_neg h0]
   by_cases hN:c = s.cn + s.bn
   ·rw [if_pos hN,if_pos hN];omega
   ·rw [if_neg hN,if_neg hN]
    by_cases hA:c = s.cn + r
    ·rw [if_pos hA,if_pos hA];omega
    ·rw [if_neg hA,if_neg hA]
     have e:TX s.row (s.cn + s.bn) c r = lat (fln (s.t r) (s.E r) (s.k r) (s.cn + r)) c:=if_pos (by omega)
     rw [e,fln_lat _ _ (by omega),if_neg (Ne.symm hA)] at h0
     by_cases hck:c < s.k r
     ·rw [if_pos hck];omega
     ·rw [if_neg hck] at h0
      exact absurd rfl h0
 rw [totB_add,totB_add] at h1
 have h2:=totB_cut (fun c=>ZE r c + 1) (s.k r) (s.cn + s.bn + 1)
 have h3:=totB_pt 2 (s.cn + r) (s.cn + s.bn + 1)
 have h4:=totB_pt (ZB r + 1) (s.cn + s.bn) (s.cn + s.bn + 1)
 omega
theorem csz_lco {Y:Nat→Rat} {ZY:Nat→Nat} {cn KC:Nat} (hY:∀ c,c < cn→SzR (Y c) (ZY c)) (hK:totB (fun c=>ZY c + 1) cn≤KC) (N:Nat):∀ k,k≤cn→CsZ (lco Y k) N KC:=fun k hk=>by
 refine ⟨fun c=>if c < k then ZY c + 1 else 0,fun c _=>?_,?_⟩
 ·rw [lco_lat]
  show (if c < k then Y c else 0) = 0∧(if c < k then ZY c + 1 else 0) = 0∨1≤(if c < k then ZY c + 1 else 0)∧SzR (if c < k then Y c else 0) ((if c < k then ZY c + 1 else 0) - 1)
  by_cases h:c < k
  ·rw [if_pos h,if_pos h,Nat.add_sub_cancel]
   exact .inr ⟨by omega,hY c (by omega)⟩
  ·rw [if_neg h,if_neg h]
   exact .inl ⟨rfl,rfl⟩
 ·exact Nat.le_trans (totB_cut (fun c=>ZY c + 1) k N) (Nat.le_trans (totB_up hk) hK)
theorem exm_std {w w':World} {e:Ending} (h:ExmP w e w'):∃ s:StD,e = .returned (.agg #[.slice s.aa s.an s.ac,.slice s.ba s.bn s.bc,.slice s.ca s.cn s.cc,.bool s.zp,.slice s.za s.zn s.zc,.slice s.zd s.zm s.ze])∧StQ w' s 1∧s.an = 2∧s.bn = 2∧s.cn = 3∧s.rn 0 = 3∧s.rn 1 = 2∧s.E 0 = yA0∧s.E 1 = yA1∧s.B = yB∧Below w.heap.size w w':=by
 obtain ⟨va,vb,vc,rfl,⟨g,s0,s1,rfl,R,h0,h1⟩,hB,hC,hb⟩:=h
 obtain ⟨a0,rfl,l0⟩:=h0.lq
 obtain ⟨a1,rfl,l1⟩:=h1.lq
 obtain ⟨ab,rfl,lb⟩:=hB.lq
 obtain ⟨ac,rfl,_⟩:=hC.lq
 refine ⟨{ aa:=some ⟨g,0,none⟩,an:=2,ac:=2,ba:=ab,bn:=2,bc:=2,ca:=ac,cn:=3,cc:=3,zp:=false,za:=none,zn:=0,zc:=0,zd:=none,zm:=0,ze:=0,ra:=fun i=>if i = 0 then a0 else a1,rn:=fun i=>if i = 0 then 3 else 2,rc:=fun i=>if i = 0 then 3 else 2,E:=fun i=>if i = 0 then yA0 else yA1,B:=yB },rfl,⟨.inr ⟨g,0,rfl,fun i hi=>?_⟩,lb⟩,rfl,rfl,rfl,rfl,rfl,rfl,rfl,rfl,hb⟩
 have hi':i < 2:=hi
 rcases (by omega:i = 0∨i = 1) with rfl | rfl
 ·exact ⟨(R.cell 0).trans rfl,Nat.le_refl _,l0⟩
 ·exact ⟨(R.cell 1).trans rfl,Nat.le_refl _,l1⟩
theorem LQ.uni {w:World} {a:Option Addr} {n:Nat} {X:Nat→Rat} {Z:Nat→Nat} {T:Nat} (h:LQ w a n X Z) (hz:∀ i,i < n→Z i≤T):LQ w a n X (fun _=>T):=by
 rcases h with h0 | ⟨b,o,e,h⟩
 ·exact .inl h0
 ·refine .inr ⟨b,o,e,fun i hi=>?_⟩
  obtain ⟨p,a,na,ca,d,nd,cd,h1,h2,h3,h4⟩:=h i hi
  exact ⟨p,a,na,ca,d,nd,cd,h1,h2,h3,h4.up (hz i hi)⟩
theorem StQ.up {w:World} {s:StD} {S T:Nat} (h:StQ w s S) (hT:S≤T):StQ w s T :=
 ⟨h.a.imp id fun ⟨b,o,e,h⟩=>⟨b,o,e,fun i hi=>⟨(h i hi).1,(h i hi).2.1,(h i hi).2.2.uni fun _ _=>hT⟩⟩,h.b.uni fun _ _=>hT⟩
def yC (i:Nat):Rat:=if i < 3 then 0 else 1
structure ExX (X:Nat→RoD):Prop where
 l0:∀ c,lat (X 0).l c = if 3 = c then 1 else if c < 3 then yA0 c else 0
 l1:∀ c,lat (X 1).l c = if 4 = c then 1 else if c < 2 then -yA1 c else 0
 r0:(X 0).r = 4
 r1:(X 1).r = 2
 b0:(X 0).bas = 3
 b1:(X 1).bas = 4
 t0:(X 0).tu = false
 t1:(X 1).tu = true
structure ExY (X:Nat→RoD):Prop where
 a01:lat (X 0).l 1 = 2
 a03:lat (X 0).l 3 = 1
 a04:lat (X 0).l 4 = -1
 r0:(X 0).r = 2
 b0:(X 0).bas = 3
 b1:(X 1).bas = 0
 t0:(X 0).tu = false
 t1:(X 1).tu = true
structure ExS (s:StD):Prop where
 an:s.an = 2
 bn:s.bn = 2
 cn:s.cn = 3
 r0:s.rn 0 = 3
 r1:s.rn 1 = 2
 e0:s.E 0 = yA0
 e1:s.E 1 = yA1
 b:s.B = yB
theorem ExS.x {s:StD} (h:ExS s) {X:Nat→RoD} (hX:∀ q,q < s.bn→X q = s.row q):ExX X:=by
 have h0:=hX 0 (by rw [h.bn];decide)
 have h1:=hX 1 (by rw [h.bn];decide)
 have t0:s.t 0 = false:=by unfold StD.t;rw [h.b];kernel_rfl
 have t1:s.t 1 = true:=by unfold StD.t;rw [h.b];kernel_rfl
 have k0:s.k 0 = 3:=by unfold StD.k;rw [h.an,h.r0,h.cn];rfl
 have k1:s.k 1 = 2:=by unfold StD.k;rw [h.an,h.r1,h.cn];rfl
 refine ⟨fun c=>?_,fun c=>?_,?_,?_,?_,?_,?_,?_⟩
 ·rw [h0]
  show lat (fln (s.t 0) (s.E 0) (s.k 0) (s.cn + 0)) c = _
  rw [t0,k0,h.cn,h.e0,fln_lat _ _ (by decide)]
  rfl
 ·rw [h1]
  show lat (fln (s.t 1) (s.E 1) (s.k 1) (s.cn + 1)) c = _
  rw [t1,k1,h.cn,h.e1,fln_lat _ _ (by decide)]
  rfl
 ·rw [h0]
  show dsg (s.t 0) (s.B 0) = _
  rw [t0,h.b]
  kernel_rfl
 ·rw [h1]
  show dsg (s.t 1) (s.B 1) = _
  rw [t1,h.b]
  kernel_rfl
 ·rw [h0]
  show ((s.cn + 0:Nat):Int) = _
  rw [h.cn];rfl
 ·rw [h1]
  show ((s.cn + 1:Nat):Int) = _
  rw [h.cn];rfl
 ·rw [h0];exact t0
 ·rw [h1];exact t1
theorem ExS.z {s:StD} (h:ExS s):GmZ s 19 20:=by
 have k0:s.k 0 = 3:=by unfold StD.k;rw [h.an,h.r0,h.cn];rfl
 have k1:s.k 1 = 2:=by unfold StD.k;rw [h.an,h.r1,h.cn];rfl
 refine ⟨⟨stz s (fun _ _=>1) (fun _=>1),stz_ok (fun r hr c hc=>?_) (fun r hr=>?_),Nat.le_trans (stz_le _ _ _) ?_⟩,by decide,by decide,by rw [h.cn,h.bn];decide⟩
 ·rw [h.bn] at hr
  rcases (by omega:r = 0∨r = 1) with rfl | rfl
  ·rw [k0] at hc
   rw [h.e0]
   rcases (by omega:c = 0∨c = 1∨c = 2) with rfl | rfl | rfl <;> exact ⟨by decide +kernel,by decide +kernel⟩
  ·rw [k1] at hc
   rw [h.e1]
   rcases (by omega:c = 0∨c = 1) with rfl | rfl <;> exact ⟨by decide +kernel,by decide +kernel⟩
 ·rw [h.bn] at hr
  rw [h.b]
  rcases (by omega:r = 0∨r = 1) with rfl | rfl <;> exact ⟨by decide +kernel,by decide +kernel⟩
 ·rw [h.bn]
  show (totB (fun _=>1 + 1) (s.k 0) + 2 + (1 + 1)) + ((totB (fun _=>1 + 1) (s.k 1) + 2 + (1 + 1)) + 0) + 1≤19
  rw [k0,k1]
  decide
theorem yC_lat (c:Nat):lat (lco yC 5) c = if c < 5 then yC c else 0:=lco_lat yC c 5
theorem yC_csz:CsZ (lco yC 5) (3 + 2) 20:=csz_lco (ZY:=fun _=>1) (fun c _=>by unfold yC;split <;> exact ⟨by decide +kernel,by decide +kernel⟩) (show totB (fun _=>1 + 1) 5≤20 by decide) (3 + 2) 5 (by decide)
theorem bco_nat {X:Nat→RoD} {lc:List (Nat × Rat)} {A:Nat→Rat} {q k:Nat} (hb:(X q).bas = ((k:Nat):Int)):bco X lc A q = lat lc k * A q:=by
 unfold bco
 rw [hb,if_neg (by omega),latI_nat]
theorem ExX.red {X:Nat→RoD} (h:ExX X):rdc X (lco yC 5) 2 0 = ((-2:Int):Rat):=by
 unfold rdc
 rw [rsum_succ,rsum_succ,bco_nat (k:=3) h.b0,bco_nat (k:=4) h.b1]
 show latI (lco yC 5) ((0:Nat):Int) - (rsum _ 0 + lat (lco yC 5) 3 * latI (X 0).l ((0:Nat):Int) + lat (lco yC 5) 4 * latI (X 1).l ((0:Nat):Int)) = _
 rw [latI_nat,latI_nat,latI_nat,h.l0,h.l1,yC_lat,yC_lat,yC_lat]
 kernel_rfl
theorem ExX.wor {X:Nat→RoD} (h:ExX X):rsum (bco X (lco yC 5) fun q=>(X q).r) 1 = 4∧rsum (bco X (lco yC 5) fun q=>(X q).r) 2 = ((6:Int):Rat):=by
 rw [rsum_succ _ 1,rsum_succ _ 0,bco_nat (k:=3) h.b0,bco_nat (k:=4) h.b1]
 show rsum _ 0 + lat (lco yC 5) 3 * (X 0).r = 4∧rsum _ 0 + lat (lco yC 5) 3 * (X 0).r + lat (lco yC 5) 4 * (X 1).r = _
 rw [h.r0,h.r1,yC_lat,yC_lat]
 exact ⟨by kernel_rfl,by kernel_rfl⟩
theorem ExX.worZ {X:Nat→RoD} (h:ExX X):∀ k,k≤2→SzR (rsum (bco X (lco yC 5) fun q=>(X q).r) k) 40:=fun k hk=>by
 rcases (by omega:k = 0∨k = 1∨k = 2) with rfl | rfl | rfl
 ·show SzR 0 40
  exact ⟨by decide +kernel,by decide +kernel⟩
 ·rw [h.wor.1];exact ⟨by decide +kernel,by decide +kernel⟩
 ·rw [h.wor.2];exact ⟨by decide +kernel,by decide +kernel⟩
theorem ExX.ent {X:Nat→RoD} (h:ExX X):mye X (lco yC 5) 2 0:=by
 refine ⟨fun ⟨q,hq,e⟩=>?_,?_⟩
 ·rcases (by omega:q = 0∨q = 1) with rfl | rfl
  ·rw [h.b0] at e;exact absurd e (by decide)
  ·rw [h.b1] at e;exact absurd e (by decide)
 ·show (rdc X (lco yC 5) 2 0).num.sign < 0
  rw [h.red]
  decide +kernel
theorem ExX.lv {X:Nat→RoD} (h:ExX X):(lvf X 0 2).1 = 1:=by
 have c0:latI (X 0).l 0 = 1:=by rw [show (0:Int) = ((0:Nat):Int) from rfl,latI_nat,h.l0];kernel_rfl
 have c1:latI (X 1).l 0 = 1:=by rw [show (0:Int) = ((0:Nat):Int) from rfl,latI_nat,h.l1];kernel_rfl
 have e1:lvf X 0 1 = (0,4):=by
  show lstep X 0 (-1,0) 0 = _
  unfold lstep
  rw [h.b0,c0,h.r0,if_neg (by rintro (h | h);exact absurd h (by decide);exact absurd h (by decide +kernel)),if_pos (.inl rfl)]
  exact congrArg (Prod.mk _) (by kernel_rfl)
 show (lstep X 0 (lvf X 0 1) 1).1 = 1
 rw [e1]
 unfold lstep
 rw [h.b1,c1,h.r1,if_neg (by rintro (h | h);exact absurd h (by decide);exact absurd h (by decide +kernel)),if_pos (.inr (.inl (by show cs (2 / 1) 4 < 0;decide +kernel)))]
 rfl
theorem ExX.piv {X X':Nat→RoD} (h:ExX X) (hp:PivR X X' 2 1 0):ExY X':=by
 have c1:lat (X 1).l 0 = 1:=by rw [h.l1];kernel_rfl
 have c0:lat (X 0).l 0 = 1:=by rw [h.l0];kernel_rfl
 obtain ⟨q1,q2,q3,q4⟩:=hp.q 0 (by decide) (by decide)
 have hr:=hp.ri
 rw [c1,h.r1] at hr
 have hl:∀ k,lat (X' 1).l k = lat (X 1).l k * (1:Rat)⁻¹:=fun k=>by rw [hp.li,c1]
 refine ⟨?_,?_,?_,?_,q3.trans h.b0,hp.bi,q4.trans h.t0,hp.ti.trans h.t1⟩
 ·rw [q1,hl,c0,h.l0,h.l1];kernel_rfl
 ·rw [q1,hl,c0,h.l0,h.l1];kernel_rfl
 ·rw [q1,hl,c0,h.l0,h.l1];kernel_rfl
 ·rw [q2,hr,c0,h.r0];kernel_rfl
theorem ExY.rd {X:Nat→RoD} (h:ExY X):rdc X (lco yC 5) 2 3 = 0∧rdc X (lco yC 5) 2 4 = 2:=by
 have e0:(if 0 < 5 then yC 0 else 0) = 0:=by kernel_rfl
 unfold rdc
 rw [rsum_succ _ 1,rsum_succ _ 0,bco_nat (k:=3) h.b0,bco_nat (k:=0) h.b1,rsum_succ _ 1,rsum_succ _ 0,bco_nat (k:=3) h.b0,bco_nat (k:=0) h.b1]
 show latI (lco yC 5) ((3:Nat):Int) - (rsum _ 0 + lat (lco yC 5) 3 * latI (X 0).l ((3:Nat):Int) + lat (lco yC 5) 0 * latI (X 1).l ((3:Nat):Int)) = _∧latI (lco yC 5) ((4:Nat):Int) - (rsum _ 0 + lat (lco yC 5) 3 * latI (X 0).l ((4:Nat):Int) + lat (lco yC 5) 0 * latI (X 1).l ((4:Nat):Int)) = _
 rw [latI_nat,latI_nat,latI_nat,latI_nat,latI_nat,latI_nat,h.a03,h.a04,yC_lat,yC_lat,yC_lat,e0,Rat.zero_mul,Rat.zero_mul]
 exact ⟨by kernel_rfl,by kernel_rfl⟩
theorem ExY.mu {X:Nat→RoD} (h:ExY X):latI (lco yC 5) ((3 + 0:Nat):Int) - rdc X (lco yC 5) 2 ((3 + 0:Nat):Int) = 1∧latI (lco yC 5) ((3 + 1:Nat):Int) - rdc X (lco yC 5) 2 ((3 + 1:Nat):Int) = -1:=by
 obtain ⟨e3,e4⟩:=h.rd
 rw [latI_nat,latI_nat,yC_lat,yC_lat]
 show _ - rdc X (lco yC 5) 2 3 = 1∧_ - rdc X (lco yC 5) 2 4 = -1
 rw [e3,e4]
 exact ⟨by kernel_rfl,by kernel_rfl⟩
theorem ExY.mu0 {X:Nat→RoD} (h:ExY X):bmu X (lco yC 5) 3 2 0 = ((1:Int):Rat):=by
 unfold bmu
 rw [h.mu.1,h.t0]
 kernel_rfl
theorem ExY.mu1 {X:Nat→RoD} (h:ExY X):bmu X (lco yC 5) 3 2 1 = ((1:Int):Rat):=by
 unfold bmu
 rw [h.mu.2,h.t1]
 kernel_rfl
theorem ExY.right {X:Nat→RoD} (h:ExY X):brt X 2 0 = ((2:Int):Rat):=by
 unfold brt
 rw [if_pos (by decide)]
 exact h.r0
theorem ExY.at4 {X:Nat→RoD} (h:ExY X):bat X 2 0 4 = ((-1:Int):Rat):=by
 unfold bat
 rw [if_pos (by decide),show (4:Int) = ((4:Nat):Int) from rfl,latI_nat]
 exact h.a04
theorem ExY.at1 {X:Nat→RoD} (h:ExY X):bat (upR X 0 { X 0 with bas:=-1 }) 2 0 1 = ((2:Int):Rat):=by
 unfold bat
 rw [if_pos (by decide),show (1:Int) = ((1:Nat):Int) from rfl,latI_nat]
 exact h.a01
end Go.Proofs.YtiohbjnflpnfbaaGreatDoor
