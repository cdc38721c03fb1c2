import Derived.Test.YtiohbjnflpnfbaaGreatDoorQ3OAll
import Derived.Test.YtiohbjnflpnfbaaGreatDoorBpE
import Derived.Laws.CopyOwn
namespace Go.Proofs.YtiohbjnflpnfbaaGreatDoor
open Go.RowKit
theorem totB_mono {f g:Nat→Nat}:∀ n,(∀ i,i < n→f i≤g i)→totB f n≤totB g n
 | 0,_=>Nat.le_refl _
 | n + 1,h=>by
  have h1:=totB_mono n fun i hi=>h i (by omega)
  have h2:=h n (by omega)
  show totB f n + f n≤totB g n + g n
  omega
theorem totB_add (f g:Nat→Nat):∀ n,totB (fun i=>f i + g i) n = totB f n + totB g n
 | 0=>rfl
 | n + 1=>by
  have h1:=totB_add f g n
  show totB (fun i=>f i + g i) n + (f n + g n) = totB f n + f n + (totB g n + g n)
  omega
theorem totB_cut (f:Nat→Nat) (k:Nat):∀ n,totB (fun i=>if i < k then f i else 0) n≤totB f k
 | 0=>Nat.zero_le _
 | n + 1=>by
  have h1:=totB_cut f k n
  show totB (fun i=>if i < k then f i else 0) n + (if n < k then f n else 0)≤totB f k
  by_cases h:n < k
  ·rw [if_pos h]
   have e:totB (fun i=>if i < k then f i else 0) n = totB f n:=totB_ext n fun i hi=>if_pos (by omega)
   rw [e]
   exact totB_up (f:=f) (show n + 1≤k by omega)
  ·rw [if_neg h]
   exact h1
theorem totB_pt (v x:Nat):∀ n,totB (fun i=>if i = x then v else 0) n≤v
 | 0=>Nat.zero_le _
 | n + 1=>by
  show totB (fun i=>if i = x then v else 0) n + (if n = x then v else 0)≤v
  by_cases h:n = x
  ·rw [if_pos h]
   have e:totB (fun i=>if i = x then v else 0) n = totB (fun _=>0) n:=totB_ext n fun i hi=>if_neg (by omega)
   have z:∀ k,totB (fun _=>0) k = 0:=fun k=>by
    induction k with
    | zero=>rfl
    | succ k ih=>show totB (fun _=>0) k + 0 = 0;omega
   rw [e,z]
   omega
  ·rw [if_neg h]
   exact totB_pt v x n
theorem szr_dsg {s:Bool} {r:Rat} {K:Nat} (h:SzR r K):SzR (dsg s r) K:=by
 unfold dsg
 split
 ·exact ⟨by rw [Rat.neg_num,Int.natAbs_neg];exact h.1,by rw [Rat.neg_den];exact h.2⟩
 ·exact h
def stz (s:StD) (ZE:Nat→Nat→Nat) (ZB:Nat→Nat) (c r:Nat):Nat:=if TX s.row (s.cn + s.bn) c r = 0 then 0 else if c = s.cn + s.bn then ZB r + 1 else if c = s.cn + r then 2 else ZE r c + 1
theorem stz_ok {s:StD} {ZE:Nat→Nat→Nat} {ZB:Nat→Nat} (hE:∀ r,r < s.bn→∀ c,c < s.k r→SzR (s.E r c) (ZE r c)) (hB:∀ r,r < s.bn→SzR (s.B r) (ZB r)):StZ s (stz s ZE ZB):=by
 intro r hr c hc
 unfold stz
 by_cases h0:TX s.row (s.cn + s.bn) c r = 0
 ·exact .inl ⟨h0,if_pos h0⟩
 ·refine .inr ?_
  rw [if_neg h0]
  have hk:=s.k_le r
  by_cases hN:c = s.cn + s.bn
  ·rw [if_pos hN]
   refine ⟨by omega,?_⟩
   rw [Nat.add_sub_cancel]
   unfold TX
   rw [if_neg (by omega)]
   exact szr_dsg (hB r hr)
  ·rw [if_neg hN]
   have e:TX s.row (s.cn + s.bn) c r = lat (fln (s.t r) (s.E r) (s.k r) (s.cn + r)) c:=if_pos (by omega)
   rw [e,fln_lat _ _ (by omega)] at h0 ⊢
   by_cases hA:c = s.cn + r
   ·rw [if_pos hA,if_pos hA.symm]
    exact ⟨by omega,⟨by decide,by decide⟩⟩
   ·rw [if_neg hA,if_neg (Ne.symm hA)]
    rw [if_neg (Ne.symm hA)] at h0
    by_cases hck:c < s.k r
    ·rw [if_pos hck,Nat.add_sub_cancel]
     exact ⟨by omega,szr_dsg (hE r hr c hck)⟩
    ·rw [if_neg hck] at h0
     exact absurd rfl h0
theorem rws_mono {f g:Nat→Nat}:∀ n k,(∀ r,k≤r→r < k + n→f r≤g r)→rws f n k≤rws g n k
 | 0,_,_=>Nat.le_refl _
 | n + 1,k,h=>by
  have h1:=rws_mono n (k + 1) fun r h1 h2=>h r (by omega) (by omega)
  have h2:=h k (by omega) (by omega)
  show f k + rws f n (k + 1)≤g k + rws g n (k + 1)
  omega
theorem stz_le (s:StD) (ZE:Nat→Nat→Nat) (ZB:Nat→Nat):stK s (stz s ZE ZB)≤rws (fun r=>totB (fun c=>ZE r c + 1) (s.k r) + 2 + (ZB r + 1)) s.bn 0 + 1:=by
 unfold stK
 refine Nat.add_le_add_right (rws_mono _ _ fun r _ hr=>?_) 1
 have hk:=s.k_le r
 have h1:totB (fun c=>stz s ZE ZB c r) (s.cn + s.bn + 1)≤totB (fun c=>(if c < s.k r then ZE r c + 1 else 0) + ((if c = s.cn + r then 2 else 0) + (if c = s.cn + s.bn then ZB r + 1 else 0))) (s.cn + s.bn + 1):=totB_mono _ fun c hc=>by
  unfold stz
  by_cases h0:TX s.row (s.cn + s.bn) c r = 0
  ·rw [if_pos h0];exact Nat.zero_le _
  ·rw [if_neg h0]
   by_cases hN:c = s.cn + s.bn
   ·rw [if_pos hN,if_pos hN];omega
   ·rw [if_neg hN,if_neg hN]
    by_cases hA:c = s.cn + r
    ·rw [if_pos hA,if_pos hA];omega
    ·rw [if_neg hA,if_neg hA]
     have e:TX s.row (s.cn + s.bn) c r = lat (fln (s.t r) (s.E r) (s.k r) (s.cn + r)) c:=if_pos (by omega)
     rw [e,fln_lat _ _ (by omega),if_neg (Ne.symm hA)] at h0
     by_cases hck:c < s.k r
     ·rw [if_pos hck];omega
     ·rw [if_neg hck] at h0
      exact absurd rfl h0
 rw [totB_add,totB_add] at h1
 have h2:=totB_cut (fun c=>ZE r c + 1) (s.k r) (s.cn + s.bn + 1)
 have h3:=totB_pt 2 (s.cn + r) (s.cn + s.bn + 1)
 have h4:=totB_pt (ZB r + 1) (s.cn + s.bn) (s.cn + s.bn + 1)
 omega
theorem csz_lco {Y:Nat→Rat} {ZY:Nat→Nat} {cn KC:Nat} (hY:∀ c,c < cn→SzR (Y c) (ZY c)) (hK:totB (fun c=>ZY c + 1) cn≤KC) (N:Nat):∀ k,k≤cn→CsZ (lco Y k) N KC:=fun k hk=>by
 refine ⟨fun c=>if c < k then ZY c + 1 else 0,fun c _=>?_,?_⟩
 ·rw [lco_lat]
  show (if c < k then Y c else 0) = 0∧(if c < k then ZY c + 1 else 0) = 0∨1≤(if c < k then ZY c + 1 else 0)∧SzR (if c < k then Y c else 0) ((if c < k then ZY c + 1 else 0) - 1)
  by_cases h:c < k
  ·rw [if_pos h,if_pos h,Nat.add_sub_cancel]
   exact .inr ⟨by omega,hY c (by omega)⟩
  ·rw [if_neg h,if_neg h]
   exact .inl ⟨rfl,rfl⟩
 ·exact Nat.le_trans (totB_cut (fun c=>ZY c + 1) k N) (Nat.le_trans (totB_up hk) hK)
theorem exm_std {w w':World} {e:Ending} (h:ExmP w e w'):∃ s:StD,e = .returned (.agg #[.slice s.aa s.an s.ac,.slice s.ba s.bn s.bc,.slice s.ca s.cn s.cc,.bool s.zp,.slice s.za s.zn s.zc,.slice s.zd s.zm s.ze])∧StQ w' s 1∧s.an = 2∧s.bn = 2∧s.cn = 3∧s.rn 0 = 3∧s.rn 1 = 2∧s.E 0 = yA0∧s.E 1 = yA1∧s.B = yB∧Below w.heap.size w w':=by
 obtain ⟨va,vb,vc,rfl,⟨g,s0,s1,rfl,R,h0,h1⟩,hB,hC,hb⟩:=h
 obtain ⟨a0,rfl,l0⟩:=h0.lq
 obtain ⟨a1,rfl,l1⟩:=h1.lq
 obtain ⟨ab,rfl,lb⟩:=hB.lq
 obtain ⟨ac,rfl,_⟩:=hC.lq
 refine ⟨{ aa:=some ⟨g,0,none⟩,an:=2,ac:=2,ba:=ab,bn:=2,bc:=2,ca:=ac,cn:=3,cc:=3,zp:=false,za:=none,zn:=0,zc:=0,zd:=none,zm:=0,ze:=0,ra:=fun i=>if i = 0 then a0 else a1,rn:=fun i=>if i = 0 then 3 else 2,rc:=fun i=>if i = 0 then 3 else 2,E:=fun i=>if i = 0 then yA0 else yA1,B:=yB },rfl,⟨.inr ⟨g,0,rfl,fun i hi=>?_⟩,lb⟩,rfl,rfl,rfl,rfl,rfl,rfl,rfl,rfl,hb⟩
 have hi':i < 2:=hi
 rcases (by omega:i = 0∨i = 1) with rfl | rfl
 ·exact ⟨(R.cell 0).trans rfl,Nat.le_refl _,l0⟩
 ·exact ⟨(R.cell 1).trans rfl,Nat.le_refl _,l1⟩
theorem LQ.uni {w:World} {a:Option Addr} {n:Nat} {X:Nat→Rat} {Z:Nat→Nat} {T:Nat} (h:LQ w a n X Z) (hz:∀ i,i < n→Z i≤T):LQ w a n X (fun _=>T):=by
 rcases h with h0 | ⟨b,o,e,h⟩
 ·exact .inl h0
 ·refine .inr ⟨b,o,e,fun i hi=>?_⟩
  obtain ⟨p,a,na,ca,d,nd,cd,h1,h2,h3,h4⟩:=h i hi
  exact ⟨p,a,na,ca,d,nd,cd,h1,h2,h3,h4.up (hz i hi)⟩
theorem Ply.sumZ {s:StD} {z:Nat→Nat→Nat} (hz:StZ s z) {X:Nat→RoD} {b:Nat→Nat} (h:Ply s X b) {lc:List (Nat × Rat)} {zc:Nat→Nat} (hc:∀ c,c < s.cn + s.bn→lat lc c = 0∧zc c = 0∨1≤zc c∧SzR (lat lc c) (zc c - 1)) {k:Nat} (hk:k≤s.bn):SzR (rsum (bco X lc fun q=>(X q).r) k) (stK s z + totB zc (s.cn + s.bn) + 1):=by
 obtain ⟨N,eN⟩:∃ N,N = s.cn + s.bn:=⟨_,rfl⟩
 rw [← eN] at hc ⊢
 obtain ⟨zz,zz0,zzP,hcom⟩:=h.p.common (N:=N + 1) (fun i hi=>by have:=h.l i hi;omega)
 have hP:=pds_pw (M:=fun r=>hpr (fun c=>TX s.row (s.cn + s.bn) c r) (N + 1)) (s:=fun r=>totB (fun c=>z c r) (N + 1)) s.bn 0 fun r _ hr=>hpr_pw (N + 1) fun c hc=>hz r (by omega) c (by omega)
 obtain ⟨P,eP⟩:∃ P,P = pds (fun r=>hpr (fun c=>TX s.row (s.cn + s.bn) c r) (N + 1)) s.bn 0:=⟨_,rfl⟩
 rw [← eP] at zzP hP
 simp only [← eP] at hcom
 have hP':(P:Int)≤pw (stK s z - 1):=by
  have e:stK s z - 1 = rws (fun r=>totB (fun c=>z c r) (N + 1)) s.bn 0:=by unfold stK;rw [eN];omega
  rw [e]
  exact hP
 obtain ⟨Z,hZ,hZt⟩:=row_whole (fun c=>lat lc c) N
 have hH:=hpr_pw (X:=fun c=>lat lc c) (s:=zc) N hc
 obtain ⟨H,eH⟩:∃ H,H = hpr (fun c=>lat lc c) N:=⟨_,rfl⟩
 have hDH:=dnp_le (fun c=>lat lc c) N
 have hD0:=dnp_ne (fun c=>lat lc c) N
 obtain ⟨D,eD⟩:∃ D,D = dnp (fun c=>lat lc c) N:=⟨_,rfl⟩
 rw [← eH] at hZt hH hDH
 rw [← eD] at hDH hD0
 simp only [← eD] at hZ
 have hsk:∀ q,∃ y:Int,q < s.bn→(X q).r * (zz:Rat) = y∧y.natAbs≤P:=fun q=>by
  by_cases hq:q < s.bn
  ·obtain ⟨y,h1,h2⟩:=hcom N (by omega) q hq
   refine ⟨y,fun _=>⟨?_,h2⟩⟩
   rw [← h1]
   unfold TX
   rw [if_neg (by omega)]
  ·exact ⟨0,fun h=>absurd h hq⟩
 obtain ⟨yq,hyq⟩:=Classical.skolem.1 hsk
 have hzz:((D:Int) * zz) ≠ 0:=Int.mul_ne_zero (by omega) zz0
 have hdd:(((D:Int) * zz:Int):Rat) = (D:Rat) * (zz:Rat):=by rw [Rat.intCast_mul];rfl
 have hrow:∀ q,q < s.bn→bco X lc (fun q=>(X q).r) q * (((D:Int) * zz:Int):Rat) = ((if (X q).bas = -1 then 0 else Z (b q) * yq q:Int):Rat)∧(if (X q).bas = -1 then 0 else Z (b q) * yq q:Int).natAbs≤(fun q=>(Z (b q)).natAbs * P) q:=fun q hq=>by
  by_cases hg:(X q).bas = -1
  ·unfold bco
   rw [if_pos hg,if_pos hg,Rat.zero_mul]
   exact ⟨rfl,Nat.zero_le _⟩
  ·have eb:(X q).bas = (b q:Int):=(h.g q hq).resolve_left hg
   have hbN:b q < N:=by have:=h.l q hq;omega
   obtain ⟨h1,h2⟩:=hyq q hq
   unfold bco
   rw [if_neg hg,if_neg hg,eb]
   simp only [latI_nat]
   refine ⟨?_,?_⟩
   ·rw [hdd,Rat.intCast_mul,← hZ (b q) hbN,← h1]
    grind
   ·rw [Int.natAbs_mul]
    exact Nat.mul_le_mul_left _ h2
 have htot:totB (fun q=>(Z (b q)).natAbs) s.bn≤H:=Nat.le_trans (totB_inj (s:=b) (N:=N) s.bn (fun c=>(Z c).natAbs) (fun i hi=>by have:=h.l i hi;omega) (fun i k hi hk e=>h.p.inj hi hk e)) hZt
 obtain ⟨U,h1,h2⟩:=sum_over (M:=fun q=>(Z (b q)).natAbs * P) k fun q hq=>hrow q (by omega)
 have h2':U.natAbs≤H * P:=by
  refine Nat.le_trans h2 ?_
  rw [totB_scale]
  exact Nat.mul_le_mul_right _ (Nat.le_trans (totB_up hk) htot)
 have hzl:((D:Int) * zz).natAbs≤H * P:=by
  rw [Int.natAbs_mul]
  exact Nat.mul_le_mul (by simpa using hDH) zzP
 have hHP:((H * P:Nat):Int)≤pw (stK s z - 1 + totB zc N):=by
  rw [Nat.mul_comm,pw_add,Int.natCast_mul]
  exact Int.mul_le_mul hP' hH (by omega) (Int.le_of_lt (pw_pos _))
 have h1K:1≤stK s z:=by unfold stK;omega
 have hpp:2 * pw (stK s z - 1 + totB zc N) < pw (stK s z + totB zc N + 1):=by
  have e:stK s z + totB zc N + 1 = stK s z - 1 + totB zc N + 1 + 1:=by omega
  rw [e,pw_succ,pw_succ]
  have:=pw_pos (stK s z - 1 + totB zc N)
  omega
 obtain ⟨h3,h4⟩:=rat_bd h1 hzz
 have:=pw_pos (stK s z - 1 + totB zc N)
 exact ⟨by omega,by omega⟩
theorem Gam.wz {w:World} {F:Nat} {f:Bf} {s:StD} {X:Nat→RoD} {b:Nat→Nat} {lc:List (Nat × Rat)} {K KC:Nat} (G:Gam w F f s X b lc K KC) (Z:GmZ s K KC):∀ k,k≤f.m→SzR (rsum (bco X lc fun q=>(X q).r) k) (K + KC + 1):=fun k hk=>by
 obtain ⟨z,hz,hK⟩:=Z.z
 obtain ⟨zc,hc,hKC⟩:=G.c
 rw [G.m] at hk
 exact SzR.le (G.p.sumZ hz hc hk) (by omega)
theorem sgn_le {r:Rat}:r.num.sign≤0↔¬ 0 < r:=by
 have e:0 < r↔0 < r.num:=by rw [Rat.lt_iff];show (0:Int) * (r.den:Int) < r.num * ((1:Nat):Int)↔_;omega
 rw [e]
 have h1:=Int.sign_pos_iff (x:=r.num)
 constructor
 ·intro h h2
  have:=h1.2 h2
  omega
 ·intro h
  have:¬ 0 < r.num.sign:=fun h2=>h (h1.1 h2)
  omega
theorem sgn_nn {r:Rat}:¬ r.num.sign < 0↔0≤r:=by
 rw [← Rat.num_nonneg]
 have h1:=Int.sign_neg_iff (x:=r.num)
 constructor
 ·intro h
  have:¬ r.num < 0:=fun h2=>h (h1.2 h2)
  omega
 ·intro h h2
  have:=h1.1 h2
  omega
theorem lvf_succ (X:Nat→RoD) (j:Int) (q:Nat):lvf X j (q + 1) = lstep X j (lvf X j q) q:=rfl
theorem lvf_none {X:Nat→RoD} {j:Int}:∀ m,(lvf X j m).1 = -1→∀ q,q < m→(X q).bas ≠ -1→¬ 0 < latI (X q).l j
 | 0,_,q,hq,_=>absurd hq (Nat.not_lt_zero _)
 | m + 1,h,q,hq,hb=>by
  rw [lvf_succ] at h
  unfold lstep at h
  by_cases c1:(X m).bas = -1∨(latI (X m).l j).num.sign≤0
  ·rw [if_pos c1] at h
   by_cases e:q = m
   ·subst e
    exact sgn_le.1 (c1.resolve_left hb)
   ·exact lvf_none m h q (by omega) hb
  ·rw [if_neg c1] at h
   by_cases c2:(lvf X j m).1 = -1∨cs ((X m).r / latI (X m).l j) (lvf X j m).2 < 0∨cs ((X m).r / latI (X m).l j) (lvf X j m).2 = 0∧(X m).bas < (X (lvf X j m).1.toNat).bas
   ·rw [if_pos c2] at h
    have h':(m:Int) = -1:=h
    omega
   ·rw [if_neg c2] at h
    exact absurd (.inl h) c2
theorem lvf_some {X:Nat→RoD} {j:Int}:∀ m,(lvf X j m).1 ≠ -1→∃ q,q < m∧(lvf X j m).1 = (q:Int)∧(X q).bas ≠ -1∧0 < latI (X q).l j∧(lvf X j m).2 = (X q).r / latI (X q).l j∧∀ p,p < m→(X p).bas ≠ -1→0 < latI (X p).l j→(lvf X j m).2≤(X p).r / latI (X p).l j
 | 0,h=>absurd rfl h
 | m + 1,h=>by
  rw [lvf_succ] at h ⊢
  unfold lstep at h ⊢
  by_cases c1:(X m).bas = -1∨(latI (X m).l j).num.sign≤0
  ·rw [if_pos c1] at h ⊢
   obtain ⟨q,h1,h2,h3,h4,h5,h6⟩:=lvf_some m h
   refine ⟨q,by omega,h2,h3,h4,h5,fun p hp hb ha=>?_⟩
   by_cases e:p = m
   ·subst e
    exact absurd ha (sgn_le.1 (c1.resolve_left hb))
   ·exact h6 p (by omega) hb ha
  ·rw [if_neg c1] at h ⊢
   have cb:(X m).bas ≠ -1:=fun e=>c1 (.inl e)
   have ca:0 < latI (X m).l j:=Classical.byContradiction fun e=>c1 (.inr (sgn_le.2 e))
   by_cases c2:(lvf X j m).1 = -1∨cs ((X m).r / latI (X m).l j) (lvf X j m).2 < 0∨cs ((X m).r / latI (X m).l j) (lvf X j m).2 = 0∧(X m).bas < (X (lvf X j m).1.toNat).bas
   ·rw [if_pos c2]
    refine ⟨m,by omega,rfl,cb,ca,rfl,fun p hp hb ha=>?_⟩
    show (X m).r / latI (X m).l j≤_
    by_cases e:p = m
    ·subst e
     exact Rat.le_refl
    ·by_cases e1:(lvf X j m).1 = -1
     ·exact absurd ha (lvf_none m e1 p (by omega) hb)
     ·obtain ⟨_,_,_,_,_,_,h6⟩:=lvf_some m e1
      have h7:=h6 p (by omega) hb ha
      rcases c2.resolve_left e1 with h8 | ⟨h8,_⟩
      ·have:=cs_lt_iff.1 h8
       grind
      ·have h9:¬ (lvf X j m).2 < (X m).r / latI (X m).l j:=fun h=>by have:=cs_gt_iff.2 h;omega
       grind
   ·rw [if_neg c2] at h ⊢
    obtain ⟨q,h1,h2,h3,h4,h5,h6⟩:=lvf_some m h
    refine ⟨q,by omega,h2,h3,h4,h5,fun p hp hb ha=>?_⟩
    by_cases e:p = m
    ·subst e
     have h9:¬ (X p).r / latI (X p).l j < (lvf X j p).2:=fun h=>c2 (.inr (.inl (cs_lt_iff.2 h)))
     grind
    ·exact h6 p (by omega) hb ha
theorem div_mulR {a r:Rat} (ha:0 < a):r / a * a = r:=Rat.div_mul_cancel (fun e=>by rw [e] at ha;exact absurd ha (by decide))
theorem piv_nn {X X':Nat→RoD} {m i c:Nat} (hr:∀ q,q < m→(X q).bas ≠ -1→0≤(X q).r) (hp:PivR X X' m i c) (hi:i < m) (hb:(X i).bas ≠ -1) (ha:0 < lat (X i).l c) (hm:∀ p,p < m→(X p).bas ≠ -1→0 < lat (X p).l c→(X i).r / lat (X i).l c≤(X p).r / lat (X p).l c) {q:Nat} (hq:q < m) (hqb:(X q).bas ≠ -1):0≤(X' q).r:=by
 have e1:(X' i).r = (X i).r / lat (X i).l c:=by rw [hp.ri,Rat.div_def]
 have h0:0≤(X' i).r:=by
  rw [hp.ri]
  exact Rat.mul_nonneg (hr i hi hb) (Rat.le_of_lt (Rat.inv_pos.2 ha))
 by_cases e:q = i
 ·subst e;exact h0
 ·obtain ⟨_,q2,_,_⟩:=hp.q q hq e
  rw [q2]
  have hq0:=hr q hq hqb
  by_cases hc:0 < lat (X q).l c
  ·have h1:=hm q hq hqb hc
   rw [← e1] at h1
   have h2:=Rat.mul_le_mul_of_nonneg_right h1 (Rat.le_of_lt hc)
   rw [div_mulR hc] at h2
   generalize (X' i).r * lat (X q).l c = x at *
   grind
  ·have h2:(X' i).r * lat (X q).l c≤(X' i).r * 0:=Rat.mul_le_mul_of_nonneg_left (by grind) h0
   rw [Rat.mul_zero] at h2
   generalize (X' i).r * lat (X q).l c = x at *
   grind
theorem rsum_at (v:Rat) {i:Nat}:∀ m,rsum (fun q=>if q = i then v else 0) m = if i < m then v else 0
 | 0=>rfl
 | m + 1=>by
  rw [rsum_succ,rsum_at v m]
  by_cases h:i < m
  ·rw [if_pos h,if_neg (by omega),if_pos (by omega),Rat.add_zero]
  ·rw [if_neg h]
   by_cases e:m = i
   ·rw [if_pos e,if_pos (by omega),Rat.zero_add]
   ·rw [if_neg e,if_neg (by omega),Rat.add_zero]
theorem rsum_lin (X Y Z:Nat→Rat) (c:Rat):∀ m,rsum (fun q=>X q + c * (Y q - Z q)) m = rsum X m + c * (rsum Y m - rsum Z m)
 | 0=>by show (0:Rat) = 0 + c * (0 - 0);grind
 | m + 1=>by
  rw [rsum_succ,rsum_succ,rsum_succ,rsum_succ,rsum_lin X Y Z c m]
  generalize rsum X m = a
  generalize rsum Y m = b
  generalize rsum Z m = d
  generalize X m = x
  generalize Y m = y
  generalize Z m = z
  grind
theorem piv_wor {X X':Nat→RoD} {m i c:Nat} (lc:List (Nat × Rat)) (hp:PivR X X' m i c) (hi:i < m) (hb:(X i).bas ≠ -1) (ha:lat (X i).l c ≠ 0):rsum (bco X' lc fun q=>(X' q).r) m = rsum (bco X lc fun q=>(X q).r) m + rdc X lc m (c:Int) * ((X i).r / lat (X i).l c):=by
 have e1:(X' i).r = (X i).r / lat (X i).l c:=by rw [hp.ri,Rat.div_def]
 obtain ⟨t,et⟩:∃ t,t = (X i).r / lat (X i).l c:=⟨_,rfl⟩
 have er:(X i).r = t * lat (X i).l c:=by rw [et,Rat.div_mul_cancel ha]
 rw [← et] at e1 ⊢
 have key:∀ q,q < m→bco X' lc (fun q=>(X' q).r) q = bco X lc (fun q=>(X q).r) q + t * ((if q = i then latI lc (c:Int) else 0) - bco X lc (fun q=>latI (X q).l (c:Int)) q):=fun q hq=>by
  by_cases e:q = i
  ·subst e
   rw [if_pos rfl]
   unfold bco
   rw [hp.bi,if_neg (by omega),if_neg hb,if_neg hb]
   simp only [latI_nat]
   rw [e1,er]
   generalize latI lc (X q).bas = x1
   generalize lat lc c = x2
   generalize lat (X q).l c = x3
   grind
  ·obtain ⟨_,q2,q3,_⟩:=hp.q q hq e
   rw [if_neg e]
   unfold bco
   rw [q3]
   by_cases g:(X q).bas = -1
   ·rw [if_pos g,if_pos g,if_pos g];grind
   ·rw [if_neg g,if_neg g,if_neg g]
    simp only [latI_nat]
    rw [q2,e1]
    generalize latI lc (X q).bas = x1
    generalize lat (X q).l c = x2
    generalize (X q).r = x3
    grind
 rw [rsum_congr key,rsum_lin,rsum_at,if_pos hi]
 unfold rdc
 generalize rsum (bco X lc fun q=>(X q).r) m = x1
 generalize latI lc (c:Int) - rsum (bco X lc fun q=>latI (X q).l (c:Int)) m = x2
 grind
end Go.Proofs.YtiohbjnflpnfbaaGreatDoor
