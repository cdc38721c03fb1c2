import Derived.Test.YtmpkgpilfcbdnaaGreatDoorBpFAll
namespace Go.Proofs.YtmpkgpilfcbdnaaGreatDoor
open Go.RowKit
def SmR (X Y:Nat→RoD) (m:Nat):Prop:=∀ q,q < m→(∀ c,lat (X q).l c = lat (Y q).l c)∧(X q).r = (Y q).r∧(X q).bas = (Y q).bas
theorem SmR.of {X Y:Nat→RoD} {m:Nat} (h:∀ q,q < m→X q = Y q):SmR X Y m:=fun q hq=>by rw [h q hq];exact ⟨fun _=>rfl,rfl,rfl⟩
theorem SmR.latI {X Y:Nat→RoD} {m:Nat} (h:SmR X Y m) {q:Nat} (hq:q < m) (j:Int):latI (X q).l j = Go.Proofs.YtmpkgpilfcbdnaaGreatDoor.latI (Y q).l j:=by
 unfold Go.Proofs.YtmpkgpilfcbdnaaGreatDoor.latI
 rw [(h q hq).1]
theorem SmR.at {X Y:Nat→RoD} {m:Nat} (h:SmR X Y m) (i j:Int):bat X m i j = bat Y m i j:=by
 unfold bat
 by_cases hi:0≤i∧i < (m:Int)
 ·rw [if_pos hi,if_pos hi]
  exact h.latI (by omega) j
 ·rw [if_neg hi,if_neg hi]
theorem SmR.rt {X Y:Nat→RoD} {m:Nat} (h:SmR X Y m) (i:Int):brt X m i = brt Y m i:=by
 unfold brt
 by_cases hi:0≤i∧i < (m:Int)
 ·rw [if_pos hi,if_pos hi]
  exact (h _ (by omega)).2.1
 ·rw [if_neg hi,if_neg hi]
theorem SmR.wor {X Y:Nat→RoD} {m:Nat} (h:SmR X Y m) (lc:List (Nat × Rat)) {k:Nat} (hk:k≤m):rsum (bco X lc fun q=>(X q).r) k = rsum (bco Y lc fun q=>(Y q).r) k:=rsum_congr fun i hi=>by
 obtain ⟨_,h2,h3⟩:=h i (by omega)
 unfold bco
 rw [h3]
 show (if (Y i).bas = -1 then 0 else Go.Proofs.YtmpkgpilfcbdnaaGreatDoor.latI lc (Y i).bas * (X i).r) = (if (Y i).bas = -1 then 0 else Go.Proofs.YtmpkgpilfcbdnaaGreatDoor.latI lc (Y i).bas * (Y i).r)
 rw [h2]
theorem Ply.inv {s:StD} {X X1:Nat→RoD} {b:Nat→Nat} (h:Ply s X b) {i c:Nat} (hi:i < s.bn) (p1:PivR X X1 s.bn i c):lat (X1 i).l (b i) = (lat (X i).l c)⁻¹:=by
 rw [p1.li,h.unit hi hi,if_pos rfl,Rat.one_mul]
theorem Ply.back {s:StD} {X X1 X2:Nat→RoD} {b:Nat→Nat} (h:Ply s X b) {i c:Nat} (hi:i < s.bn) (hb:(X i).bas ≠ -1) (h0:lat (X i).l c ≠ 0) (p1:PivR X X1 s.bn i c) (p2:PivR X1 X2 s.bn i (b i)):SmR X2 X s.bn:=by
 have e1:=h.inv hi p1
 obtain ⟨a,ea⟩:∃ a,a = lat (X i).l c:=⟨_,rfl⟩
 rw [← ea] at e1 h0
 have ha:a⁻¹ * (a⁻¹)⁻¹ = 1:=Rat.mul_inv_cancel _ (fun h=>h0 (by rw [← Rat.inv_inv a,h,Rat.inv_zero]))
 have hl:∀ k,lat (X2 i).l k = lat (X i).l k:=fun k=>by
  rw [p2.li,e1,p1.li,← ea,Rat.mul_assoc,ha,Rat.mul_one]
 have hr:(X2 i).r = (X i).r:=by
  rw [p2.ri,e1,p1.ri,← ea,Rat.mul_assoc,ha,Rat.mul_one]
 intro q hq
 by_cases e:q = i
 ·subst e
  exact ⟨hl,hr,p2.bi.trans ((h.g q hq).resolve_left hb).symm⟩
 ·obtain ⟨q1,q2,q3,_⟩:=p1.q q hq e
  obtain ⟨k1,k2,k3,_⟩:=p2.q q hq e
  have hu:lat (X q).l (b i) = 0:=by rw [h.unit hi hq,if_neg e]
  have hx:lat (X1 q).l (b i) = -(lat (X q).l c * a⁻¹):=by
   rw [q1,hu,e1,Rat.sub_eq_add_neg,Rat.zero_add]
  refine ⟨fun k=>?_,?_,k3.trans q3⟩
  ·rw [k1,hx,hl,q1,p1.li,← ea]
   generalize lat (X q).l k = x1
   generalize lat (X q).l c = x2
   generalize lat (X i).l k = x3
   generalize a⁻¹ = x4
   grind
  ·rw [k2,hx,hr,q2,p1.ri,← ea]
   generalize (X q).r = x1
   generalize lat (X q).l c = x2
   generalize (X i).r = x3
   generalize a⁻¹ = x4
   grind
theorem Ply.sumZ {s:StD} {z:Nat→Nat→Nat} (hz:StZ s z) {X:Nat→RoD} {b:Nat→Nat} (h:Ply s X b) {lc:List (Nat × Rat)} {zc:Nat→Nat} (hc:∀ c,c < s.cn + s.bn→lat lc c = 0∧zc c = 0∨1≤zc c∧SzR (lat lc c) (zc c - 1)) {k:Nat} (hk:k≤s.bn):SzR (rsum (bco X lc fun q=>(X q).r) k) (stK s z + totB zc (s.cn + s.bn) + 1):=by
 obtain ⟨N,eN⟩:∃ N,N = s.cn + s.bn:=⟨_,rfl⟩
 rw [← eN] at hc ⊢
 obtain ⟨zz,zz0,zzP,hcom⟩:=h.p.common (N:=N + 1) (fun i hi=>by have:=h.l i hi;omega)
 have hP:=pds_pw (M:=fun r=>hpr (fun c=>TX s.row (s.cn + s.bn) c r) (N + 1)) (s:=fun r=>totB (fun c=>z c r) (N + 1)) s.bn 0 fun r _ hr=>hpr_pw (N + 1) fun c hc=>hz r (by omega) c (by omega)
 obtain ⟨P,eP⟩:∃ P,P = pds (fun r=>hpr (fun c=>TX s.row (s.cn + s.bn) c r) (N + 1)) s.bn 0:=⟨_,rfl⟩
 rw [← eP] at zzP hP
 simp only [← eP] at hcom
 have hP':(P:Int)≤pw (stK s z - 1):=by
  have e:stK s z - 1 = rws (fun r=>totB (fun c=>z c r) (N + 1)) s.bn 0:=by unfold stK;rw [eN];omega
  rw [e]
  exact hP
 obtain ⟨Z,hZ,hZt⟩:=row_whole (fun c=>lat lc c) N
 have hH:=hpr_pw (X:=fun c=>lat lc c) (s:=zc) N hc
 obtain ⟨H,eH⟩:∃ H,H = hpr (fun c=>lat lc c) N:=⟨_,rfl⟩
 have hDH:=dnp_le (fun c=>lat lc c) N
 have hD0:=dnp_ne (fun c=>lat lc c) N
 obtain ⟨D,eD⟩:∃ D,D = dnp (fun c=>lat lc c) N:=⟨_,rfl⟩
 rw [← eH] at hZt hH hDH
 rw [← eD] at hDH hD0
 simp only [← eD] at hZ
 have hsk:∀ q,∃ y:Int,q < s.bn→(X q).r * (zz:Rat) = y∧y.natAbs≤P:=fun q=>by
  by_cases hq:q < s.bn
  ·obtain ⟨y,h1,h2⟩:=hcom N (by omega) q hq
   refine ⟨y,fun _=>⟨?_,h2⟩⟩
   rw [← h1]
   unfold TX
   rw [if_neg (by omega)]
  ·exact ⟨0,fun h=>absurd h hq⟩
 obtain ⟨yq,hyq⟩:=Classical.skolem.1 hsk
 have hzz:((D:Int) * zz) ≠ 0:=Int.mul_ne_zero (by omega) zz0
 have hdd:(((D:Int) * zz:Int):Rat) = (D:Rat) * (zz:Rat):=by rw [Rat.intCast_mul];rfl
 have hrow:∀ q,q < s.bn→bco X lc (fun q=>(X q).r) q * (((D:Int) * zz:Int):Rat) = ((if (X q).bas = -1 then 0 else Z (b q) * yq q:Int):Rat)∧(if (X q).bas = -1 then 0 else Z (b q) * yq q:Int).natAbs≤(fun q=>(Z (b q)).natAbs * P) q:=fun q hq=>by
  by_cases hg:(X q).bas = -1
  ·unfold bco
   rw [if_pos hg,if_pos hg,Rat.zero_mul]
   exact ⟨rfl,Nat.zero_le _⟩
  ·have eb:(X q).bas = (b q:Int):=(h.g q hq).resolve_left hg
   have hbN:b q < N:=by have:=h.l q hq;omega
   obtain ⟨h1,h2⟩:=hyq q hq
   unfold bco
   rw [if_neg hg,if_neg hg,eb]
   simp only [latI_nat]
   refine ⟨?_,?_⟩
   ·rw [hdd,Rat.intCast_mul,← hZ (b q) hbN,← h1]
    grind
   ·rw [Int.natAbs_mul]
    exact Nat.mul_le_mul_left _ h2
 have htot:totB (fun q=>(Z (b q)).natAbs) s.bn≤H:=Nat.le_trans (totB_inj (s:=b) (N:=N) s.bn (fun c=>(Z c).natAbs) (fun i hi=>by have:=h.l i hi;omega) (fun i k hi hk e=>h.p.inj hi hk e)) hZt
 obtain ⟨U,h1,h2⟩:=sum_over (M:=fun q=>(Z (b q)).natAbs * P) k fun q hq=>hrow q (by omega)
 have h2':U.natAbs≤H * P:=by
  refine Nat.le_trans h2 ?_
  rw [totB_scale]
  exact Nat.mul_le_mul_right _ (Nat.le_trans (totB_up hk) htot)
 have hzl:((D:Int) * zz).natAbs≤H * P:=by
  rw [Int.natAbs_mul]
  exact Nat.mul_le_mul (by simpa using hDH) zzP
 have hHP:((H * P:Nat):Int)≤pw (stK s z - 1 + totB zc N):=by
  rw [Nat.mul_comm,pw_add,Int.natCast_mul]
  exact Int.mul_le_mul hP' hH (by omega) (Int.le_of_lt (pw_pos _))
 have h1K:1≤stK s z:=by unfold stK;omega
 have hpp:2 * pw (stK s z - 1 + totB zc N) < pw (stK s z + totB zc N + 1):=by
  have e:stK s z + totB zc N + 1 = stK s z - 1 + totB zc N + 1 + 1:=by omega
  rw [e,pw_succ,pw_succ]
  have:=pw_pos (stK s z - 1 + totB zc N)
  omega
 obtain ⟨h3,h4⟩:=rat_bd h1 hzz
 have:=pw_pos (stK s z - 1 + totB zc N)
 exact ⟨by omega,by omega⟩
theorem Gam.wz {w:World} {F:Nat} {f:Bf} {s:StD} {X:Nat→RoD} {b:Nat→Nat} {lc:List (Nat × Rat)} {K KC:Nat} (G:Gam w F f s X b lc K KC) (Z:GmZ s K KC):∀ k,k≤f.m→SzR (rsum (bco X lc fun q=>(X q).r) k) (K + KC + 1):=fun k hk=>by
 obtain ⟨z,hz,hK⟩:=Z.z
 obtain ⟨zc,hc,hKC⟩:=G.c
 rw [G.m] at hk
 exact SzR.le (G.p.sumZ hz hc hk) (by omega)
theorem sgn_le {r:Rat}:r.num.sign≤0↔¬ 0 < r:=by
 have e:0 < r↔0 < r.num:=by rw [Rat.lt_iff];show (0:Int) * (r.den:Int) < r.num * ((1:Nat):Int)↔_;omega
 rw [e]
 have h1:=Int.sign_pos_iff (x:=r.num)
 constructor
 ·intro h h2
  have:=h1.2 h2
  omega
 ·intro h
  have:¬ 0 < r.num.sign:=fun h2=>h (h1.1 h2)
  omega
theorem sgn_nn {r:Rat}:¬ r.num.sign < 0↔0≤r:=by
 rw [← Rat.num_nonneg]
 have h1:=Int.sign_neg_iff (x:=r.num)
 constructor
 ·intro h
  have:¬ r.num < 0:=fun h2=>h (h1.2 h2)
  omega
 ·intro h h2
  have:=h1.1 h2
  omega
theorem lvf_succ (X:Nat→RoD) (j:Int) (q:Nat):lvf X j (q + 1) = lstep X j (lvf X j q) q:=rfl
theorem lvf_none {X:Nat→RoD} {j:Int}:∀ m,(lvf X j m).1 = -1→∀ q,q < m→(X q).bas ≠ -1→¬ 0 < latI (X q).l j
 | 0,_,q,hq,_=>absurd hq (Nat.not_lt_zero _)
 | m + 1,h,q,hq,hb=>by
  rw [lvf_succ] at h
  unfold lstep at h
  by_cases c1:(X m).bas = -1∨(latI (X m).l j).num.sign≤0
  ·rw [if_pos c1] at h
   by_cases e:q = m
   ·subst e
    exact sgn_le.1 (c1.resolve_left hb)
   ·exact lvf_none m h q (by omega) hb
  ·rw [if_neg c1] at h
   by_cases c2:(lvf X j m).1 = -1∨cs ((X m).r / latI (X m).l j) (lvf X j m).2 < 0∨cs ((X m).r / latI (X m).l j) (lvf X j m).2 = 0∧(X m).bas < (X (lvf X j m).1.toNat).bas
   ·rw [if_pos c2] at h
    have h':(m:Int) = -1:=h
    omega
   ·rw [if_neg c2] at h
    exact absurd (.inl h) c2
theorem lvf_some {X:Nat→RoD} {j:Int}:∀ m,(lvf X j m).1 ≠ -1→∃ q,q < m∧(lvf X j m).1 = (q:Int)∧(X q).bas ≠ -1∧0 < latI (X q).l j∧(lvf X j m).2 = (X q).r / latI (X q).l j∧∀ p,p < m→(X p).bas ≠ -1→0 < latI (X p).l j→(lvf X j m).2≤(X p).r / latI (X p).l j
 | 0,h=>absurd rfl h
 | m + 1,h=>by
  rw [lvf_succ] at h ⊢
  unfold lstep at h ⊢
  by_cases c1:(X m).bas = -1∨(latI (X m).l j).num.sign≤0
  ·rw [if_pos c1] at h ⊢
   obtain ⟨q,h1,h2,h3,h4,h5,h6⟩:=lvf_some m h
   refine ⟨q,by omega,h2,h3,h4,h5,fun p hp hb ha=>?_⟩
   by_cases e:p = m
   ·subst e
    exact absurd ha (sgn_le.1 (c1.resolve_left hb))
   ·exact h6 p (by omega) hb ha
  ·rw [if_neg c1] at h ⊢
   have cb:(X m).bas ≠ -1:=fun e=>c1 (.inl e)
   have ca:0 < latI (X m).l j:=Classical.byContradiction fun e=>c1 (.inr (sgn_le.2 e))
   by_cases c2:(lvf X j m).1 = -1∨cs ((X m).r / latI (X m).l j) (lvf X j m).2 < 0∨cs ((X m).r / latI (X m).l j) (lvf X j m).2 = 0∧(X m).bas < (X (lvf X j m).1.toNat).bas
   ·rw [if_pos c2]
    refine ⟨m,by omega,rfl,cb,ca,rfl,fun p hp hb ha=>?_⟩
    show (X m).r / latI (X m).l j≤_
    by_cases e:p = m
    ·subst e
     exact Rat.le_refl
    ·by_cases e1:(lvf X j m).1 = -1
     ·exact absurd ha (lvf_none m e1 p (by omega) hb)
     ·obtain ⟨_,_,_,_,_,_,h6⟩:=lvf_some m e1
      have h7:=h6 p (by omega) hb ha
      rcases c2.resolve_left e1 with h8 | ⟨h8,_⟩
      ·have:=cs_lt_iff.1 h8
       grind
      ·have h9:¬ (lvf X j m).2 < (X m).r / latI (X m).l j:=fun h=>by have:=cs_gt_iff.2 h;omega
       grind
   ·rw [if_neg c2] at h ⊢
    obtain ⟨q,h1,h2,h3,h4,h5,h6⟩:=lvf_some m h
    refine ⟨q,by omega,h2,h3,h4,h5,fun p hp hb ha=>?_⟩
    by_cases e:p = m
    ·subst e
     have h9:¬ (X p).r / latI (X p).l j < (lvf X j p).2:=fun h=>c2 (.inr (.inl (cs_lt_iff.2 h)))
     grind
    ·exact h6 p (by omega) hb ha
theorem div_mulR {a r:Rat} (ha:0 < a):r / a * a = r:=Rat.div_mul_cancel (fun e=>by rw [e] at ha;exact absurd ha (by decide))
theorem piv_nn {X X':Nat→RoD} {m i c:Nat} (hr:∀ q,q < m→(X q).bas ≠ -1→0≤(X q).r) (hp:PivR X X' m i c) (hi:i < m) (hb:(X i).bas ≠ -1) (ha:0 < lat (X i).l c) (hm:∀ p,p < m→(X p).bas ≠ -1→0 < lat (X p).l c→(X i).r / lat (X i).l c≤(X p).r / lat (X p).l c) {q:Nat} (hq:q < m) (hqb:(X q).bas ≠ -1):0≤(X' q).r:=by
 have e1:(X' i).r = (X i).r / lat (X i).l c:=by rw [hp.ri,Rat.div_def]
 have h0:0≤(X' i).r:=by
  rw [hp.ri]
  exact Rat.mul_nonneg (hr i hi hb) (Rat.le_of_lt (Rat.inv_pos.2 ha))
 by_cases e:q = i
 ·subst e;exact h0
 ·obtain ⟨_,q2,_,_⟩:=hp.q q hq e
  rw [q2]
  have hq0:=hr q hq hqb
  by_cases hc:0 < lat (X q).l c
  ·have h1:=hm q hq hqb hc
   rw [← e1] at h1
   have h2:=Rat.mul_le_mul_of_nonneg_right h1 (Rat.le_of_lt hc)
   rw [div_mulR hc] at h2
   generalize (X' i).r * lat (X q).l c = x at *
   grind
  ·have h2:(X' i).r * lat (X q).l c≤(X' i).r * 0:=Rat.mul_le_mul_of_nonneg_left (by grind) h0
   rw [Rat.mul_zero] at h2
   generalize (X' i).r * lat (X q).l c = x at *
   grind
theorem rsum_at (v:Rat) {i:Nat}:∀ m,rsum (fun q=>if q = i then v else 0) m = if i < m then v else 0
 | 0=>rfl
 | m + 1=>by
  rw [rsum_succ,rsum_at v m]
  by_cases h:i < m
  ·rw [if_pos h,if_neg (by omega),if_pos (by omega),Rat.add_zero]
  ·rw [if_neg h]
   by_cases e:m = i
   ·rw [if_pos e,if_pos (by omega),Rat.zero_add]
   ·rw [if_neg e,if_neg (by omega),Rat.add_zero]
theorem rsum_lin (X Y Z:Nat→Rat) (c:Rat):∀ m,rsum (fun q=>X q + c * (Y q - Z q)) m = rsum X m + c * (rsum Y m - rsum Z m)
 | 0=>by show (0:Rat) = 0 + c * (0 - 0);grind
 | m + 1=>by
  rw [rsum_succ,rsum_succ,rsum_succ,rsum_succ,rsum_lin X Y Z c m]
  generalize rsum X m = a
  generalize rsum Y m = b
  generalize rsum Z m = d
  generalize X m = x
  generalize Y m = y
  generalize Z m = z
  grind
theorem piv_wor {X X':Nat→RoD} {m i c:Nat} (lc:List (Nat × Rat)) (hp:PivR X X' m i c) (hi:i < m) (hb:(X i).bas ≠ -1) (ha:lat (X i).l c ≠ 0):rsum (bco X' lc fun q=>(X' q).r) m = rsum (bco X lc fun q=>(X q).r) m + rdc X lc m (c:Int) * ((X i).r / lat (X i).l c):=by
 have e1:(X' i).r = (X i).r / lat (X i).l c:=by rw [hp.ri,Rat.div_def]
 obtain ⟨t,et⟩:∃ t,t = (X i).r / lat (X i).l c:=⟨_,rfl⟩
 have er:(X i).r = t * lat (X i).l c:=by rw [et,Rat.div_mul_cancel ha]
 rw [← et] at e1 ⊢
 have key:∀ q,q < m→bco X' lc (fun q=>(X' q).r) q = bco X lc (fun q=>(X q).r) q + t * ((if q = i then latI lc (c:Int) else 0) - bco X lc (fun q=>latI (X q).l (c:Int)) q):=fun q hq=>by
  by_cases e:q = i
  ·subst e
   rw [if_pos rfl]
   unfold bco
   rw [hp.bi,if_neg (by omega),if_neg hb,if_neg hb]
   simp only [latI_nat]
   rw [e1,er]
   generalize latI lc (X q).bas = x1
   generalize lat lc c = x2
   generalize lat (X q).l c = x3
   grind
  ·obtain ⟨_,q2,q3,_⟩:=hp.q q hq e
   rw [if_neg e]
   unfold bco
   rw [q3]
   by_cases g:(X q).bas = -1
   ·rw [if_pos g,if_pos g,if_pos g];grind
   ·rw [if_neg g,if_neg g,if_neg g]
    simp only [latI_nat]
    rw [q2,e1]
    generalize latI lc (X q).bas = x1
    generalize lat (X q).l c = x2
    generalize (X q).r = x3
    grind
 rw [rsum_congr key,rsum_lin,rsum_at,if_pos hi]
 unfold rdc
 generalize rsum (bco X lc fun q=>(X q).r) m = x1
 generalize latI lc (c:Int) - rsum (bco X lc fun q=>latI (X q).l (c:Int)) m = x2
 grind
theorem rsum_swp (f:Nat→Nat→Rat) (n:Nat):∀ m,rsum (fun j=>rsum (fun i=>f i j) m) n = rsum (fun i=>rsum (fun j=>f i j) n) m
 | 0=>rsum_zrB n fun _ _=>rfl
 | m + 1=>by
  rw [rsum_succ,← rsum_swp f n m,← rsum_add]
  exact rsum_congr fun _ _=>rsum_succ _ _
theorem Pvt.uniq {n:Nat} {A T:Nat→Nat→Rat} {b:Nat→Nat} (h:Pvt n A T b) {x y:Nat→Rat} (e:∀ r,r < n→rsum (fun i=>x i * A (b i) r) n = rsum (fun i=>y i * A (b i) r) n) {i:Nat} (hi:i < n):x i = y i:=by
 have e1:=cramer (n:=n) (k:=0) (C:=fun i=>A (b i)) (x:=x) (v:=fun r=>rsum (fun i=>x i * A (b i) r) n) hi fun r _ _=>rfl
 have e2:=cramer (n:=n) (k:=0) (C:=fun i=>A (b i)) (x:=y) (v:=fun r=>rsum (fun i=>x i * A (b i) r) n) hi fun r _ hr=>e r (by omega)
 have e3:(x i - y i) * dtm n 0 (fun i=>A (b i)) = 0:=by
  rw [e1] at e2
  generalize dtm n 0 (fun i=>A (b i)) = d at *
  grind
 rcases Rat.mul_eq_zero.1 e3 with h1 | h1
 ·grind
 ·exact absurd h1 h.ne
theorem Pvt.lin {n:Nat} {A T:Nat→Nat→Rat} {b a:Nat→Nat} (h:Pvt n A T b) (ha:∀ k,k < n→∀ r,r < n→A (a k) r = if r = k then 1 else 0) (c:Nat) {i:Nat} (hi:i < n):T c i = rsum (fun k=>T (a k) i * A c k) n:=by
 refine h.uniq (x:=T c) (y:=fun i=>rsum (fun k=>T (a k) i * A c k) n) (fun r hr=>?_) hi
 rw [← h.comb c r hr]
 have e:rsum (fun i=>rsum (fun k=>T (a k) i * A c k) n * A (b i) r) n = rsum (fun i=>rsum (fun k=>A c k * (T (a k) i * A (b i) r)) n) n:=rsum_congr fun i _=>by
  rw [← rsum_mul]
  exact rsum_congr fun k _=>by grind
 rw [e,rsum_swp]
 have e2:rsum (fun k=>rsum (fun i=>A c k * (T (a k) i * A (b i) r)) n) n = rsum (fun k=>if k = r then A c r else 0) n:=rsum_congr fun k hk=>by
  rw [rsum_lmB,← h.comb (a k) r hr,ha k hk r hr]
  by_cases e:k = r
  ·subst e;rw [if_pos rfl,if_pos rfl,Rat.mul_one]
  ·rw [if_neg e,if_neg (fun h=>e h.symm),Rat.mul_zero]
 rw [e2,rsum_at,if_pos hr]
theorem Ply.lin {s:StD} {X:Nat→RoD} {b:Nat→Nat} (h:Ply s X b) (c:Nat) {i:Nat} (hi:i < s.bn):TX X (s.cn + s.bn) c i = rsum (fun k=>lat (X i).l (s.cn + k) * TX s.row (s.cn + s.bn) c k) s.bn:=by
 refine (h.p.lin (a:=fun k=>s.cn + k) (fun k hk r hr=>?_) c hi).trans (rsum_congr fun k hk=>?_)
 ·show TX s.row (s.cn + s.bn) (s.cn + k) r = _
  unfold TX
  rw [if_pos (by omega)]
  show lat (fln (s.t r) (s.E r) (s.k r) (s.cn + r)) (s.cn + k) = _
  have hk2:=s.k_le r
  rw [fln_lat _ _ (by omega)]
  by_cases e:r = k
  ·subst e;rw [if_pos rfl,if_pos rfl]
  ·rw [if_neg (by omega),if_neg (by omega),if_neg e]
 ·show TX X (s.cn + s.bn) (s.cn + k) i * _ = _
  unfold TX
  rw [if_pos (by omega)]
theorem bco_congr {X:Nat→RoD} {lc:List (Nat × Rat)} {A B:Nat→Rat} {q:Nat} (h:A q = B q):bco X lc A q = bco X lc B q:=by
 unfold bco
 rw [h]
def mul0 (X:Nat→RoD) (lc:List (Nat × Rat)) (n m k:Nat):Rat:=rsum (bco X lc fun q=>lat (X q).l (n + k)) m
theorem mul0_eq (X:Nat→RoD) (lc:List (Nat × Rat)) (n m k:Nat):latI lc ((n + k:Nat):Int) - rdc X lc m ((n + k:Nat):Int) = mul0 X lc n m k:=by
 unfold rdc mul0
 simp only [latI_nat]
 generalize rsum (bco X lc fun q=>lat (X q).l (n + k)) m = x
 generalize lat lc (n + k) = y
 grind
theorem bco_sum {X:Nat→RoD} {lc:List (Nat × Rat)} {A:Nat→Rat} {B:Nat→Nat→Rat} {m n:Nat} (R:Nat→Rat) (hA:∀ q,q < m→A q = rsum (fun k=>B k q * R k) n):rsum (bco X lc A) m = rsum (fun k=>rsum (bco X lc (B k)) m * R k) n:=by
 have e:rsum (bco X lc A) m = rsum (fun q=>rsum (fun k=>bco X lc (B k) q * R k) n) m:=rsum_congr fun q hq=>by
  unfold bco
  by_cases g:(X q).bas = -1
  ·rw [if_pos g]
   exact (rsum_zrB n fun k _=>by show (if (X q).bas = -1 then 0 else _) * R k = 0;rw [if_pos g,Rat.zero_mul]).symm
  ·rw [if_neg g,hA q hq,← rsum_lmB]
   exact rsum_congr fun k _=>by show _ = (if (X q).bas = -1 then 0 else _) * R k;rw [if_neg g,Rat.mul_assoc]
 rw [e,rsum_swp]
 exact rsum_congr fun k _=>rsum_mul _ _ _
theorem Ply.mults {s:StD} {X:Nat→RoD} {b:Nat→Nat} (h:Ply s X b) (lc:List (Nat × Rat)) (c:Nat):rsum (bco X lc fun q=>TX X (s.cn + s.bn) c q) s.bn = rsum (fun k=>mul0 X lc s.cn s.bn k * TX s.row (s.cn + s.bn) c k) s.bn :=
 bco_sum (B:=fun k q=>lat (X q).l (s.cn + k)) (fun k=>TX s.row (s.cn + s.bn) c k) fun _ hq=>h.lin c hq
theorem Ply.red {s:StD} {X:Nat→RoD} {b:Nat→Nat} (h:Ply s X b) (lc:List (Nat × Rat)) {j:Nat} (hj:j < s.cn + s.bn):rdc X lc s.bn (j:Int) = lat lc j - rsum (fun k=>mul0 X lc s.cn s.bn k * lat (s.row k).l j) s.bn:=by
 unfold rdc
 rw [latI_nat]
 have e:=h.mults lc j
 have e1:rsum (bco X lc fun q=>TX X (s.cn + s.bn) j q) s.bn = rsum (bco X lc fun q=>latI (X q).l (j:Int)) s.bn:=rsum_congr fun q _=>bco_congr (by
  unfold TX
  rw [if_pos hj,latI_nat])
 have e2:rsum (fun k=>mul0 X lc s.cn s.bn k * TX s.row (s.cn + s.bn) j k) s.bn = rsum (fun k=>mul0 X lc s.cn s.bn k * lat (s.row k).l j) s.bn:=rsum_congr fun k _=>by
  unfold TX
  rw [if_pos hj]
 rw [← e1,e,e2]
theorem Ply.wor {s:StD} {X:Nat→RoD} {b:Nat→Nat} (h:Ply s X b) (lc:List (Nat × Rat)):rsum (bco X lc fun q=>(X q).r) s.bn = rsum (fun k=>mul0 X lc s.cn s.bn k * (s.row k).r) s.bn:=by
 have e:=h.mults lc (s.cn + s.bn)
 have e1:rsum (bco X lc fun q=>TX X (s.cn + s.bn) (s.cn + s.bn) q) s.bn = rsum (bco X lc fun q=>(X q).r) s.bn:=rsum_congr fun q _=>bco_congr (by
  unfold TX
  rw [if_neg (by omega)])
 have e2:rsum (fun k=>mul0 X lc s.cn s.bn k * TX s.row (s.cn + s.bn) (s.cn + s.bn) k) s.bn = rsum (fun k=>mul0 X lc s.cn s.bn k * (s.row k).r) s.bn:=rsum_congr fun k _=>by
  unfold TX
  rw [if_neg (by omega)]
 rw [← e1,e,e2]
theorem col_le (s:StD) (z:Nat→Nat→Nat) {c:Nat} (hc:c < s.cn + s.bn + 1):totB (fun k=>z c k) s.bn + 1≤stK s z:=by
 unfold stK
 rw [rws_tot]
 refine Nat.add_le_add_right (totB_mono _ fun i _=>?_) 1
 show z c i≤totB (fun c=>z c (0 + i)) (s.cn + s.bn + 1)
 rw [Nat.zero_add]
 exact totB_one (f:=fun c=>z c i) hc
theorem sum_col {s:StD} {z:Nat→Nat→Nat} (hz:StZ s z) {Y:Nat→Rat} {dd:Int} {HP:Nat} (h0:dd ≠ 0) (hd:dd.natAbs≤HP) (hY:∀ k,k < s.bn→∃ u:Int,Y k * (dd:Rat) = u∧u.natAbs≤HP) {x:Rat} (hx:∃ v:Int,x * (dd:Rat) = v∧v.natAbs≤HP) {L:Nat} (hL:(HP:Int)≤pw L) {c:Nat} (hc:c < s.cn + s.bn + 1) {n:Nat} (hn:n≤s.bn):SzR (rsum (fun k=>Y k * TX s.row (s.cn + s.bn) c k) n) (L + stK s z)∧SzR (x - rsum (fun k=>Y k * TX s.row (s.cn + s.bn) c k) n) (L + stK s z):=by
 obtain ⟨Z,hZ,hZt⟩:=row_whole (fun k=>TX s.row (s.cn + s.bn) c k) s.bn
 have hH:=hpr_pw (X:=fun k=>TX s.row (s.cn + s.bn) c k) (s:=fun k=>z c k) s.bn fun k hk=>hz k hk c hc
 have hDH:=dnp_le (fun k=>TX s.row (s.cn + s.bn) c k) s.bn
 have hD0:=dnp_ne (fun k=>TX s.row (s.cn + s.bn) c k) s.bn
 obtain ⟨H,eH⟩:∃ H,H = hpr (fun k=>TX s.row (s.cn + s.bn) c k) s.bn:=⟨_,rfl⟩
 obtain ⟨D,eD⟩:∃ D,D = dnp (fun k=>TX s.row (s.cn + s.bn) c k) s.bn:=⟨_,rfl⟩
 rw [← eH] at hZt hH hDH
 rw [← eD] at hDH hD0
 simp only [← eD] at hZ
 have hk1:=col_le s z hc
 have hsk:∀ k,∃ u:Int,k < s.bn→Y k * (dd:Rat) = u∧u.natAbs≤HP:=fun k=>by
  by_cases hk:k < s.bn
  ·obtain ⟨u,h1,h2⟩:=hY k hk
   exact ⟨u,fun _=>⟨h1,h2⟩⟩
  ·exact ⟨0,fun h=>absurd h hk⟩
 obtain ⟨u,hu⟩:=Classical.skolem.1 hsk
 have hdd:(((D:Int) * dd:Int):Rat) = (D:Rat) * (dd:Rat):=by rw [Rat.intCast_mul];rfl
 have hne:((D:Int) * dd) ≠ 0:=Int.mul_ne_zero (by omega) h0
 obtain ⟨U,h1,h2⟩:=sum_over (X:=fun k=>Y k * TX s.row (s.cn + s.bn) c k) (d:=(((D:Int) * dd:Int):Rat)) (u:=fun k=>u k * Z k) (M:=fun k=>(Z k).natAbs * HP) n fun k hk=>by
  obtain ⟨a1,a2⟩:=hu k (by omega)
  refine ⟨?_,?_⟩
  ·show Y k * TX s.row (s.cn + s.bn) c k * _ = _
   rw [hdd,Rat.intCast_mul,← hZ k (by omega),← a1]
   generalize Y k = y1
   generalize TX s.row (s.cn + s.bn) c k = y2
   grind
  ·show (u k * Z k).natAbs≤(Z k).natAbs * HP
   rw [Int.natAbs_mul,Nat.mul_comm]
   exact Nat.mul_le_mul_left _ a2
 have h2':U.natAbs≤H * HP:=by
  refine Nat.le_trans h2 ?_
  rw [totB_scale]
  exact Nat.mul_le_mul_right _ (Nat.le_trans (totB_up hn) hZt)
 have hzl:((D:Int) * dd).natAbs≤H * HP:=by
  rw [Int.natAbs_mul]
  exact Nat.mul_le_mul (by simpa using hDH) hd
 have hHP:((H * HP:Nat):Int)≤pw (L + (stK s z - 1)):=by
  rw [Nat.mul_comm,pw_add,Int.natCast_mul]
  exact Int.mul_le_mul hL (Int.le_trans hH (pw_mono (by omega))) (by omega) (Int.le_of_lt (pw_pos _))
 have hpp:2 * pw (L + (stK s z - 1)) < pw (L + stK s z):=by
  have e:L + stK s z = L + (stK s z - 1) + 1:=by omega
  rw [e,pw_succ]
  have:=pw_pos (L + (stK s z - 1))
  omega
 have hfin:∀ {q:Rat} {y:Int},q * (((D:Int) * dd:Int):Rat) = y→y.natAbs≤2 * (H * HP)→SzR q (L + stK s z):=fun {q y} h1 h2=>by
  obtain ⟨h3,h4⟩:=rat_bd h1 hne
  exact ⟨by omega,by omega⟩
 obtain ⟨v,hv1,hv2⟩:=hx
 refine ⟨hfin h1 (by omega),hfin (y:=v * D - U) ?_ ?_⟩
 ·have e1:(x - rsum (fun k=>Y k * TX s.row (s.cn + s.bn) c k) n) * (((D:Int) * dd:Int):Rat) = x * (((D:Int) * dd:Int):Rat) - rsum (fun k=>Y k * TX s.row (s.cn + s.bn) c k) n * (((D:Int) * dd:Int):Rat):=by grind
  rw [e1,h1,hdd,Rat.intCast_sub,Rat.intCast_mul,← hv1]
  show x * ((D:Rat) * (dd:Rat)) - (U:Rat) = x * (dd:Rat) * ((D:Int):Rat) - (U:Rat)
  rw [show ((D:Int):Rat) = (D:Rat) from rfl]
  generalize (U:Rat) = y1
  grind
 ·have h5:(v * D).natAbs≤H * HP:=by
   rw [Int.natAbs_mul,Nat.mul_comm]
   exact Nat.mul_le_mul (by simpa using hDH) hv2
  omega
end Go.Proofs.YtmpkgpilfcbdnaaGreatDoor
