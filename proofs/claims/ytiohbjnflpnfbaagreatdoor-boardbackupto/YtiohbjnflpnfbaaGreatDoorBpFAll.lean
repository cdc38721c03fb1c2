import Derived.Test.YtiohbjnflpnfbaaGreatDoorQ3OAll
import Derived.Test.YtiohbjnflpnfbaaGreatDoorBpE
import Derived.Laws.CopyOwn
namespace Go.Proofs.YtiohbjnflpnfbaaGreatDoor
open Go.RowKit
theorem totB_mono {f g:Nat→Nat}:∀ n,(∀ i,i < n→f i≤g i)→totB f n≤totB g n
 | 0,_=>Nat.le_refl _
 | n + 1,h=>by
  have h1:=totB_mono n fun i hi=>h i (by omega)
  have h2:=h n (by omega)
  show totB f n + f n≤totB g n + g n
  omega
theorem totB_add (f g:Nat→Nat):∀ n,totB (fun i=>f i + g i) n = totB f n + totB g n
 | 0=>rfl
 | n + 1=>by
  have h1:=totB_add f g n
  show totB (fun i=>f i + g i) n + (f n + g n) = totB f n + f n + (totB g n + g n)
  omega
theorem totB_cut (f:Nat→Nat) (k:Nat):∀ n,totB (fun i=>if i < k then f i else 0) n≤totB f k
 | 0=>Nat.zero_le _
 | n + 1=>by
  have h1:=totB_cut f k n
  show totB (fun i=>if i < k then f i else 0) n + (if n < k then f n else 0)≤totB f k
  by_cases h:n < k
  ·rw [if_pos h]
   have e:totB (fun i=>if i < k then f i else 0) n = totB f n:=totB_ext n fun i hi=>if_pos (by omega)
   rw [e]
   exact totB_up (f:=f) (show n + 1≤k by omega)
  ·rw [if_neg h]
   exact h1
theorem totB_pt (v x:Nat):∀ n,totB (fun i=>if i = x then v else 0) n≤v
 | 0=>Nat.zero_le _
 | n + 1=>by
  show totB (fun i=>if i = x then v else 0) n + (if n = x then v else 0)≤v
  by_cases h:n = x
  ·rw [if_pos h]
   have e:totB (fun i=>if i = x then v else 0) n = totB (fun _=>0) n:=totB_ext n fun i hi=>if_neg (by omega)
   have z:∀ k,totB (fun _=>0) k = 0:=fun k=>by
    induction k with
    | zero=>rfl
    | succ k ih=>show totB (fun _=>0) k + 0 = 0;omega
   rw [e,z]
   omega
  ·rw [if_neg h]
   exact totB_pt v x n
theorem szr_dsg {s:Bool} {r:Rat} {K:Nat} (h:SzR r K):SzR (dsg s r) K:=by
 unfold dsg
 split
 ·exact ⟨by rw [Rat.neg_num,Int.natAbs_neg];exact h.1,by rw [Rat.neg_den];exact h.2⟩
 ·exact h
def stz (s:StD) (ZE:Nat→Nat→Nat) (ZB:Nat→Nat) (c r:Nat):Nat:=if TX s.row (s.cn + s.bn) c r = 0 then 0 else if c = s.cn + s.bn then ZB r + 1 else if c = s.cn + r then 2 else ZE r c + 1
theorem stz_ok {s:StD} {ZE:Nat→Nat→Nat} {ZB:Nat→Nat} (hE:∀ r,r < s.bn→∀ c,c < s.k r→SzR (s.E r c) (ZE r c)) (hB:∀ r,r < s.bn→SzR (s.B r) (ZB r)):StZ s (stz s ZE ZB):=by
 intro r hr c hc
 unfold stz
 by_cases h0:TX s.row (s.cn + s.bn) c r = 0
 ·exact .inl ⟨h0,if_pos h0⟩
 ·refine .inr ?_
  rw [if_neg h0]
  have hk:=s.k_le r
  by_cases hN:c = s.cn + s.bn
  ·rw [if_pos hN]
   refine ⟨by omega,?_⟩
   rw [Nat.add_sub_cancel]
   unfold TX
   rw [if_neg (by omega)]
   exact szr_dsg (hB r hr)
  ·rw [if_neg hN]
   have e:TX s.row (s.cn + s.bn) c r = lat (fln (s.t r) (s.E r) (s.k r) (s.cn + r)) c:=if_pos (by omega)
   rw [e,fln_lat _ _ (by omega)] at h0 ⊢
   by_cases hA:c = s.cn + r
   ·rw [if_pos hA,if_pos hA.symm]
    exact ⟨by omega,⟨by decide,by decide⟩⟩
   ·rw [if_neg hA,if_neg (Ne.symm hA)]
    rw [if_neg (Ne.symm hA)] at h0
    by_cases hck:c < s.k r
    ·rw [if_pos hck,Nat.add_sub_cancel]
     exact ⟨by omega,szr_dsg (hE r hr c hck)⟩
    ·rw [if_neg hck] at h0
     exact absurd rfl h0
theorem rws_mono {f g:Nat→Nat}:∀ n k,(∀ r,k≤r→r < k + n→f r≤g r)→rws f n k≤rws g n k
 | 0,_,_=>Nat.le_refl _
 | n + 1,k,h=>by
  have h1:=rws_mono n (k + 1) fun r h1 h2=>h r (by omega) (by omega)
  have h2:=h k (by omega) (by omega)
  show f k + rws f n (k + 1)≤g k + rws g n (k + 1)
  omega
theorem stz_le (s:StD) (ZE:Nat→Nat→Nat) (ZB:Nat→Nat):stK s (stz s ZE ZB)≤rws (fun r=>totB (fun c=>ZE r c + 1) (s.k r) + 2 + (ZB r + 1)) s.bn 0 + 1:=by
 unfold stK
 refine Nat.add_le_add_right (rws_mono _ _ fun r _ hr=>?_) 1
 have hk:=s.k_le r
 have h1:totB (fun c=>stz s ZE ZB c r) (s.cn + s.bn + 1)≤totB (fun c=>(if c < s.k r then ZE r c + 1 else 0) + ((if c = s.cn + r then 2 else 0) + (if c = s.cn + s.bn then ZB r + 1 else 0))) (s.cn + s.bn + 1):=totB_mono _ fun c hc=>by
  unfold stz
  by_cases h0:TX s.row (s.cn + s.bn) c r = 0
  ·rw [if_pos h0];exact Nat.zero_le _
  ·rw [if_neg h0]
   by_cases hN:c = s.cn + s.bn
   ·rw [if_pos hN,if_pos hN];omega
   ·rw [if_neg hN,if_neg hN]
    by_cases hA:c = s.cn + r
    ·rw [if_pos hA,if_pos hA];omega
    ·rw [if_neg hA,if_neg hA]
     have e:TX s.row (s.cn + s.bn) c r = lat (fln (s.t r) (s.E r) (s.k r) (s.cn + r)) c:=if_pos (by omega)
     rw [e,fln_lat _ _ (by omega),if_neg (Ne.symm hA)] at h0
     by_cases hck:c < s.k r
     ·rw [if_pos hck];omega
     ·rw [if_neg hck] at h0
      exact absurd rfl h0
 rw [totB_add,totB_add] at h1
 have h2:=totB_cut (fun c=>ZE r c + 1) (s.k r) (s.cn + s.bn + 1)
 have h3:=totB_pt 2 (s.cn + r) (s.cn + s.bn + 1)
 have h4:=totB_pt (ZB r + 1) (s.cn + s.bn) (s.cn + s.bn + 1)
 omega
theorem csz_lco {Y:Nat→Rat} {ZY:Nat→Nat} {cn KC:Nat} (hY:∀ c,c < cn→SzR (Y c) (ZY c)) (hK:totB (fun c=>ZY c + 1) cn≤KC) (N:Nat):∀ k,k≤cn→CsZ (lco Y k) N KC:=fun k hk=>by
 refine ⟨fun c=>if c < k then ZY c + 1 else 0,fun c _=>?_,?_⟩
 ·rw [lco_lat]
  show (if c < k then Y c else 0) = 0∧(if c < k then ZY c + 1 else 0) = 0∨1≤(if c < k then ZY c + 1 else 0)∧SzR (if c < k then Y c else 0) ((if c < k then ZY c + 1 else 0) - 1)
  by_cases h:c < k
  ·rw [if_pos h,if_pos h,Nat.add_sub_cancel]
   exact .inr ⟨by omega,hY c (by omega)⟩
  ·rw [if_neg h,if_neg h]
   exact .inl ⟨rfl,rfl⟩
 ·exact Nat.le_trans (totB_cut (fun c=>ZY c + 1) k N) (Nat.le_trans (totB_up hk) hK)
theorem exm_std {w w':World} {e:Ending} (h:ExmP w e w'):∃ s:StD,e = .returned (.agg #[.slice s.aa s.an s.ac,.slice s.ba s.bn s.bc,.slice s.ca s.cn s.cc,.bool s.zp,.slice s.za s.zn s.zc,.slice s.zd s.zm s.ze])∧StQ w' s 1∧s.an = 2∧s.bn = 2∧s.cn = 3∧s.rn 0 = 3∧s.rn 1 = 2∧s.E 0 = yA0∧s.E 1 = yA1∧s.B = yB∧Below w.heap.size w w':=by
 obtain ⟨va,vb,vc,rfl,⟨g,s0,s1,rfl,R,h0,h1⟩,hB,hC,hb⟩:=h
 obtain ⟨a0,rfl,l0⟩:=h0.lq
 obtain ⟨a1,rfl,l1⟩:=h1.lq
 obtain ⟨ab,rfl,lb⟩:=hB.lq
 obtain ⟨ac,rfl,_⟩:=hC.lq
 refine ⟨{ aa:=some ⟨g,0,none⟩,an:=2,ac:=2,ba:=ab,bn:=2,bc:=2,ca:=ac,cn:=3,cc:=3,zp:=false,za:=none,zn:=0,zc:=0,zd:=none,zm:=0,ze:=0,ra:=fun i=>if i = 0 then a0 else a1,rn:=fun i=>if i = 0 then 3 else 2,rc:=fun i=>if i = 0 then 3 else 2,E:=fun i=>if i = 0 then yA0 else yA1,B:=yB },rfl,⟨.inr ⟨g,0,rfl,fun i hi=>?_⟩,lb⟩,rfl,rfl,rfl,rfl,rfl,rfl,rfl,rfl,hb⟩
 have hi':i < 2:=hi
 rcases (by omega:i = 0∨i = 1) with rfl | rfl
 ·exact ⟨(R.cell 0).trans rfl,Nat.le_refl _,l0⟩
 ·exact ⟨(R.cell 1).trans rfl,Nat.le_refl _,l1⟩
theorem LQ.uni {w:World} {a:Option Addr} {n:Nat} {X:Nat→Rat} {Z:Nat→Nat} {T:Nat} (h:LQ w a n X Z) (hz:∀ i,i < n→Z i≤T):LQ w a n X (fun _=>T):=by
 rcases h with h0 | ⟨b,o,e,h⟩
 ·exact .inl h0
 ·refine .inr ⟨b,o,e,fun i hi=>?_⟩
  obtain ⟨p,a,na,ca,d,nd,cd,h1,h2,h3,h4⟩:=h i hi
  exact ⟨p,a,na,ca,d,nd,cd,h1,h2,h3,h4.up (hz i hi)⟩
def SmR (X Y:Nat→RoD) (m:Nat):Prop:=∀ q,q < m→(∀ c,lat (X q).l c = lat (Y q).l c)∧(X q).r = (Y q).r∧(X q).bas = (Y q).bas
theorem SmR.of {X Y:Nat→RoD} {m:Nat} (h:∀ q,q < m→X q = Y q):SmR X Y m:=fun q hq=>by rw [h q hq];exact ⟨fun _=>rfl,rfl,rfl⟩
theorem SmR.latI {X Y:Nat→RoD} {m:Nat} (h:SmR X Y m) {q:Nat} (hq:q < m) (j:Int):latI (X q).l j = Go.Proofs.YtiohbjnflpnfbaaGreatDoor.latI (Y q).l j:=by
 unfold Go.Proofs.YtiohbjnflpnfbaaGreatDoor.latI
 rw [(h q hq).1]
theorem SmR.at {X Y:Nat→RoD} {m:Nat} (h:SmR X Y m) (i j:Int):bat X m i j = bat Y m i j:=by
 unfold bat
 by_cases hi:0≤i∧i < (m:Int)
 ·rw [if_pos hi,if_pos hi]
  exact h.latI (by omega) j
 ·rw [if_neg hi,if_neg hi]
theorem SmR.rt {X Y:Nat→RoD} {m:Nat} (h:SmR X Y m) (i:Int):brt X m i = brt Y m i:=by
 unfold brt
 by_cases hi:0≤i∧i < (m:Int)
 ·rw [if_pos hi,if_pos hi]
  exact (h _ (by omega)).2.1
 ·rw [if_neg hi,if_neg hi]
theorem SmR.wor {X Y:Nat→RoD} {m:Nat} (h:SmR X Y m) (lc:List (Nat × Rat)) {k:Nat} (hk:k≤m):rsum (bco X lc fun q=>(X q).r) k = rsum (bco Y lc fun q=>(Y q).r) k:=rsum_congr fun i hi=>by
 obtain ⟨_,h2,h3⟩:=h i (by omega)
 unfold bco
 rw [h3]
 show (if (Y i).bas = -1 then 0 else Go.Proofs.YtiohbjnflpnfbaaGreatDoor.latI lc (Y i).bas * (X i).r) = (if (Y i).bas = -1 then 0 else Go.Proofs.YtiohbjnflpnfbaaGreatDoor.latI lc (Y i).bas * (Y i).r)
 rw [h2]
theorem Ply.inv {s:StD} {X X1:Nat→RoD} {b:Nat→Nat} (h:Ply s X b) {i c:Nat} (hi:i < s.bn) (p1:PivR X X1 s.bn i c):lat (X1 i).l (b i) = (lat (X i).l c)⁻¹:=by
 rw [p1.li,h.unit hi hi,if_pos rfl,Rat.one_mul]
theorem Ply.back {s:StD} {X X1 X2:Nat→RoD} {b:Nat→Nat} (h:Ply s X b) {i c:Nat} (hi:i < s.bn) (hb:(X i).bas ≠ -1) (h0:lat (X i).l c ≠ 0) (p1:PivR X X1 s.bn i c) (p2:PivR X1 X2 s.bn i (b i)):SmR X2 X s.bn:=by
 have e1:=h.inv hi p1
 obtain ⟨a,ea⟩:∃ a,a = lat (X i).l c:=⟨_,rfl⟩
 rw [← ea] at e1 h0
 have ha:a⁻¹ * (a⁻¹)⁻¹ = 1:=Rat.mul_inv_cancel _ (fun h=>h0 (by rw [← Rat.inv_inv a,h,Rat.inv_zero]))
 have hl:∀ k,lat (X2 i).l k = lat (X i).l k:=fun k=>by
  rw [p2.li,e1,p1.li,← ea,Rat.mul_assoc,ha,Rat.mul_one]
 have hr:(X2 i).r = (X i).r:=by
  rw [p2.ri,e1,p1.ri,← ea,Rat.mul_assoc,ha,Rat.mul_one]
 intro q hq
 by_cases e:q = i
 ·subst e
  exact ⟨hl,hr,p2.bi.trans ((h.g q hq).resolve_left hb).symm⟩
 ·obtain ⟨q1,q2,q3,_⟩:=p1.q q hq e
  obtain ⟨k1,k2,k3,_⟩:=p2.q q hq e
  have hu:lat (X q).l (b i) = 0:=by rw [h.unit hi hq,if_neg e]
  have hx:lat (X1 q).l (b i) = -(lat (X q).l c * a⁻¹):=by
   rw [q1,hu,e1,Rat.sub_eq_add_neg,Rat.zero_add]
  refine ⟨fun k=>?_,?_,k3.trans q3⟩
  ·rw [k1,hx,hl,q1,p1.li,← ea]
   generalize lat (X q).l k = x1
   generalize lat (X q).l c = x2
   generalize lat (X i).l k = x3
   generalize a⁻¹ = x4
   grind
  ·rw [k2,hx,hr,q2,p1.ri,← ea]
   generalize (X q).r = x1
   generalize lat (X q).l c = x2
   generalize (X i).r = x3
   generalize a⁻¹ = x4
   grind
theorem Ply.sumZ {s:StD} {z:Nat→Nat→Nat} (hz:StZ s z) {X:Nat→RoD} {b:Nat→Nat} (h:Ply s X b) {lc:List (Nat × Rat)} {zc:Nat→Nat} (hc:∀ c,c < s.cn + s.bn→lat lc c = 0∧zc c = 0∨1≤zc c∧SzR (lat lc c) (zc c - 1)) {k:Nat} (hk:k≤s.bn):SzR (rsum (bco X lc fun q=>(X q).r) k) (stK s z + totB zc (s.cn + s.bn) + 1):=by
 obtain ⟨N,eN⟩:∃ N,N = s.cn + s.bn:=⟨_,rfl⟩
 rw [← eN] at hc ⊢
 obtain ⟨zz,zz0,zzP,hcom⟩:=h.p.common (N:=N + 1) (fun i hi=>by have:=h.l i hi;omega)
 have hP:=pds_pw (M:=fun r=>hpr (fun c=>TX s.row (s.cn + s.bn) c r) (N + 1)) (s:=fun r=>totB (fun c=>z c r) (N + 1)) s.bn 0 fun r _ hr=>hpr_pw (N + 1) fun c hc=>hz r (by omega) c (by omega)
 obtain ⟨P,eP⟩:∃ P,P = pds (fun r=>hpr (fun c=>TX s.row (s.cn + s.bn) c r) (N + 1)) s.bn 0:=⟨_,rfl⟩
 rw [← eP] at zzP hP
 simp only [← eP] at hcom
 have hP':(P:Int)≤pw (stK s z - 1):=by
  have e:stK s z - 1 = rws (fun r=>totB (fun c=>z c r) (N + 1)) s.bn 0:=by unfold stK;rw [eN];omega
  rw [e]
  exact hP
 obtain ⟨Z,hZ,hZt⟩:=row_whole (fun c=>lat lc c) N
 have hH:=hpr_pw (X:=fun c=>lat lc c) (s:=zc) N hc
 obtain ⟨H,eH⟩:∃ H,H = hpr (fun c=>lat lc c) N:=⟨_,rfl⟩
 have hDH:=dnp_le (fun c=>lat lc c) N
 have hD0:=dnp_ne (fun c=>lat lc c) N
 obtain ⟨D,eD⟩:∃ D,D = dnp (fun c=>lat lc c) N:=⟨_,rfl⟩
 rw [← eH] at hZt hH hDH
 rw [← eD] at hDH hD0
 simp only [← eD] at hZ
 have hsk:∀ q,∃ y:Int,q < s.bn→(X q).r * (zz:Rat) = y∧y.natAbs≤P:=fun q=>by
  by_cases hq:q < s.bn
  ·obtain ⟨y,h1,h2⟩:=hcom N (by omega) q hq
   refine ⟨y,fun _=>⟨?_,h2⟩⟩
   rw [← h1]
   unfold TX
   rw [if_neg (by omega)]
  ·exact ⟨0,fun h=>absurd h hq⟩
 obtain ⟨yq,hyq⟩:=Classical.skolem.1 hsk
 have hzz:((D:Int) * zz) ≠ 0:=Int.mul_ne_zero (by omega) zz0
 have hdd:(((D:Int) * zz:Int):Rat) = (D:Rat) * (zz:Rat):=by rw [Rat.intCast_mul];rfl
 have hrow:∀ q,q < s.bn→bco X lc (fun q=>(X q).r) q * (((D:Int) * zz:Int):Rat) = ((if (X q).bas = -1 then 0 else Z (b q) * yq q:Int):Rat)∧(if (X q).bas = -1 then 0 else Z (b q) * yq q:Int).natAbs≤(fun q=>(Z (b q)).natAbs * P) q:=fun q hq=>by
  by_cases hg:(X q).bas = -1
  ·unfold bco
   rw [if_pos hg,if_pos hg,Rat.zero_mul]
   exact ⟨rfl,Nat.zero_le _⟩
  ·have eb:(X q).bas = (b q:Int):=(h.g q hq).resolve_left hg
   have hbN:b q < N:=by have:=h.l q hq;omega
   obtain ⟨h1,h2⟩:=hyq q hq
   unfold bco
   rw [if_neg hg,if_neg hg,eb]
   simp only [latI_nat]
   refine ⟨?_,?_⟩
   ·rw [hdd,Rat.intCast_mul,← hZ (b q) hbN,← h1]
    grind
   ·rw [Int.natAbs_mul]
    exact Nat.mul_le_mul_left _ h2
 have htot:totB (fun q=>(Z (b q)).natAbs) s.bn≤H:=Nat.le_trans (totB_inj (s:=b) (N:=N) s.bn (fun c=>(Z c).natAbs) (fun i hi=>by have:=h.l i hi;omega) (fun i k hi hk e=>h.p.inj hi hk e)) hZt
 obtain ⟨U,h1,h2⟩:=sum_over (M:=fun q=>(Z (b q)).natAbs * P) k fun q hq=>hrow q (by omega)
 have h2':U.natAbs≤H * P:=by
  refine Nat.le_trans h2 ?_
  rw [totB_scale]
  exact Nat.mul_le_mul_right _ (Nat.le_trans (totB_up hk) htot)
 have hzl:((D:Int) * zz).natAbs≤H * P:=by
  rw [Int.natAbs_mul]
  exact Nat.mul_le_mul (by simpa using hDH) zzP
 have hHP:((H * P:Nat):Int)≤pw (stK s z - 1 + totB zc N):=by
  rw [Nat.mul_comm,pw_add,Int.natCast_mul]
  exact Int.mul_le_mul hP' hH (by omega) (Int.le_of_lt (pw_pos _))
 have h1K:1≤stK s z:=by unfold stK;omega
 have hpp:2 * pw (stK s z - 1 + totB zc N) < pw (stK s z + totB zc N + 1):=by
  have e:stK s z + totB zc N + 1 = stK s z - 1 + totB zc N + 1 + 1:=by omega
  rw [e,pw_succ,pw_succ]
  have:=pw_pos (stK s z - 1 + totB zc N)
  omega
 obtain ⟨h3,h4⟩:=rat_bd h1 hzz
 have:=pw_pos (stK s z - 1 + totB zc N)
 exact ⟨by omega,by omega⟩
theorem Gam.wz {w:World} {F:Nat} {f:Bf} {s:StD} {X:Nat→RoD} {b:Nat→Nat} {lc:List (Nat × Rat)} {K KC:Nat} (G:Gam w F f s X b lc K KC) (Z:GmZ s K KC):∀ k,k≤f.m→SzR (rsum (bco X lc fun q=>(X q).r) k) (K + KC + 1):=fun k hk=>by
 obtain ⟨z,hz,hK⟩:=Z.z
 obtain ⟨zc,hc,hKC⟩:=G.c
 rw [G.m] at hk
 exact SzR.le (G.p.sumZ hz hc hk) (by omega)
theorem run_copyC {P:Program} (w:World) (dT sT ty elem:TypeId) (g n dCap:Nat) (a:Addr) (sCap:Nat) (cur:Array Value) (t:TypeId) (cs:List Value) (c:Nat)
  (hu:P.underlying dT = some (.slice elem)) (hs:(P.info? elem).map (·.size) = some c) (hg:w.heap[g]? = some (.cells cur t (0,0))) (hn:cs.length = n * c)
  (hsrc:∀ j v,cs[j]? = some v→w.cell? (a.add j) = some v) (hfit:cs.length = cur.size) (h1:∀ v ∈ cs,v.oneCell' = true) :
  (Builtin.copy_ #[dT,sT] ty #[.slice (some ⟨g,0,none⟩) n dCap,.slice (some a) n sCap]).run P w = .ok (goInt n) (w.setRow g cs.toArray):=by
 have hl:=run_loadCells_list (P:=P) w a cs hsrc
 have hst:=run_storeCells_at P g 0 t cs 0 cur w hg (by omega) h1
 have e:cur.toList.take (0 + 0) ++ cs ++ cur.toList.drop (0 + 0 + cs.length) = cs:=by
  rw [hfit,Nat.zero_add,Nat.zero_add,List.take_zero,List.nil_append,List.drop_of_length_le (by simp),List.append_nil]
 rw [e] at hst
 have hm:Nat.min n n = n:=Nat.min_self n
 cases hq:P.info? elem with
 | none=>simp [hq] at hs
 | some i =>
  have hi:i.size = c:=by simpa [hq] using hs
  simp [Builtin.copy_,run_underlying hu,Builtin.lenOf,Builtin.firstCells,sizeOf,typeInfo,hq,hi,hm,← hn,hl,hst]
theorem wpList_copyC {P:Program} {w:World} {ops:Array Oper} {rest:List Oper} {o:Oper} {a:Act} {Q:Exit→Act→World→Prop} (hgd:o.guard = none) (d s:Operand) (dT sT:TypeId)
  (ho:o.op = .call { callee:=.builtin .copy,args:=#[d,s],argTypes:=#[dT,sT] }) (elem:TypeId) (hu:P.underlying dT = some (.slice elem)) (c:Nat) (hsz:(P.info? elem).map (·.size) = some c)
  (g n dCap:Nat) (ad:Addr) (sCap:Nat) (hd:a.eval d = .slice (some ⟨g,0,none⟩) n dCap) (hs:a.eval s = .slice (some ad) n sCap)
  (cur:Array Value) (t:TypeId) (hg:w.heap[g]? = some (.cells cur t (0,0))) (cs:List Value) (hn:cs.length = n * c)
  (hsrc:∀ j v,cs[j]? = some v→w.cell? (ad.add j) = some v) (hfit:cs.length = cur.size) (h1:∀ v ∈ cs,v.oneCell' = true)
  (h:wpList P ops Q rest (a.put o.dst (goInt n)) (w.setRow g cs.toArray)):wpList P ops Q (o :: rest) a w:=by
 refine wpList_plain hgd fun K hK=>?_
 have hrun:=run_copyC (P:=P) w dT sT o.type elem g n dCap ad sCap cur t cs c hu hsz hg hn hsrc hfit h1
 unfold Oper.wp
 simp [execOp,ho,resolve,invoke,builtin,hd,hs,hrun,Result.andThen]
 exact hK _ _ h
theorem wpList_copy0 {P:Program} {w:World} {ops:Array Oper} {rest:List Oper} {o:Oper} {a:Act} {Q:Exit→Act→World→Prop} (hgd:o.guard = none) (d s:Operand) (dT sT:TypeId)
  (ho:o.op = .call { callee:=.builtin .copy,args:=#[d,s],argTypes:=#[dT,sT] }) (elem:TypeId) (hu:P.underlying dT = some (.slice elem)) (hsz:((P.info? elem).map (·.size)).isSome = true)
  (ad:Addr) (dLen dCap:Nat) (hd:a.eval d = .slice (some ad) dLen dCap) (hs:a.eval s = .slice none 0 0)
  (h:wpList P ops Q rest (a.put o.dst (goInt 0)) w):wpList P ops Q (o :: rest) a w:=by
 refine wpList_plain hgd fun K hK=>?_
 have hrun:=run_copy_nil P w dT sT o.type elem ad dLen dCap hu hsz
 unfold Oper.wp
 simp [execOp,ho,resolve,invoke,builtin,hd,hs,hrun,Result.andThen]
 exact hK _ _ h
theorem wpList_makeN (w:World) {ops:Array Oper} {rest:List Oper} {o:Oper} {a:Act} {Q:Exit→Act→World→Prop} (hg:o.guard = none) (l c:Operand) (hop:o.op = Op.makeSlice 70 l c) (n:Nat) (hl:a.eval l = .int .i64 (n:Int)) (hc:a.eval c = .int .i64 (n:Int)) (hn:n≤100000000)
  (h:∀ w' (cur:Array Value),w'.heap[w.heap.size]? = some (.cells cur 97 (0,0))→cur.size = n * 4→Below w.heap.size w w'→wpList Tryz.prog ops Q rest (a.put o.dst (.slice (some ⟨w.heap.size,0,none⟩) n n)) w'):wpList Tryz.prog ops Q (o :: rest) a w:=by
 obtain ⟨i0,hi,hx⟩:=Option.map_eq_some_iff.1 infoEntry
 simp only [Prod.mk.injEq] at hx
 obtain ⟨h1,h2,h3⟩:=hx
 obtain ⟨z,hz,h4⟩:=Option.map_eq_some_iff.1 h1
 have hr:=run_make (P:=Tryz.prog) w 70 97 i0 z Tryz.underlying70 hi hz .i64 .i64 (n:Int) (n:Int) (by omega) (by omega) (by rw [h3];omega) (by omega)
 simp only [Int.toNat_natCast] at hr
 refine wpList_plain hg fun K hK'=>?_
 unfold Oper.wp execOp
 simp only [hop,Sem.run_bind,Sem.run_pure,Result.andThen_ok,hl,hc,hr]
 exact hK' _ _ (h _ _ (heap_alloc_new w _) (by rw [size_madeCells,h2]) (bel_d0 w _))
def CopP (w:World) (l:List (Nat × Rat)) (S:Nat) (e:Ending) (w':World):Prop:=∃ g,e = .returned (.slice (some ⟨g,0,none⟩) l.length l.length)∧LnE w' w.heap.size (.slice (some ⟨g,0,none⟩) l.length l.length) l S∧Below w.heap.size w w'
theorem LnE.at {w w':World} {B:Nat} {l:List (Nat × Rat)} {S:Nat} {vs:List Value} {E:Nat→List Value} (hlen:vs.length = l.length * 4) (hvs:∀ i,i < l.length→∀ j u,(E i)[j]? = some u→j < 4∧vs[i * 4 + j]? = some u) (hE:∀ (i:Nat) (e:Nat × Rat),l[i]? = some e→EnC w (E i) e S) (hb:Below w.heap.size w w') {g:Nat} (hBg:B≤g) {cur:Array Value} (hcur:cur.toList = vs) (hg:w'.heap[g]? = some (.cells cur 97 (0,0))) (hn:l.length≤100000000):LnE w' B (.slice (some ⟨g,0,none⟩) l.length l.length) l S :=
 ⟨E,⟨vs,⟨hlen,.inr ⟨g,l.length,cur,rfl,hBg,hg,Nat.le_refl _,by unfold maxLen;omega,by rw [← Array.length_toList,hcur,hlen],by rw [hcur,← hlen,List.take_length]⟩⟩,hvs⟩,fun i e he=>(hE i e he).below hb⟩
theorem LnE.ones {w:World} {l:List (Nat × Rat)} {S:Nat} {vs:List Value} {E:Nat→List Value} (hlen:vs.length = l.length * 4) (hvs:∀ i,i < l.length→∀ j u,(E i)[j]? = some u→j < 4∧vs[i * 4 + j]? = some u) (hE:∀ (i:Nat) (e:Nat × Rat),l[i]? = some e→EnC w (E i) e S):∀ v ∈ vs,v.oneCell' = true:=fun v hv=>by
 obtain ⟨k,hk,rfl⟩:=List.getElem_of_mem hv
 have hi:k / 4 < l.length:=by omega
 have he:=hE (k / 4) _ (List.getElem?_eq_getElem hi)
 have h4:=he.len
 have hj:k % 4 < (E (k / 4)).length:=by omega
 have h2:=(hvs _ hi (k % 4) _ (List.getElem?_eq_getElem hj)).2
 rw [show k / 4 * 4 + k % 4 = k by omega,List.getElem?_eq_getElem hk] at h2
 rw [Option.some.inj h2]
 exact he.one _ (List.getElem_mem hj)
set_option maxRecDepth 100000 in
set_option maxHeartbeats 8000000 in
theorem copLB {B S:Nat} {va:Option Addr} {n vc:Nat} {l:List (Nat × Rat)} (w:World) (hL:LnE w B (.slice va n vc) l S) (hn:l.length≤100000000):Calls Tryz.prog 42 #[.slice va n vc] w fun e w'=>CopP w l S e w':=by
 obtain ⟨E,⟨vs,⟨hlen,hown⟩,hvs⟩,hE⟩:=hL
 have h1:=LnE.ones hlen hvs hE
 rcases hown with ⟨e,h0⟩ | ⟨g,cap,cur,e,hBg,hg,hcap,hmax,hsz,htk⟩
 ·simp only [Value.slice.injEq] at e
  obtain ⟨rfl,rfl,rfl⟩:=e
  have HP:∀ w' (cur:Array Value),w'.heap[w.heap.size]? = some (.cells cur 97 (0,0))→cur.size = 0 * 4→Below w.heap.size w w'→CopP w l S (.returned (.slice (some ⟨w.heap.size,0,none⟩) 0 0)) w':=fun w' cur hg hs hb=>by
   have hz:cur.toList = vs:=by
    rw [List.eq_nil_of_length_eq_zero (show vs.length = 0 by omega)]
    exact List.eq_nil_of_length_eq_zero (by rw [Array.length_toList];omega)
   refine ⟨w.heap.size,by rw [h0],LnE.at hlen hvs hE hb (Nat.le_refl _) hz hg hn,hb⟩
  clear hlen h1 hvs hE h0
  go_enter Tryz.func42,Tryz.ntmps42
  go_wp2_with (first
   | (refine wpList_makeN _ rfl _ _ rfl 0 rfl rfl (by omega) ?_;intro w1 cur hg1 hs1 hb1;have HQ:=HP w1 cur hg1 hs1 hb1;clear HP hg1 hs1 hb1)
   | (refine wpList_copy0 rfl _ _ _ _ rfl 97 Tryz.underlying70 (by kernel_rfl) _ _ _ rfl rfl ?_)
   | fail)
  go_ret
  exact HQ
 ·simp only [Value.slice.injEq] at e
  obtain ⟨rfl,rfl,rfl⟩:=e
  have hsrc:∀ j v,vs[j]? = some v→w.cell? ((⟨g,0,none⟩:Addr).add j) = some v:=fun j v hv=>by
   have hj:j < l.length * 4:=by rw [← hlen];exact (List.getElem?_eq_some_iff.1 hv).1
   have e:(⟨g,0,none⟩:Addr).add j = ⟨g,j,none⟩:=by unfold Addr.add;split <;> simp_all
   rw [e]
   refine (cell_of_row w g j cur _ _ hg).trans ?_
   rw [← htk,List.getElem?_take,if_pos hj,Array.getElem?_toList] at hv
   exact hv
  obtain ⟨m,em⟩:∃ m,m = l.length:=⟨_,rfl⟩
  have HP:∀ w' ,w'.heap[w.heap.size]? = some (.cells vs.toArray 97 (0,0))→Below w.heap.size w w'→CopP w l S (.returned (.slice (some ⟨w.heap.size,0,none⟩) m m)) w':=fun w' hg hb=>by
   rw [em]
   exact ⟨w.heap.size,rfl,LnE.at hlen hvs hE hb (Nat.le_refl _) rfl hg hn,hb⟩
  rw [← em] at hlen hn ⊢
  clear em hvs hE htk hsz
  have HS:Hid (∀ j v,vs[j]? = some v→w.cell? ((⟨g,0,none⟩:Addr).add j) = some v):=hsrc
  have H1:Hid (∀ v ∈ vs,v.oneCell' = true):=h1
  have HL:Hid (vs.length = m * 4):=hlen
  have HPP:Hid (∀ w' ,w'.heap[w.heap.size]? = some (.cells vs.toArray 97 (0,0))→Below w.heap.size w w'→CopP w l S (.returned (.slice (some ⟨w.heap.size,0,none⟩) m m)) w'):=HP
  clear hsrc h1 hlen HP
  go_enter Tryz.func42,Tryz.ntmps42
  go_wp2_with (first
   | (refine wpList_makeN _ rfl _ _ rfl m rfl rfl (by omega) ?_;intro w1 cu hg1 hs1 hb1;have HG:Hid (w1.heap[w.heap.size]? = some (.cells cu 97 (0,0))):=hg1;have HZ:Hid (cu.size = m * 4):=hs1;clear hg1 hs1)
   | (refine wpList_copyC rfl _ _ _ _ rfl 97 Tryz.underlying70 4 (by kernel_rfl) w.heap.size m m ⟨g,0,none⟩ vc rfl rfl cu 97 HG.out vs HL.out (fun j v hv=>kept_c hb1 (HS.out j v hv)) (by rw [HL.out,HZ.out]) H1.out ?_;have HQ:=HPP.out _ (setRow_heap w1 w.heap.size _ vs.toArray 97 _ HG.out) (below_setRow hb1 (Nat.le_refl _) vs.toArray);clear HPP HS H1 HL HG HZ hb1;generalize w1.setRow w.heap.size vs.toArray = w2 at *)
   | fail)
  go_ret
  exact HQ
end Go.Proofs.YtiohbjnflpnfbaaGreatDoor
