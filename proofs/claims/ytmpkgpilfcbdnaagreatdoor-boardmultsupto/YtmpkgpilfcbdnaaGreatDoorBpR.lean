import Derived.Test.YtmpkgpilfcbdnaaGreatDoorBpIAll
namespace Go.Proofs.YtmpkgpilfcbdnaaGreatDoor
open Go.RowKit
theorem Ply.comm {s:StD} {z:Nat→Nat→Nat} (hz:StZ s z) {X:Nat→RoD} {b:Nat→Nat} (h:Ply s X b) {lc:List (Nat × Rat)} {zc:Nat→Nat} (hc:∀ c,c < s.cn + s.bn→lat lc c = 0∧zc c = 0∨1≤zc c∧SzR (lat lc c) (zc c - 1)):∃ dd:Int,∃ HP:Nat,dd ≠ 0∧dd.natAbs≤HP∧(HP:Int)≤pw (stK s z - 1 + totB zc (s.cn + s.bn))∧(∀ k,k < s.bn→∃ u:Int,mul0 X lc s.cn s.bn k * (dd:Rat) = u∧u.natAbs≤HP)∧∀ j,j < s.cn + s.bn→∃ v:Int,lat lc j * (dd:Rat) = v∧v.natAbs≤HP:=by
 obtain ⟨N,eN⟩:∃ N,N = s.cn + s.bn:=⟨_,rfl⟩
 rw [← eN] at hc ⊢
 obtain ⟨zz,zz0,zzP,hcom⟩:=h.p.common (N:=N + 1) (fun i hi=>by have:=h.l i hi;omega)
 have hP:=pds_pw (M:=fun r=>hpr (fun c=>TX s.row (s.cn + s.bn) c r) (N + 1)) (s:=fun r=>totB (fun c=>z c r) (N + 1)) s.bn 0 fun r _ hr=>hpr_pw (N + 1) fun c hc=>hz r (by omega) c (by omega)
 obtain ⟨P,eP⟩:∃ P,P = pds (fun r=>hpr (fun c=>TX s.row (s.cn + s.bn) c r) (N + 1)) s.bn 0:=⟨_,rfl⟩
 rw [← eP] at zzP hP
 simp only [← eP] at hcom
 have hP':(P:Int)≤pw (stK s z - 1):=by
  have e:stK s z - 1 = rws (fun r=>totB (fun c=>z c r) (N + 1)) s.bn 0:=by unfold stK;rw [eN];omega
  rw [e]
  exact hP
 obtain ⟨Z,hZ,hZt⟩:=row_whole (fun c=>lat lc c) N
 have hH:=hpr_pw (X:=fun c=>lat lc c) (s:=zc) N hc
 obtain ⟨H,eH⟩:∃ H,H = hpr (fun c=>lat lc c) N:=⟨_,rfl⟩
 have hDH:=dnp_le (fun c=>lat lc c) N
 have hD0:=dnp_ne (fun c=>lat lc c) N
 obtain ⟨D,eD⟩:∃ D,D = dnp (fun c=>lat lc c) N:=⟨_,rfl⟩
 rw [← eH] at hZt hH hDH
 rw [← eD] at hDH hD0
 simp only [← eD] at hZ
 have hdd:(((D:Int) * zz:Int):Rat) = (D:Rat) * (zz:Rat):=by rw [Rat.intCast_mul];rfl
 have htot:totB (fun q=>(Z (b q)).natAbs) s.bn≤H:=Nat.le_trans (totB_inj (s:=b) (N:=N) s.bn (fun c=>(Z c).natAbs) (fun i hi=>by have:=h.l i hi;omega) (fun i k hi hk e=>h.p.inj hi hk e)) hZt
 refine ⟨(D:Int) * zz,H * P,Int.mul_ne_zero (by omega) zz0,?_,?_,fun k hk=>?_,fun j hj=>?_⟩
 ·rw [Int.natAbs_mul]
  exact Nat.mul_le_mul (by simpa using hDH) zzP
 ·rw [Nat.mul_comm,pw_add,Int.natCast_mul]
  exact Int.mul_le_mul hP' hH (by omega) (Int.le_of_lt (pw_pos _))
 ·have hsk:∀ q,∃ y:Int,q < s.bn→lat (X q).l (s.cn + k) * (zz:Rat) = y∧y.natAbs≤P:=fun q=>by
   by_cases hq:q < s.bn
   ·obtain ⟨y,h1,h2⟩:=hcom (s.cn + k) (by omega) q hq
    refine ⟨y,fun _=>⟨?_,h2⟩⟩
    rw [← h1]
    unfold TX
    rw [if_pos (by omega)]
   ·exact ⟨0,fun h=>absurd h hq⟩
  obtain ⟨yq,hyq⟩:=Classical.skolem.1 hsk
  obtain ⟨U,h1,h2⟩:=sum_over (X:=bco X lc fun q=>lat (X q).l (s.cn + k)) (d:=(((D:Int) * zz:Int):Rat)) (u:=fun q=>if (X q).bas = -1 then 0 else Z (b q) * yq q) (M:=fun q=>(Z (b q)).natAbs * P) s.bn fun q hq=>by
   show bco X lc (fun q=>lat (X q).l (s.cn + k)) q * _ = ((if (X q).bas = -1 then 0 else Z (b q) * yq q:Int):Rat)∧(if (X q).bas = -1 then 0 else Z (b q) * yq q:Int).natAbs≤(Z (b q)).natAbs * P
   by_cases hg:(X q).bas = -1
   ·unfold bco
    rw [if_pos hg,if_pos hg,Rat.zero_mul]
    exact ⟨rfl,Nat.zero_le _⟩
   ·have eb:(X q).bas = (b q:Int):=(h.g q hq).resolve_left hg
    have hbN:b q < N:=by have:=h.l q hq;omega
    obtain ⟨a1,a2⟩:=hyq q hq
    unfold bco
    rw [if_neg hg,if_neg hg,eb,latI_nat]
    refine ⟨?_,?_⟩
    ·rw [hdd,Rat.intCast_mul,← hZ (b q) hbN,← a1]
     show lat lc (b q) * lat (X q).l (s.cn + k) * ((D:Rat) * (zz:Rat)) = (D:Rat) * lat lc (b q) * (lat (X q).l (s.cn + k) * (zz:Rat))
     generalize lat lc (b q) = y1
     generalize lat (X q).l (s.cn + k) = y2
     generalize (D:Rat) = y3
     generalize (zz:Rat) = y4
     grind
    ·rw [Int.natAbs_mul]
     exact Nat.mul_le_mul_left _ a2
  refine ⟨U,h1,Nat.le_trans h2 ?_⟩
  rw [totB_scale]
  exact Nat.mul_le_mul_right _ htot
 ·refine ⟨Z j * zz,?_,?_⟩
  ·rw [hdd,Rat.intCast_mul,← hZ j hj]
   grind
  ·rw [Int.natAbs_mul]
   exact Nat.mul_le_mul (Nat.le_trans (totB_one (f:=fun c=>(Z c).natAbs) hj) hZt) zzP
theorem Gam.mz {w:World} {F:Nat} {f:Bf} {s:StD} {X:Nat→RoD} {b:Nat→Nat} {lc:List (Nat × Rat)} {K KC:Nat} (G:Gam w F f s X b lc K KC) (Z:GmZ s K KC):(∀ n,n≤s.bn→SzR (rsum (fun k=>mul0 X lc s.cn s.bn k * (s.row k).r) n) (K + K + KC))∧∀ j,j < s.cn→∀ n,n≤s.bn→SzR (lat lc j - rsum (fun k=>mul0 X lc s.cn s.bn k * lat (s.row k).l j) n) (K + K + KC):=by
 obtain ⟨z,hz,hK⟩:=Z.z
 obtain ⟨zc,hc,hKC⟩:=G.c
 obtain ⟨dd,HP,h0,h1,h2,h3,h4⟩:=G.p.comm hz hc
 refine ⟨fun n hn=>?_,fun j hj n hn=>?_⟩
 ·have h:=(sum_col hz h0 h1 h3 (x:=0) ⟨0,by rw [Rat.zero_mul];rfl,Nat.zero_le _⟩ h2 (c:=s.cn + s.bn) (by omega) hn).1
  have e:rsum (fun k=>mul0 X lc s.cn s.bn k * TX s.row (s.cn + s.bn) (s.cn + s.bn) k) n = rsum (fun k=>mul0 X lc s.cn s.bn k * (s.row k).r) n:=rsum_congr fun k _=>by
   unfold TX
   rw [if_neg (by omega)]
  rw [e] at h
  exact h.le (by omega)
 ·have h:=(sum_col hz h0 h1 h3 (x:=lat lc j) (h4 j (by omega)) h2 (c:=j) (by omega) hn).2
  have e:rsum (fun k=>mul0 X lc s.cn s.bn k * TX s.row (s.cn + s.bn) j k) n = rsum (fun k=>mul0 X lc s.cn s.bn k * lat (s.row k).l j) n:=rsum_congr fun k _=>by
   unfold TX
   rw [if_pos (by omega)]
  rw [e] at h
  exact h.le (by omega)
theorem dsg_dsg {t:Bool} {a b:Rat}:dsg t a * dsg t b = a * b:=by
 cases t
 ·rfl
 ·show -a * -b = a * b
  grind
def StD.e (s:StD) (i j:Nat):Rat:=if i < s.an then (if j < s.rn i then s.E i j else 0) else 0
theorem Ply.mu_r {s:StD} {X:Nat→RoD} {b:Nat→Nat} (h:Ply s X b) (lc:List (Nat × Rat)) {i:Nat} (hi:i < s.bn):bmu X lc s.cn s.bn i * s.B i = mul0 X lc s.cn s.bn i * (s.row i).r:=by
 unfold bmu
 rw [mul0_eq,h.t i hi]
 show _ = _ * dsg (s.t i) (s.B i)
 generalize mul0 X lc s.cn s.bn i = x
 cases s.t i
 ·rfl
 ·show -x * s.B i = x * -(s.B i)
  grind
theorem Ply.mu_e {s:StD} {X:Nat→RoD} {b:Nat→Nat} (h:Ply s X b) (lc:List (Nat × Rat)) {i j:Nat} (hi:i < s.bn) (hj:j < s.cn):bmu X lc s.cn s.bn i * s.e i j = mul0 X lc s.cn s.bn i * lat (s.row i).l j:=by
 unfold bmu
 rw [mul0_eq,h.t i hi]
 have e:lat (s.row i).l j = dsg (s.t i) (s.e i j):=by
  show lat (fln (s.t i) (s.E i) (s.k i) (s.cn + i)) j = _
  have hk:=s.k_le i
  rw [fln_lat _ _ (by omega),if_neg (by omega)]
  unfold StD.e StD.k
  by_cases ha:i < s.an
  ·rw [if_pos ha,if_pos ha]
   by_cases hr:j < s.rn i
   ·rw [if_pos hr,if_pos (by omega)]
   ·rw [if_neg hr,if_neg (by omega)]
    cases s.t i <;> rfl
  ·rw [if_neg ha,if_neg ha,if_neg (by omega)]
   cases s.t i <;> rfl
 rw [e]
 generalize mul0 X lc s.cn s.bn i = x
 cases s.t i
 ·rfl
 ·show -x * s.e i j = x * -(s.e i j)
  grind
end Go.Proofs.YtmpkgpilfcbdnaaGreatDoor
