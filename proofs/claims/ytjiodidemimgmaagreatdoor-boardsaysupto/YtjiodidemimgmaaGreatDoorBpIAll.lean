import Derived.Test.YtjiodidemimgmaaGreatDoorBpFAll
namespace Go.Proofs.YtjiodidemimgmaaGreatDoor
open Go.RowKit
theorem rsum_at (v:Rat) {i:Nat}:∀ m,rsum (fun q=>if q = i then v else 0) m = if i < m then v else 0
 | 0=>rfl
 | m + 1=>by
  rw [rsum_succ,rsum_at v m]
  by_cases h:i < m
  ·rw [if_pos h,if_neg (by omega),if_pos (by omega),Rat.add_zero]
  ·rw [if_neg h]
   by_cases e:m = i
   ·rw [if_pos e,if_pos (by omega),Rat.zero_add]
   ·rw [if_neg e,if_neg (by omega),Rat.add_zero]
theorem rsum_swp (f:Nat→Nat→Rat) (n:Nat):∀ m,rsum (fun j=>rsum (fun i=>f i j) m) n = rsum (fun i=>rsum (fun j=>f i j) n) m
 | 0=>rsum_zrB n fun _ _=>rfl
 | m + 1=>by
  rw [rsum_succ,← rsum_swp f n m,← rsum_add]
  exact rsum_congr fun _ _=>rsum_succ _ _
theorem Pvt.uniq {n:Nat} {A T:Nat→Nat→Rat} {b:Nat→Nat} (h:Pvt n A T b) {x y:Nat→Rat} (e:∀ r,r < n→rsum (fun i=>x i * A (b i) r) n = rsum (fun i=>y i * A (b i) r) n) {i:Nat} (hi:i < n):x i = y i:=by
 have e1:=cramer (n:=n) (k:=0) (C:=fun i=>A (b i)) (x:=x) (v:=fun r=>rsum (fun i=>x i * A (b i) r) n) hi fun r _ _=>rfl
 have e2:=cramer (n:=n) (k:=0) (C:=fun i=>A (b i)) (x:=y) (v:=fun r=>rsum (fun i=>x i * A (b i) r) n) hi fun r _ hr=>e r (by omega)
 have e3:(x i - y i) * dtm n 0 (fun i=>A (b i)) = 0:=by
  rw [e1] at e2
  generalize dtm n 0 (fun i=>A (b i)) = d at *
  grind
 rcases Rat.mul_eq_zero.1 e3 with h1 | h1
 ·grind
 ·exact absurd h1 h.ne
theorem Pvt.lin {n:Nat} {A T:Nat→Nat→Rat} {b a:Nat→Nat} (h:Pvt n A T b) (ha:∀ k,k < n→∀ r,r < n→A (a k) r = if r = k then 1 else 0) (c:Nat) {i:Nat} (hi:i < n):T c i = rsum (fun k=>T (a k) i * A c k) n:=by
 refine h.uniq (x:=T c) (y:=fun i=>rsum (fun k=>T (a k) i * A c k) n) (fun r hr=>?_) hi
 rw [← h.comb c r hr]
 have e:rsum (fun i=>rsum (fun k=>T (a k) i * A c k) n * A (b i) r) n = rsum (fun i=>rsum (fun k=>A c k * (T (a k) i * A (b i) r)) n) n:=rsum_congr fun i _=>by
  rw [← rsum_mul]
  exact rsum_congr fun k _=>by grind
 rw [e,rsum_swp]
 have e2:rsum (fun k=>rsum (fun i=>A c k * (T (a k) i * A (b i) r)) n) n = rsum (fun k=>if k = r then A c r else 0) n:=rsum_congr fun k hk=>by
  rw [rsum_lmB,← h.comb (a k) r hr,ha k hk r hr]
  by_cases e:k = r
  ·subst e;rw [if_pos rfl,if_pos rfl,Rat.mul_one]
  ·rw [if_neg e,if_neg (fun h=>e h.symm),Rat.mul_zero]
 rw [e2,rsum_at,if_pos hr]
theorem Ply.lin {s:StD} {X:Nat→RoD} {b:Nat→Nat} (h:Ply s X b) (c:Nat) {i:Nat} (hi:i < s.bn):TX X (s.cn + s.bn) c i = rsum (fun k=>lat (X i).l (s.cn + k) * TX s.row (s.cn + s.bn) c k) s.bn:=by
 refine (h.p.lin (a:=fun k=>s.cn + k) (fun k hk r hr=>?_) c hi).trans (rsum_congr fun k hk=>?_)
 ·show TX s.row (s.cn + s.bn) (s.cn + k) r = _
  unfold TX
  rw [if_pos (by omega)]
  show lat (fln (s.t r) (s.E r) (s.k r) (s.cn + r)) (s.cn + k) = _
  have hk2:=s.k_le r
  rw [fln_lat _ _ (by omega)]
  by_cases e:r = k
  ·subst e;rw [if_pos rfl,if_pos rfl]
  ·rw [if_neg (by omega),if_neg (by omega),if_neg e]
 ·show TX X (s.cn + s.bn) (s.cn + k) i * _ = _
  unfold TX
  rw [if_pos (by omega)]
theorem col_le (s:StD) (z:Nat→Nat→Nat) {c:Nat} (hc:c < s.cn + s.bn + 1):totB (fun k=>z c k) s.bn + 1≤stK s z:=by
 unfold stK
 rw [rws_tot]
 refine Nat.add_le_add_right (totB_mono _ fun i _=>?_) 1
 show z c i≤totB (fun c=>z c (0 + i)) (s.cn + s.bn + 1)
 rw [Nat.zero_add]
 exact totB_one (f:=fun c=>z c i) hc
theorem sum_col {s:StD} {z:Nat→Nat→Nat} (hz:StZ s z) {Y:Nat→Rat} {dd:Int} {HP:Nat} (h0:dd ≠ 0) (hd:dd.natAbs≤HP) (hY:∀ k,k < s.bn→∃ u:Int,Y k * (dd:Rat) = u∧u.natAbs≤HP) {x:Rat} (hx:∃ v:Int,x * (dd:Rat) = v∧v.natAbs≤HP) {L:Nat} (hL:(HP:Int)≤pw L) {c:Nat} (hc:c < s.cn + s.bn + 1) {n:Nat} (hn:n≤s.bn):SzR (rsum (fun k=>Y k * TX s.row (s.cn + s.bn) c k) n) (L + stK s z)∧SzR (x - rsum (fun k=>Y k * TX s.row (s.cn + s.bn) c k) n) (L + stK s z):=by
 obtain ⟨Z,hZ,hZt⟩:=row_whole (fun k=>TX s.row (s.cn + s.bn) c k) s.bn
 have hH:=hpr_pw (X:=fun k=>TX s.row (s.cn + s.bn) c k) (s:=fun k=>z c k) s.bn fun k hk=>hz k hk c hc
 have hDH:=dnp_le (fun k=>TX s.row (s.cn + s.bn) c k) s.bn
 have hD0:=dnp_ne (fun k=>TX s.row (s.cn + s.bn) c k) s.bn
 obtain ⟨H,eH⟩:∃ H,H = hpr (fun k=>TX s.row (s.cn + s.bn) c k) s.bn:=⟨_,rfl⟩
 obtain ⟨D,eD⟩:∃ D,D = dnp (fun k=>TX s.row (s.cn + s.bn) c k) s.bn:=⟨_,rfl⟩
 rw [← eH] at hZt hH hDH
 rw [← eD] at hDH hD0
 simp only [← eD] at hZ
 have hk1:=col_le s z hc
 have hsk:∀ k,∃ u:Int,k < s.bn→Y k * (dd:Rat) = u∧u.natAbs≤HP:=fun k=>by
  by_cases hk:k < s.bn
  ·obtain ⟨u,h1,h2⟩:=hY k hk
   exact ⟨u,fun _=>⟨h1,h2⟩⟩
  ·exact ⟨0,fun h=>absurd h hk⟩
 obtain ⟨u,hu⟩:=Classical.skolem.1 hsk
 have hdd:(((D:Int) * dd:Int):Rat) = (D:Rat) * (dd:Rat):=by rw [Rat.intCast_mul];rfl
 have hne:((D:Int) * dd) ≠ 0:=Int.mul_ne_zero (by omega) h0
 obtain ⟨U,h1,h2⟩:=sum_over (X:=fun k=>Y k * TX s.row (s.cn + s.bn) c k) (d:=(((D:Int) * dd:Int):Rat)) (u:=fun k=>u k * Z k) (M:=fun k=>(Z k).natAbs * HP) n fun k hk=>by
  obtain ⟨a1,a2⟩:=hu k (by omega)
  refine ⟨?_,?_⟩
  ·show Y k * TX s.row (s.cn + s.bn) c k * _ = _
   rw [hdd,Rat.intCast_mul,← hZ k (by omega),← a1]
   generalize Y k = y1
   generalize TX s.row (s.cn + s.bn) c k = y2
   grind
  ·show (u k * Z k).natAbs≤(Z k).natAbs * HP
   rw [Int.natAbs_mul,Nat.mul_comm]
   exact Nat.mul_le_mul_left _ a2
 have h2':U.natAbs≤H * HP:=by
  refine Nat.le_trans h2 ?_
  rw [totB_scale]
  exact Nat.mul_le_mul_right _ (Nat.le_trans (totB_up hn) hZt)
 have hzl:((D:Int) * dd).natAbs≤H * HP:=by
  rw [Int.natAbs_mul]
  exact Nat.mul_le_mul (by simpa using hDH) hd
 have hHP:((H * HP:Nat):Int)≤pw (L + (stK s z - 1)):=by
  rw [Nat.mul_comm,pw_add,Int.natCast_mul]
  exact Int.mul_le_mul hL (Int.le_trans hH (pw_mono (by omega))) (by omega) (Int.le_of_lt (pw_pos _))
 have hpp:2 * pw (L + (stK s z - 1)) < pw (L + stK s z):=by
  have e:L + stK s z = L + (stK s z - 1) + 1:=by omega
  rw [e,pw_succ]
  have:=pw_pos (L + (stK s z - 1))
  omega
 have hfin:∀ {q:Rat} {y:Int},q * (((D:Int) * dd:Int):Rat) = y→y.natAbs≤2 * (H * HP)→SzR q (L + stK s z):=fun {q y} h1 h2=>by
  obtain ⟨h3,h4⟩:=rat_bd h1 hne
  exact ⟨by omega,by omega⟩
 obtain ⟨v,hv1,hv2⟩:=hx
 refine ⟨hfin h1 (by omega),hfin (y:=v * D - U) ?_ ?_⟩
 ·have e1:(x - rsum (fun k=>Y k * TX s.row (s.cn + s.bn) c k) n) * (((D:Int) * dd:Int):Rat) = x * (((D:Int) * dd:Int):Rat) - rsum (fun k=>Y k * TX s.row (s.cn + s.bn) c k) n * (((D:Int) * dd:Int):Rat):=by grind
  rw [e1,h1,hdd,Rat.intCast_sub,Rat.intCast_mul,← hv1]
  show x * ((D:Rat) * (dd:Rat)) - (U:Rat) = x * (dd:Rat) * ((D:Int):Rat) - (U:Rat)
  rw [show ((D:Int):Rat) = (D:Rat) from rfl]
  generalize (U:Rat) = y1
  grind
 ·have h5:(v * D).natAbs≤H * HP:=by
   rw [Int.natAbs_mul,Nat.mul_comm]
   exact Nat.mul_le_mul (by simpa using hDH) hv2
  omega
def StD.e (s:StD) (i j:Nat):Rat:=if i < s.an then (if j < s.rn i then s.E i j else 0) else 0
end Go.Proofs.YtjiodidemimgmaaGreatDoor
