import Derived.Test.YtjiodidemimgmaaGreatDoorBoW
namespace Go.Proofs.YtjiodidemimgmaaGreatDoor
open Go.RowKit
def TX (X:Nat→RoD) (N:Nat):Nat→Nat→Rat:=fun c i=>if c < N then lat (X i).l c else (X i).r
theorem Pvt.congr {n:Nat} {A T T':Nat→Nat→Rat} {b:Nat→Nat} (h:Pvt n A T b) (e:∀ c i,i < n→T c i = T' c i):Pvt n A T' b :=
 ⟨fun c r hr=>by rw [h.comb c r hr];exact rsum_congr fun i hi=>by rw [e c i hi],h.ne⟩
structure Ply (s:StD) (X:Nat→RoD) (b:Nat→Nat):Prop where
 p:Pvt s.bn (TX s.row (s.cn + s.bn)) (TX X (s.cn + s.bn)) b
 g:∀ i,i < s.bn→(X i).bas = -1∨(X i).bas = (b i:Int)
 l:∀ i,i < s.bn→b i < s.cn + s.bn
 t:∀ i,i < s.bn→(X i).tu = s.t i
theorem Ply.first {s:StD} {X:Nat→RoD} (hX:∀ q,q < s.bn→X q = s.row q):Ply s X (fun i=>s.cn + i):=by
 refine ⟨Pvt.congr (Pvt.first fun i hi r hr=>?_) (fun c i hi=>?_),fun i hi=>.inr (by rw [hX i hi];rfl),fun i hi=>by show s.cn + i < _;omega,fun i hi=>by rw [hX i hi];rfl⟩
 ·show (if s.cn + i < s.cn + s.bn then lat (s.row r).l (s.cn + i) else _) = _
  rw [if_pos (by omega)]
  show lat (fln (s.t r) (s.E r) (s.k r) (s.cn + r)) (s.cn + i) = _
  have hk:=s.k_le r
  rw [fln_lat _ _ (by omega)]
  by_cases e:r = i
  ·subst e;rw [if_pos rfl,if_pos rfl]
  ·rw [if_neg (by omega),if_neg (by omega),if_neg e]
 ·unfold TX
  rw [hX i hi]
theorem Ply.pivot {s:StD} {X X':Nat→RoD} {b:Nat→Nat} (h:Ply s X b) {i c:Nat} (hr:PivR X X' s.bn i c) (hi:i < s.bn) (hc:c < s.cn + s.bn) (h0:lat (X i).l c ≠ 0):Ply s X' (fun q=>if q = i then c else b q):=by
 have hT:TX X (s.cn + s.bn) c i ≠ 0:=by unfold TX;rw [if_pos hc];exact h0
 refine ⟨(h.p.pivot hi hT).congr fun k q hq=>?_,fun q hq=>?_,fun q hq=>?_,fun q hq=>?_⟩
 ·have ec:∀ q,TX X (s.cn + s.bn) c q = lat (X q).l c:=fun q=>if_pos hc
  unfold pvt
  rw [ec,ec]
  by_cases e:q = i
  ·subst e
   rw [if_pos rfl]
   unfold TX
   by_cases hk:k < s.cn + s.bn
   ·rw [if_pos hk,if_pos hk,hr.li k,Rat.div_def]
   ·rw [if_neg hk,if_neg hk,hr.ri,Rat.div_def]
  ·rw [if_neg e]
   obtain ⟨q1,q2,_,_⟩:=hr.q q hq e
   unfold TX
   by_cases hk:k < s.cn + s.bn
   ·rw [if_pos hk,if_pos hk,if_pos hk,q1 k,hr.li k,Rat.div_def]
   ·rw [if_neg hk,if_neg hk,if_neg hk,q2,hr.ri,Rat.div_def]
    grind
 ·by_cases e:q = i
  ·subst e;rw [if_pos rfl];exact .inr hr.bi
  ·rw [if_neg e,(hr.q q hq e).2.2.1];exact h.g q hq
 ·by_cases e:q = i
  ·rw [if_pos e];exact hc
  ·rw [if_neg e];exact h.l q hq
 ·by_cases e:q = i
  ·subst e;exact hr.ti.trans (h.t q hq)
  ·exact (hr.q q hq e).2.2.2.trans (h.t q hq)
theorem Ply.drop {s:StD} {X:Nat→RoD} {b:Nat→Nat} (h:Ply s X b) (i:Nat):Ply s (upR X i { X i with bas:=-1 }) b:=by
 refine ⟨h.p.congr fun c q hq=>?_,fun q hq=>?_,h.l,fun q hq=>?_⟩
 ·unfold TX upR
  by_cases e:q = i
  ·subst e;rw [if_pos rfl]
  ·rw [if_neg e]
 ·unfold upR
  by_cases e:q = i
  ·rw [if_pos e];exact .inl rfl
  ·rw [if_neg e];exact h.g q hq
 ·unfold upR
  by_cases e:q = i
  ·rw [if_pos e,e];exact h.t i (e ▸ hq)
  ·rw [if_neg e];exact h.t q hq
def StZ (s:StD) (z:Nat→Nat→Nat):Prop:=∀ r,r < s.bn→∀ c,c < s.cn + s.bn + 1→TX s.row (s.cn + s.bn) c r = 0∧z c r = 0∨1≤z c r∧SzR (TX s.row (s.cn + s.bn) c r) (z c r - 1)
def stK (s:StD) (z:Nat→Nat→Nat):Nat:=rws (fun r=>totB (fun c=>z c r) (s.cn + s.bn + 1)) s.bn 0 + 1
theorem pvt_szr {s:StD} {z:Nat→Nat→Nat} (hz:StZ s z) {T:Nat→Nat→Rat} {b:Nat→Nat} (h:Pvt s.bn (TX s.row (s.cn + s.bn)) T b) (hl:∀ i,i < s.bn→b i < s.cn + s.bn) {c i:Nat} (hc:c < s.cn + s.bn + 1) (hi:i < s.bn):SzR (T c i) (stK s z) :=
 h.szr (N:=s.cn + s.bn + 1) (fun i hi=>by have:=hl i hi;omega) (fun i j hi hj e=>h.inj hi hj e) (s:=z) hz hc hi
theorem Ply.pivZ {s:StD} {z:Nat→Nat→Nat} (hz:StZ s z) {X:Nat→RoD} {b:Nat→Nat} (h:Ply s X b) (hk:∀ q,q < s.bn→RoK (X q) (s.cn + s.bn)) {i c:Nat} (hi:i < s.bn) (hc:c < s.cn + s.bn):PivZ X s.bn (stK s z) i c:=by
 intro h0
 have hT:TX X (s.cn + s.bn) c i ≠ 0:=by unfold TX;rw [if_pos hc];exact h0
 have hp:=h.p.pivot hi hT
 have hl:∀ q,q < s.bn→(fun q=>if q = i then c else b q) q < s.cn + s.bn:=fun q hq=>by
  show (if q = i then c else b q) < _
  split
  ·exact hc
  ·exact h.l q hq
 have key:=fun (k q:Nat) (hk:k < s.cn + s.bn + 1) (hq:q < s.bn)=>pvt_szr hz hp hl hk hq
 have ec:∀ q,TX X (s.cn + s.bn) c q = lat (X q).l c:=fun q=>if_pos hc
 have h1:1≤stK s z:=by unfold stK;omega
 refine ⟨fun k=>?_,?_,fun q hq hqi=>⟨fun k=>?_,?_⟩⟩
 ·by_cases hkN:k < s.cn + s.bn
  ·have:=key k i (by omega) hi
   unfold pvt at this
   rw [if_pos rfl,ec,Rat.div_def] at this
   unfold TX at this
   rw [if_pos hkN] at this
   exact this
  ·rw [(hk i hi).2.1.lat (by omega),Rat.zero_mul]
   exact sz_zero h1
 ·have:=key (s.cn + s.bn) i (by omega) hi
  unfold pvt at this
  rw [if_pos rfl,ec,Rat.div_def] at this
  unfold TX at this
  rw [if_neg (by omega)] at this
  exact this
 ·by_cases hkN:k < s.cn + s.bn
  ·have:=key k q (by omega) hq
   unfold pvt at this
   rw [if_neg hqi,ec,ec,Rat.div_def] at this
   unfold TX at this
   rw [if_pos hkN,if_pos hkN] at this
   exact this
  ·rw [(hk i hi).2.1.lat (by omega),(hk q hq).2.1.lat (by omega),Rat.zero_mul,Rat.mul_zero]
   rw [show (0:Rat) - 0 = 0 by grind]
   exact sz_zero h1
 ·have:=key (s.cn + s.bn) q (by omega) hq
  unfold pvt at this
  rw [if_neg hqi,ec,ec,Rat.div_def] at this
  unfold TX at this
  rw [if_neg (by omega),if_neg (by omega)] at this
  rw [show (X q).r - (X i).r * (lat (X i).l c)⁻¹ * lat (X q).l c = (X q).r - lat (X q).l c * ((X i).r * (lat (X i).l c)⁻¹) by grind]
  exact this
theorem totB_up {f:Nat→Nat} {k n:Nat} (h:k≤n):totB f k≤totB f n:=by
 induction n with
 | zero=>rw [show k = 0 by omega];exact Nat.le_refl _
 | succ n ih =>
  rcases (by omega:k≤n∨k = n + 1) with h1 | rfl
  ·have:=ih h1
   show totB f k≤totB f n + f n
   omega
  ·exact Nat.le_refl _
theorem totB_one {f:Nat→Nat} {k n:Nat} (h:k < n):f k≤totB f n:=by
 have h1:totB f (k + 1)≤totB f n:=totB_up h
 have h2:totB f (k + 1) = totB f k + f k:=rfl
 omega
theorem sum_over {X:Nat→Rat} {d:Rat} {u:Nat→Int} {M:Nat→Nat}:∀ k,(∀ q,q < k→X q * d = u q∧(u q).natAbs≤M q)→∃ U:Int,rsum X k * d = U∧U.natAbs≤totB M k
 | 0,_=>⟨0,by show (0:Rat) * d = ((0:Int):Rat);rw [Rat.zero_mul];rfl,Nat.zero_le _⟩
 | k + 1,h=>by
  obtain ⟨U,h1,h2⟩:=sum_over k fun q hq=>h q (by omega)
  obtain ⟨h3,h4⟩:=h k (by omega)
  refine ⟨U + u k,?_,?_⟩
  ·rw [rsum_succ,Rat.add_mul,h1,h3,Rat.intCast_add]
  ·show (U + u k).natAbs≤totB M k + M k
   have:=Int.natAbs_add_le U (u k)
   omega
theorem totB_scale (P:Nat) (f:Nat→Nat):∀ n,totB (fun i=>f i * P) n = totB f n * P
 | 0=>by show 0 = 0 * P;omega
 | n + 1=>by
  show totB (fun i=>f i * P) n + f n * P = (totB f n + f n) * P
  rw [totB_scale P f n,Nat.add_mul]
theorem Ply.rdZ {s:StD} {z:Nat→Nat→Nat} (hz:StZ s z) {X:Nat→RoD} {b:Nat→Nat} (h:Ply s X b) {lc:List (Nat × Rat)} {zc:Nat→Nat} (hc:∀ c,c < s.cn + s.bn→lat lc c = 0∧zc c = 0∨1≤zc c∧SzR (lat lc c) (zc c - 1)) {j:Nat} (hj:j < s.cn + s.bn):RdZ X lc s.bn (stK s z + totB zc (s.cn + s.bn) + 1) (j:Int):=by
 obtain ⟨N,eN⟩:∃ N,N = s.cn + s.bn:=⟨_,rfl⟩
 rw [← eN] at hc hj ⊢
 obtain ⟨zz,zz0,zzP,hcom⟩:=h.p.common (N:=N + 1) (fun i hi=>by have:=h.l i hi;omega)
 have hP:=pds_pw (M:=fun r=>hpr (fun c=>TX s.row (s.cn + s.bn) c r) (N + 1)) (s:=fun r=>totB (fun c=>z c r) (N + 1)) s.bn 0 fun r _ hr=>hpr_pw (N + 1) fun c hc=>hz r (by omega) c (by omega)
 obtain ⟨P,eP⟩:∃ P,P = pds (fun r=>hpr (fun c=>TX s.row (s.cn + s.bn) c r) (N + 1)) s.bn 0:=⟨_,rfl⟩
 rw [← eP] at zzP hP
 simp only [← eP] at hcom
 have hP':(P:Int)≤pw (stK s z - 1):=by
  have e:stK s z - 1 = rws (fun r=>totB (fun c=>z c r) (N + 1)) s.bn 0:=by unfold stK;rw [eN];omega
  rw [e]
  exact hP
 obtain ⟨Z,hZ,hZt⟩:=row_whole (fun c=>lat lc c) N
 have hH:=hpr_pw (X:=fun c=>lat lc c) (s:=zc) N hc
 obtain ⟨H,eH⟩:∃ H,H = hpr (fun c=>lat lc c) N:=⟨_,rfl⟩
 have hDH:=dnp_le (fun c=>lat lc c) N
 have hD0:=dnp_ne (fun c=>lat lc c) N
 obtain ⟨D,eD⟩:∃ D,D = dnp (fun c=>lat lc c) N:=⟨_,rfl⟩
 rw [← eH] at hZt hH hDH
 rw [← eD] at hDH hD0
 simp only [← eD] at hZ
 have hsk:∀ q,∃ y:Int,q < s.bn→lat (X q).l j * (zz:Rat) = y∧y.natAbs≤P:=fun q=>by
  by_cases hq:q < s.bn
  ·obtain ⟨y,h1,h2⟩:=hcom j (by omega) q hq
   refine ⟨y,fun _=>⟨?_,h2⟩⟩
   rw [← h1]
   unfold TX
   rw [if_pos (by omega)]
  ·exact ⟨0,fun h=>absurd h hq⟩
 obtain ⟨yq,hyq⟩:=Classical.skolem.1 hsk
 have hzz:((D:Int) * zz) ≠ 0:=Int.mul_ne_zero (by omega) zz0
 have hdd:(((D:Int) * zz:Int):Rat) = (D:Rat) * (zz:Rat):=by rw [Rat.intCast_mul];rfl
 have hrow:∀ q,q < s.bn→bco X lc (fun q=>latI (X q).l (j:Int)) q * (((D:Int) * zz:Int):Rat) = ((if (X q).bas = -1 then 0 else Z (b q) * yq q:Int):Rat)∧(if (X q).bas = -1 then 0 else Z (b q) * yq q:Int).natAbs≤(fun q=>(Z (b q)).natAbs * P) q:=fun q hq=>by
  by_cases hg:(X q).bas = -1
  ·unfold bco
   rw [if_pos hg,if_pos hg,Rat.zero_mul]
   exact ⟨rfl,Nat.zero_le _⟩
  ·have eb:(X q).bas = (b q:Int):=(h.g q hq).resolve_left hg
   have hbN:b q < N:=by have:=h.l q hq;omega
   obtain ⟨h1,h2⟩:=hyq q hq
   unfold bco
   rw [if_neg hg,if_neg hg,eb]
   simp only [latI_nat]
   refine ⟨?_,?_⟩
   ·rw [hdd,Rat.intCast_mul,← hZ (b q) hbN,← h1]
    grind
   ·rw [Int.natAbs_mul]
    exact Nat.mul_le_mul_left _ h2
 have htot:totB (fun q=>(Z (b q)).natAbs) s.bn≤H:=Nat.le_trans (totB_inj (s:=b) (N:=N) s.bn (fun c=>(Z c).natAbs) (fun i hi=>by have:=h.l i hi;omega) (fun i k hi hk e=>h.p.inj hi hk e)) hZt
 have hsum:∀ k,k≤s.bn→∃ U:Int,rsum (bco X lc fun q=>latI (X q).l (j:Int)) k * (((D:Int) * zz:Int):Rat) = U∧U.natAbs≤H * P:=fun k hk=>by
  obtain ⟨U,h1,h2⟩:=sum_over (M:=fun q=>(Z (b q)).natAbs * P) k fun q hq=>hrow q (by omega)
  refine ⟨U,h1,Nat.le_trans h2 ?_⟩
  rw [totB_scale]
  exact Nat.mul_le_mul_right _ (Nat.le_trans (totB_up hk) htot)
 have hzl:((D:Int) * zz).natAbs≤H * P:=by
  rw [Int.natAbs_mul]
  exact Nat.mul_le_mul (by simpa using hDH) zzP
 have hHP:((H * P:Nat):Int)≤pw (stK s z - 1 + totB zc N):=by
  rw [Nat.mul_comm,pw_add,Int.natCast_mul]
  exact Int.mul_le_mul hP' hH (by omega) (Int.le_of_lt (pw_pos _))
 have h1K:1≤stK s z:=by unfold stK;omega
 have hpp:2 * pw (stK s z - 1 + totB zc N) < pw (stK s z + totB zc N + 1):=by
  have e:stK s z + totB zc N + 1 = stK s z - 1 + totB zc N + 1 + 1:=by omega
  rw [e,pw_succ,pw_succ]
  have:=pw_pos (stK s z - 1 + totB zc N)
  omega
 have hfin:∀ {q:Rat} {y:Int},q * (((D:Int) * zz:Int):Rat) = y→y.natAbs≤2 * (H * P)→SzR q (stK s z + totB zc N + 1):=fun {q y} h1 h2=>by
  obtain ⟨h3,h4⟩:=rat_bd h1 hzz
  exact ⟨by omega,by omega⟩
 refine ⟨fun k hk=>?_,?_⟩
 ·obtain ⟨U,h1,h2⟩:=hsum k hk
  exact hfin h1 (by omega)
 ·obtain ⟨U,h1,h2⟩:=hsum s.bn (Nat.le_refl _)
  refine hfin (y:=Z j * zz - U) ?_ ?_
  ·unfold rdc
   have e1:(latI lc (j:Int) - rsum (bco X lc fun q=>latI (X q).l (j:Int)) s.bn) * (((D:Int) * zz:Int):Rat) = latI lc (j:Int) * (((D:Int) * zz:Int):Rat) - rsum (bco X lc fun q=>latI (X q).l (j:Int)) s.bn * (((D:Int) * zz:Int):Rat):=by grind
   rw [e1,h1,latI_nat,hdd,Rat.intCast_sub,Rat.intCast_mul,← hZ j hj]
   grind
  ·have h3:(Z j * zz).natAbs≤H * P:=by
    rw [Int.natAbs_mul]
    exact Nat.mul_le_mul (Nat.le_trans (totB_one (f:=fun c=>(Z c).natAbs) hj) hZt) zzP
   have:=Int.natAbs_sub_le (Z j * zz) U
   omega
def WdP (w:World) (e:Ending) (w':World):Prop:=∃ x:Int,e = .returned (.int .i64 x)∧w' = w
set_option maxRecDepth 100000 in
set_option maxHeartbeats 8000000 in
theorem pickB (c n:Int) (hn:n ≠ 0) (w:World):Calls Tryz.prog 89 #[.int .i64 c,.int .i64 n] w fun e w'=>WdP w e w':=by
 have hn2:(n == 0) = false:=by simpa using hn
 by_cases hc:c < 0
 ·go_enter Tryz.func89,Tryz.ntmps89
  go_wp2
  go_ret
  exact ⟨_,rfl,rfl⟩
 ·have hc':0≤c:=by omega
  go_enter Tryz.func89,Tryz.ntmps89
  go_wp2
  go_ret
  exact ⟨_,rfl,rfl⟩
def Wd2 (w:World) (e:Ending) (w':World):Prop:=∃ x y:Int,e = .returned (.tuple #[.int .i64 x,.int .i64 y])∧Below w.heap.size w w'
set_option maxRecDepth 100000 in
set_option maxHeartbeats 8000000 in
theorem placesB {kd oi oj:Int} {rw:Bool} {ca:Option Addr} {cn cc:Nat} (m n:Int) (w:World):Calls Tryz.prog 58 #[.agg #[.int .i64 kd,.int .i64 oi,.int .i64 oj,.bool rw,.slice ca cn cc],.int .i64 m,.int .i64 n] w fun e w'=>Wd2 w e w':=by
 have BX:=box_new w #[.int .i64 kd,.int .i64 oi,.int .i64 oj,.bool rw,.slice ca cn cc] 59
 have hb0:=bel_d0 w (.cells #[.int .i64 kd,.int .i64 oi,.int .i64 oj,.bool rw,.slice ca cn cc] 59)
 have x3:=BX 3 _ rfl
 by_cases hraw:rw = true∨m = 0∨n = 0
 ·have HP:∀ w',Below w.heap.size w w'→Wd2 w (.returned (.tuple #[.int .i64 oi,.int .i64 oj])) w':=fun w' h=>⟨_,_,rfl,h⟩
  have key:rw = true∨rw = false∧m = 0∨rw = false∧m ≠ 0∧n = 0:=by
   cases rw with
   | true=>exact .inl rfl
   | false =>
    by_cases hm:m = 0
    ·exact .inr (.inl ⟨rfl,hm⟩)
    ·exact .inr (.inr ⟨rfl,hm,by rcases hraw with h | h | h;cases h;exact absurd h hm;exact h⟩)
  clear hraw
  rcases key with rfl | ⟨rfl,rfl⟩ | ⟨rfl,hm,rfl⟩
  ·skip
   go_enter Tryz.func58,Tryz.ntmps58
   go_wp2_with fail
   generalize w.alloc (.cells #[.int .i64 kd,.int .i64 oi,.int .i64 oj,.bool true,.slice ca cn cc] 59) = W0 at *
   have HBX:∀ w',Below W0.heap.size W0 w'→(w'.cell? ⟨w.heap.size,1,none⟩ = some (.int .i64 oi)∧w'.cell? ⟨w.heap.size,2,none⟩ = some (.int .i64 oj)):=fun w' h=>⟨kept_c h (BX 1 _ rfl),kept_c h (BX 2 _ rfl)⟩
   refine wp_region_noPanic (wp_region_guardB HBX (by as_aux_lemma=>kernel_rfl) ?_)
   have hc0:Below W0.heap.size W0 W0.drew:=bel_d1 _
   generalize W0.drew = z0 at *
   refine wpAnyG.tA 0 (v:=.pointer (some ⟨w.heap.size,1,none⟩)) (by decide) 5 (by as_aux_lemma=>kernel_rfl) (by rfl) ?y0 (HBX _ hc0) ?_
   case y0 =>
    rintro w' ⟨q0,q1⟩
    simp only [lgA,lgZ]
    go_simp
   simp only [lgA,lgZ,Act.put,lsA,lsZ,lsS]
   refine wpAnyG.tA 1 (v:=.int .i64 oi) (by decide) 5 (by as_aux_lemma=>kernel_rfl) (by rfl) ?y1 (HBX _ hc0) ?_
   case y1 =>
    rintro w' ⟨q0,q1⟩
    simp only [lgA,lgZ,lgS]
    go_simp
   simp only [lgA,lgZ,lgS,Act.put,lsA,lsZ,lsS]
   refine wpAnyG.tA 2 (v:=.pointer (some ⟨w.heap.size,2,none⟩)) (by decide) 5 (by as_aux_lemma=>kernel_rfl) (by rfl) ?y2 (HBX _ hc0) ?_
   case y2 =>
    rintro w' ⟨q0,q1⟩
    simp only [lgA,lgZ,lgS]
    go_simp
   simp only [lgA,lgZ,lgS,Act.put,lsA,lsZ,lsS]
   refine wpAnyG.tA 3 (v:=.int .i64 oj) (by decide) 5 (by as_aux_lemma=>kernel_rfl) (by rfl) ?y3 (HBX _ hc0) ?_
   case y3 =>
    rintro w' ⟨q0,q1⟩
    simp only [lgA,lgZ,lgS]
    go_simp
   simp only [lgA,lgZ,lgS,Act.put,lsA,lsZ,lsS]
   refine wpAnyG.tA 4 (v:=.int .i64 oi) (by decide) 5 (by as_aux_lemma=>kernel_rfl) (by rfl) ?y4 (HBX _ hc0) ?_
   case y4 =>
    rintro w' ⟨q0,q1⟩
    simp only [lgA,lgZ,lgS]
    go_simp
   simp only [lgA,lgZ,lgS,Act.put,lsA,lsZ,lsS]
   refine wpAnyG.one 5 (by as_aux_lemma=>kernel_rfl) (by decide) (by rfl) (fun K hK=>?_)
   simp only [lgA,lgZ,lgS]
   go_simp
   refine hK _ _ (HBX _ hc0) ?_
   clear hK K
   refine wpAnyG.done (by as_aux_lemma=>kernel_rfl) (NoPanic.normal ?_)
   have HP:=HP _ (bel_tr hb0 hc0)
   clear HBX BX hc0
   go_wp2
   go_ret2
   exact HP
  ·skip
   go_enter Tryz.func58,Tryz.ntmps58
   go_wp2_with fail
   generalize w.alloc (.cells #[.int .i64 kd,.int .i64 oi,.int .i64 oj,.bool false,.slice ca cn cc] 59) = W0 at *
   have HBX:∀ w',Below W0.heap.size W0 w'→(w'.cell? ⟨w.heap.size,1,none⟩ = some (.int .i64 oi)∧w'.cell? ⟨w.heap.size,2,none⟩ = some (.int .i64 oj)):=fun w' h=>⟨kept_c h (BX 1 _ rfl),kept_c h (BX 2 _ rfl)⟩
   refine wp_region_noPanic (wp_region_guardB HBX (by as_aux_lemma=>kernel_rfl) ?_)
   have hc0:Below W0.heap.size W0 W0.drew:=bel_d1 _
   generalize W0.drew = z0 at *
   refine wpAnyG.tA 0 (v:=.pointer (some ⟨w.heap.size,1,none⟩)) (by decide) 5 (by as_aux_lemma=>kernel_rfl) (by rfl) ?y0 (HBX _ hc0) ?_
   case y0 =>
    rintro w' ⟨q0,q1⟩
    simp only [lgA,lgZ]
    go_simp
   simp only [lgA,lgZ,Act.put,lsA,lsZ,lsS]
   refine wpAnyG.tA 1 (v:=.int .i64 oi) (by decide) 5 (by as_aux_lemma=>kernel_rfl) (by rfl) ?y1 (HBX _ hc0) ?_
   case y1 =>
    rintro w' ⟨q0,q1⟩
    simp only [lgA,lgZ,lgS]
    go_simp
   simp only [lgA,lgZ,lgS,Act.put,lsA,lsZ,lsS]
   refine wpAnyG.tA 2 (v:=.pointer (some ⟨w.heap.size,2,none⟩)) (by decide) 5 (by as_aux_lemma=>kernel_rfl) (by rfl) ?y2 (HBX _ hc0) ?_
   case y2 =>
    rintro w' ⟨q0,q1⟩
    simp only [lgA,lgZ,lgS]
    go_simp
   simp only [lgA,lgZ,lgS,Act.put,lsA,lsZ,lsS]
   refine wpAnyG.tA 3 (v:=.int .i64 oj) (by decide) 5 (by as_aux_lemma=>kernel_rfl) (by rfl) ?y3 (HBX _ hc0) ?_
   case y3 =>
    rintro w' ⟨q0,q1⟩
    simp only [lgA,lgZ,lgS]
    go_simp
   simp only [lgA,lgZ,lgS,Act.put,lsA,lsZ,lsS]
   refine wpAnyG.tA 4 (v:=.int .i64 oi) (by decide) 5 (by as_aux_lemma=>kernel_rfl) (by rfl) ?y4 (HBX _ hc0) ?_
   case y4 =>
    rintro w' ⟨q0,q1⟩
    simp only [lgA,lgZ,lgS]
    go_simp
   simp only [lgA,lgZ,lgS,Act.put,lsA,lsZ,lsS]
   refine wpAnyG.one 5 (by as_aux_lemma=>kernel_rfl) (by decide) (by rfl) (fun K hK=>?_)
   simp only [lgA,lgZ,lgS]
   go_simp
   refine hK _ _ (HBX _ hc0) ?_
   clear hK K
   refine wpAnyG.done (by as_aux_lemma=>kernel_rfl) (NoPanic.normal ?_)
   have HP:=HP _ (bel_tr hb0 hc0)
   clear HBX BX hc0
   go_wp2
   go_ret2
   exact HP
  ·skip
   have hm2:(m == 0) = false:=by simpa using hm
   go_enter Tryz.func58,Tryz.ntmps58
   go_wp2_with fail
   generalize w.alloc (.cells #[.int .i64 kd,.int .i64 oi,.int .i64 oj,.bool false,.slice ca cn cc] 59) = W0 at *
   have HBX:∀ w',Below W0.heap.size W0 w'→(w'.cell? ⟨w.heap.size,1,none⟩ = some (.int .i64 oi)∧w'.cell? ⟨w.heap.size,2,none⟩ = some (.int .i64 oj)):=fun w' h=>⟨kept_c h (BX 1 _ rfl),kept_c h (BX 2 _ rfl)⟩
   refine wp_region_noPanic (wp_region_guardB HBX (by as_aux_lemma=>kernel_rfl) ?_)
   have hc0:Below W0.heap.size W0 W0.drew:=bel_d1 _
   generalize W0.drew = z0 at *
   refine wpAnyG.tA 0 (v:=.pointer (some ⟨w.heap.size,1,none⟩)) (by decide) 5 (by as_aux_lemma=>kernel_rfl) (by rfl) ?y0 (HBX _ hc0) ?_
   case y0 =>
    rintro w' ⟨q0,q1⟩
    simp only [lgA,lgZ]
    go_simp
   simp only [lgA,lgZ,Act.put,lsA,lsZ,lsS]
   refine wpAnyG.tA 1 (v:=.int .i64 oi) (by decide) 5 (by as_aux_lemma=>kernel_rfl) (by rfl) ?y1 (HBX _ hc0) ?_
   case y1 =>
    rintro w' ⟨q0,q1⟩
    simp only [lgA,lgZ,lgS]
    go_simp
   simp only [lgA,lgZ,lgS,Act.put,lsA,lsZ,lsS]
   refine wpAnyG.tA 2 (v:=.pointer (some ⟨w.heap.size,2,none⟩)) (by decide) 5 (by as_aux_lemma=>kernel_rfl) (by rfl) ?y2 (HBX _ hc0) ?_
   case y2 =>
    rintro w' ⟨q0,q1⟩
    simp only [lgA,lgZ,lgS]
    go_simp
   simp only [lgA,lgZ,lgS,Act.put,lsA,lsZ,lsS]
   refine wpAnyG.tA 3 (v:=.int .i64 oj) (by decide) 5 (by as_aux_lemma=>kernel_rfl) (by rfl) ?y3 (HBX _ hc0) ?_
   case y3 =>
    rintro w' ⟨q0,q1⟩
    simp only [lgA,lgZ,lgS]
    go_simp
   simp only [lgA,lgZ,lgS,Act.put,lsA,lsZ,lsS]
   refine wpAnyG.tA 4 (v:=.int .i64 oi) (by decide) 5 (by as_aux_lemma=>kernel_rfl) (by rfl) ?y4 (HBX _ hc0) ?_
   case y4 =>
    rintro w' ⟨q0,q1⟩
    simp only [lgA,lgZ,lgS]
    go_simp
   simp only [lgA,lgZ,lgS,Act.put,lsA,lsZ,lsS]
   refine wpAnyG.one 5 (by as_aux_lemma=>kernel_rfl) (by decide) (by rfl) (fun K hK=>?_)
   simp only [lgA,lgZ,lgS]
   go_simp
   refine hK _ _ (HBX _ hc0) ?_
   clear hK K
   refine wpAnyG.done (by as_aux_lemma=>kernel_rfl) (NoPanic.normal ?_)
   have HP:=HP _ (bel_tr hb0 hc0)
   clear HBX BX hc0
   go_wp2
   go_ret2
   exact HP
 ·obtain ⟨h1,hm,hn⟩:rw = false∧m ≠ 0∧n ≠ 0:=⟨by cases rw with | true=>exact absurd (.inl rfl) hraw | false=>rfl,fun e=>hraw (.inr (.inl e)),fun e=>hraw (.inr (.inr e))⟩
  subst h1
  have hm2:(m == 0) = false:=by simpa using hm
  have hn2:(n == 0) = false:=by simpa using hn
  have HP:∀ x y w',Below w.heap.size w w'→Wd2 w (.returned (.tuple #[.int .i64 x,.int .i64 y])) w':=fun x y w' h=>⟨x,y,rfl,h⟩
  clear hraw
  go_enter Tryz.func58,Tryz.ntmps58
  go_wp2_with fail
  generalize w.alloc (.cells #[.int .i64 kd,.int .i64 oi,.int .i64 oj,.bool false,.slice ca cn cc] 59) = W0 at *
  have HBX:∀ w',Below W0.heap.size W0 w'→(w'.cell? ⟨w.heap.size,1,none⟩ = some (.int .i64 oi)∧w'.cell? ⟨w.heap.size,2,none⟩ = some (.int .i64 oj)):=fun w' h=>⟨kept_c h (BX 1 _ rfl),kept_c h (BX 2 _ rfl)⟩
  refine wp_region_noPanic (wp_region_guardB HBX (by as_aux_lemma=>kernel_rfl) ?_)
  have hc0:Below W0.heap.size W0 W0.drew:=bel_d1 _
  generalize W0.drew = z0 at *
  refine wpAnyG.tA 0 (v:=.pointer (some ⟨w.heap.size,1,none⟩)) (by decide) 9 (by as_aux_lemma=>kernel_rfl) (by rfl) ?y0 (HBX _ hc0) ?_
  case y0 =>
   rintro w' ⟨q0,q1⟩
   simp only [lgA,lgZ]
   go_simp
  simp only [lgA,lgZ,Act.put,lsA,lsZ,lsS]
  refine wpAnyG.tA 1 (v:=.int .i64 oi) (by decide) 9 (by as_aux_lemma=>kernel_rfl) (by rfl) ?y1 (HBX _ hc0) ?_
  case y1 =>
   rintro w' ⟨q0,q1⟩
   simp only [lgA,lgZ,lgS]
   go_simp
  simp only [lgA,lgZ,lgS,Act.put,lsA,lsZ,lsS]
  refine wpAnyG.tA 2 (v:=.int .i64 m) (by decide) 9 (by as_aux_lemma=>kernel_rfl) (by rfl) ?y2 (HBX _ hc0) ?_
  case y2 =>
   rintro w' ⟨q0,q1⟩
   simp only [lgA,lgZ,lgS]
   go_simp
  simp only [lgA,lgZ,lgS,Act.put,lsA,lsZ,lsS]
  refine wpAnyG.tA 4 (v:=.pointer (some ⟨w.heap.size,2,none⟩)) (by decide) 9 (by as_aux_lemma=>kernel_rfl) (by rfl) ?y4 (HBX _ hc0) ?_
  case y4 =>
   rintro w' ⟨q0,q1⟩
   simp only [lgA,lgZ,lgS]
   go_simp
  simp only [lgA,lgZ,lgS,Act.put,lsA,lsZ,lsS]
  refine wpAnyG.tA 5 (v:=.int .i64 oj) (by decide) 9 (by as_aux_lemma=>kernel_rfl) (by rfl) ?y5 (HBX _ hc0) ?_
  case y5 =>
   rintro w' ⟨q0,q1⟩
   simp only [lgA,lgZ,lgS]
   go_simp
  simp only [lgA,lgZ,lgS,Act.put,lsA,lsZ,lsS]
  refine wpAnyG.tA 6 (v:=.int .i64 n) (by decide) 9 (by as_aux_lemma=>kernel_rfl) (by rfl) ?y6 (HBX _ hc0) ?_
  case y6 =>
   rintro w' ⟨q0,q1⟩
   simp only [lgA,lgZ,lgS]
   go_simp
  simp only [lgA,lgZ,lgS,Act.put,lsA,lsZ,lsS]
  refine wpAnyG.one 3 (by as_aux_lemma=>kernel_rfl) (by decide) (by rfl) (fun K hK=>?_)
  simp only [lgA,lgZ,lgS]
  go_simp
  refine (pickB oi m hm z0).mono ?_
  rintro e z1 ⟨x1,rfl,rfl⟩
  have hc1:=hc0
  dsimp only
  refine hK _ _ (HBX _ hc1) ?_
  clear hK K
  refine wpAnyG.one 7 (by as_aux_lemma=>kernel_rfl) (by decide) (by rfl) (fun K hK=>?_)
  simp only [lgA,lgZ,lgS]
  go_simp
  refine (pickB oj n hn z1).mono ?_
  rintro e z2 ⟨x2,rfl,rfl⟩
  have hc2:=hc1
  dsimp only
  refine hK _ _ (HBX _ hc2) ?_
  clear hK K
  refine wpAnyG.tA 8 (v:=.int .i64 x1) (by decide) 9 (by as_aux_lemma=>kernel_rfl) (by rfl) ?y8 (HBX _ hc2) ?_
  case y8 =>
   rintro w' ⟨q0,q1⟩
   simp only [lgA,lgZ,lgS]
   go_simp
  simp only [lgA,lgZ,lgS,Act.put,lsA,lsZ,lsS]
  refine wpAnyG.one 9 (by as_aux_lemma=>kernel_rfl) (by decide) (by rfl) (fun K hK=>?_)
  simp only [lgA,lgZ,lgS]
  go_simp
  refine hK _ _ (HBX _ hc2) ?_
  clear hK K
  refine wpAnyG.done (by as_aux_lemma=>kernel_rfl) (NoPanic.normal ?_)
  have HP:=HP x1 x2 _ (bel_tr hb0 hc2)
  clear HBX BX hc0 hc1 hc2
  go_wp2
  go_ret2
  exact HP
end Go.Proofs.YtjiodidemimgmaaGreatDoor
