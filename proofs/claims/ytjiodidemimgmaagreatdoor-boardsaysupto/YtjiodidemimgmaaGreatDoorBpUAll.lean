import Derived.Test.YtjiodidemimgmaaGreatDoorBpIAll
import Derived.Test.YtjiodidemimgmaaGreatDoorQAll
import Derived.Test.YtjiodidemimgmaaGreatDoorBpFAll
namespace Go.Proofs.YtjiodidemimgmaaGreatDoor
open Go.RowKit
theorem Ply.saysZ {s:StD} {z:Nat→Nat→Nat} (hz:StZ s z) {X:Nat→RoD} {b:Nat→Nat} (h:Ply s X b) {r:Nat} (hr:r < s.bn) {c:Nat} (hc:c < s.cn + s.bn + 1) {n:Nat} (hn:n≤s.bn):SzR (rsum (fun k=>lat (X r).l (s.cn + k) * TX s.row (s.cn + s.bn) c k) n) (stK s z + stK s z):=by
 obtain ⟨N,eN⟩:∃ N,N = s.cn + s.bn:=⟨_,rfl⟩
 obtain ⟨zz,zz0,zzP,hcom⟩:=h.p.common (N:=N + 1) (fun i hi=>by have:=h.l i hi;omega)
 have hP:=pds_pw (M:=fun r=>hpr (fun c=>TX s.row (s.cn + s.bn) c r) (N + 1)) (s:=fun r=>totB (fun c=>z c r) (N + 1)) s.bn 0 fun r _ hr=>hpr_pw (N + 1) fun c hc=>hz r (by omega) c (by omega)
 obtain ⟨P,eP⟩:∃ P,P = pds (fun r=>hpr (fun c=>TX s.row (s.cn + s.bn) c r) (N + 1)) s.bn 0:=⟨_,rfl⟩
 rw [← eP] at zzP hP
 simp only [← eP] at hcom
 have hP':(P:Int)≤pw (stK s z - 1):=by
  have e:stK s z - 1 = rws (fun r=>totB (fun c=>z c r) (N + 1)) s.bn 0:=by unfold stK;rw [eN];omega
  rw [e]
  exact hP
 refine SzR.le (sum_col hz zz0 zzP (Y:=fun k=>lat (X r).l (s.cn + k)) (fun k hk=>?_) (x:=0) ⟨0,by rw [Rat.zero_mul];rfl,Nat.zero_le _⟩ hP' hc hn).1 (by omega)
 obtain ⟨y,h1,h2⟩:=hcom (s.cn + k) (by omega) r hr
 refine ⟨y,?_,h2⟩
 rw [← h1]
 show lat (X r).l (s.cn + k) * (zz:Rat) = TX X (s.cn + s.bn) (s.cn + k) r * (zz:Rat)
 unfold TX
 rw [if_pos (by omega)]
theorem StD.row_e (s:StD) {k j:Nat} (hj:j < s.cn):lat (s.row k).l j = dsg (s.t k) (s.e k j):=by
 show lat (fln (s.t k) (s.E k) (s.k k) (s.cn + k)) j = _
 have hk:=s.k_le k
 rw [fln_lat _ _ (by omega),if_neg (by omega)]
 unfold StD.e StD.k
 by_cases ha:k < s.an
 ·rw [if_pos ha,if_pos ha]
  by_cases hr:j < s.rn k
  ·rw [if_pos hr,if_pos (by omega)]
  ·rw [if_neg hr,if_neg (by omega)]
   cases s.t k <;> rfl
 ·rw [if_neg ha,if_neg ha,if_neg (by omega)]
  cases s.t k <;> rfl
theorem cs_slf {r s:Rat} (h:r = s):(0:Int) = cs r s:=by subst h;unfold cs;rw [Int.sub_self];rfl
set_option maxRecDepth 100000 in
set_option maxHeartbeats 8000000 in
theorem sameL {p q:Bool} {a b:Option Addr} {na nb ca cb:Nat} {d e0:Option Addr} {nd ne cd ce:Nat} {r s:Rat} {B B' S R:Nat} (w:World) (hr:GR w B p a na ca d nd cd r S) (hs:GR w B' q b nb cb e0 ne ce s R) (he:r = s) (hSR:S + R≤6000000) (hS1:1≤S) (hR1:1≤R) :
  Calls Tryz.prog 11 #[.agg #[.bool p,.slice a na ca,.slice d nd cd],.agg #[.bool q,.slice b nb cb,.slice e0 ne ce]] w fun e w'=>e = .returned (.bool true)∧Below w.heap.size w w':=by
 obtain ⟨P0,P1,hb0,hsz⟩:=box_rr w (.bool p) (.slice a na ca) (.slice d nd cd) (.bool q) (.slice b nb cb) (.slice e0 ne ce) 29
 replace hr:=hr.below hb0
 replace hs:=hs.below hb0
 have HE:Hid ((0:Int) = cs r s):=cs_slf he
 clear he hsz
 go_enter Tryz.func11,Tryz.ntmps11
 go_wp2_with fail
 generalize (w.alloc (.cells #[.bool p,.slice a na ca,.slice d nd cd] 29)).alloc (.cells #[.bool q,.slice b nb cb,.slice e0 ne ce] 29) = W0 at *
 obtain ⟨p0c0,p0c1,p0c2,p0c3,p0c4,p0c5⟩:=id P0
 obtain ⟨p1c0,p1c1,p1c2,p1c3,p1c4,p1c5⟩:=id P1
 go_wp2_with fail
 refine (cmpD 0 W0 hr.tr hs.tr hSR hS1 hR1 HE.out).mono ?_
 rintro e w1 ⟨rfl,h1⟩
 have hbn:=bel_tr hb0 h1
 clear p0c0 p0c1 p0c2 p0c3 p0c4 p0c5 p1c0 p1c1 p1c2 p1c3 p1c4 p1c5 P0 P1 hr hs h1 hb0
 go_wp2
 go_ret
 exact ⟨rfl,hbn⟩
set_option maxRecDepth 100000 in
set_option maxHeartbeats 8000000 in
theorem plusB {p1:Bool} {a1:Option Addr} {n1 c1:Nat} {d1:Option Addr} {m1 e1:Nat} {r1:Rat} {p2:Bool} {a2:Option Addr} {n2 c2:Nat} {d2:Option Addr} {m2 e2:Nat} {r2:Rat} {p3:Bool} {a3:Option Addr} {n3 c3:Nat} {d3:Option Addr} {m3 e3:Nat} {r3:Rat} {S1 S2 S3:Nat} (w:World) (h1:TR w p1 a1 n1 c1 d1 m1 e1 r1 S1) (h2:TR w p2 a2 n2 c2 d2 m2 e2 r2 S2) (h3:TR w p3 a3 n3 c3 d3 m3 e3 r3 S3) (hS:1≤S1∧1≤S2∧1≤S3) (hSS:S1 + S2 + S3≤6000000) :
  Calls Tryz.prog 7 #[.agg #[.bool p1,.slice a1 n1 c1,.slice d1 m1 e1],.agg #[.bool p2,.slice a2 n2 c2,.slice d2 m2 e2],.agg #[.bool p3,.slice a3 n3 c3,.slice d3 m3 e3]] w fun e w'=>NumP w (r1 + r2 * r3) (S1 + (S2 + S3) + 1) e w':=by
 obtain ⟨V1,V2,V3,V4,hb0,hsz⟩:=box_r3r w (.bool p1) (.slice a1 n1 c1) (.slice d1 m1 e1) (.bool p2) (.slice a2 n2 c2) (.slice d2 m2 e2) (.bool p3) (.slice a3 n3 c3) (.slice d3 m3 e3) (.bool false) (.slice none 0 0) (.slice none 0 0) 29
 replace h1:=h1.below hb0
 replace h2:=h2.below hb0
 replace h3:=h3.below hb0
 go_enter Tryz.func7,Tryz.ntmps7
 go_wp2_with fail
 generalize (((w.alloc (.cells #[.bool p1,.slice a1 n1 c1,.slice d1 m1 e1] 29)).alloc (.cells #[.bool p2,.slice a2 n2 c2,.slice d2 m2 e2] 29)).alloc (.cells #[.bool p3,.slice a3 n3 c3,.slice d3 m3 e3] 29)).alloc (.cells #[.bool false,.slice none 0 0,.slice none 0 0] 29) = W0 at *
 have HBX:∀ w',Below W0.heap.size W0 w'→(w'.cell? ⟨w.heap.size,0,none⟩ = some (.bool p1)∧w'.cell? ⟨w.heap.size,1,none⟩ = some (.slice a1 n1 c1)∧w'.cell? ⟨w.heap.size,2,none⟩ = some (.slice d1 m1 e1)∧w'.cell? ⟨w.heap.size + 1,0,none⟩ = some (.bool p2)∧w'.cell? ⟨w.heap.size + 1,1,none⟩ = some (.slice a2 n2 c2)∧w'.cell? ⟨w.heap.size + 1,2,none⟩ = some (.slice d2 m2 e2)∧w'.cell? ⟨w.heap.size + 2,0,none⟩ = some (.bool p3)∧w'.cell? ⟨w.heap.size + 2,1,none⟩ = some (.slice a3 n3 c3)∧w'.cell? ⟨w.heap.size + 2,2,none⟩ = some (.slice d3 m3 e3)):=fun w' h=>⟨kept_c h V1.c0,kept_c h V1.c1,kept_c h V1.c2,kept_c h V2.c0,kept_c h V2.c1,kept_c h V2.c2,kept_c h V3.c0,kept_c h V3.c1,kept_c h V3.c2⟩
 refine wp_region_noPanic (wp_region_guardT 5 HBX (by as_aux_lemma=>kernel_rfl) ?_)
 have hc0:Below W0.heap.size W0 W0.drew:=bel_d1 _
 generalize W0.drew = z0 at *
 refine wpAnyG.tT 0 (v:=.agg #[.bool p1,.slice a1 n1 c1,.slice d1 m1 e1]) (by decide) 5 (by as_aux_lemma=>kernel_rfl) (by rfl) ?y0 (HBX _ hc0) ?_
 case y0 =>
  rintro w' ⟨q0,q1,q2,q3,q4,q5,q6,q7,q8⟩
  simp only [lgA,lgZ]
  go_simp
 simp only [lgA,lgZ,Act.put,lsA,lsZ,lsS]
 refine wpAnyG.tT 1 (v:=.agg #[.bool p2,.slice a2 n2 c2,.slice d2 m2 e2]) (by decide) 5 (by as_aux_lemma=>kernel_rfl) (by rfl) ?y1 (HBX _ hc0) ?_
 case y1 =>
  rintro w' ⟨q0,q1,q2,q3,q4,q5,q6,q7,q8⟩
  simp only [lgA,lgZ,lgS]
  go_simp
 simp only [lgA,lgZ,lgS,Act.put,lsA,lsZ,lsS]
 refine wpAnyG.tT 2 (v:=.agg #[.bool p3,.slice a3 n3 c3,.slice d3 m3 e3]) (by decide) 5 (by as_aux_lemma=>kernel_rfl) (by rfl) ?y2 (HBX _ hc0) ?_
 case y2 =>
  rintro w' ⟨q0,q1,q2,q3,q4,q5,q6,q7,q8⟩
  simp only [lgA,lgZ,lgS]
  go_simp
 simp only [lgA,lgZ,lgS,Act.put,lsA,lsZ,lsS]
 refine wpAnyG.one 3 (by as_aux_lemma=>kernel_rfl) (by decide) (by rfl) (fun K hK=>?_)
 simp only [lgA,lgZ,lgS]
 go_simp
 refine (mulD z0 (h2.below hc0) (h3.below hc0) (by omega) hS.2.1 hS.2.2).mono ?_
 rintro e z1 ⟨g4,u4,i4,j4,o4,t4,x4,rfl,G4,hk1⟩
 have hc1:Below W0.heap.size W0 z1:=bel_tr hc0 hk1
 dsimp only
 refine hK _ _ ⟨fun _=>HBX _ hc1,fun _=>trivial⟩ ?_
 clear hK K
 refine wpAnyG.one 4 (by as_aux_lemma=>kernel_rfl) (by decide) (by rfl) (fun K hK=>?_)
 simp only [lgA,lgZ,lgS]
 go_simp
 refine (addD z1 (h1.below hc1) G4.tr (by omega) hS.1 (by omega)).mono ?_
 rintro e z2 ⟨g5,u5,i5,j5,o5,t5,x5,rfl,G5,hk2⟩
 have hc2:Below W0.heap.size W0 z2:=bel_tr hc1 hk2
 dsimp only
 refine hK _ _ ⟨fun _=>HBX _ hc2,fun _=>trivial⟩ ?_
 clear hK K
 refine wpAnyG.one 5 (by as_aux_lemma=>kernel_rfl) (by decide) (by rfl) (fun K hK=>?_)
 simp only [lgA,lgZ,lgS]
 have VS:=V4.below hc2
 obtain ⟨y0,y1,y2,y3,y4,y5⟩:=id VS
 go_simp
 refine hK _ _ ⟨fun h=>absurd h (by decide),fun _=>trivial⟩ ?_
 clear hK K
 refine wpAnyG.done (by as_aux_lemma=>kernel_rfl) (NoPanic.normal ?_)
 obtain ⟨V',O⟩:=VS.set (.bool g5) (.slice u5 i5 j5) (.slice o5 t5 x5)
 have hs1:=hc1.size
 have GN:=(G5.off O (by omega)).mono (B':=w.heap.size) (by omega)
 have hw:=(bel_tr hb0 hc2).trans (O.below (by omega))
 clear V1 V2 V3 V4 VS G4 G5 hc0 hc1 hc2 hk1 hk2 h1 h2 h3 HBX O y0 y1 y2 y3 y4 y5
 go_wp2
 exact bodyPost_ret (v:=.agg #[.bool g5,.slice u5 i5 j5,.slice o5 t5 x5]) (by simp [results,Tryz.results7,go_sem,V'.c0,V'.c1,V'.c2]) rfl ⟨_,_,_,_,_,_,_,rfl,GN,hw⟩
theorem StQ.up {w:World} {s:StD} {S T:Nat} (h:StQ w s S) (hT:S≤T):StQ w s T :=
 ⟨h.a.imp id fun ⟨b,o,e,h⟩=>⟨b,o,e,fun i hi=>⟨(h i hi).1,(h i hi).2.1,(h i hi).2.2.uni fun _ _=>hT⟩⟩,h.b.uni fun _ _=>hT⟩
def yC (i:Nat):Rat:=if i < 3 then 0 else 1
structure ExX (X:Nat→RoD):Prop where
 l0:∀ c,lat (X 0).l c = if 3 = c then 1 else if c < 3 then yA0 c else 0
 l1:∀ c,lat (X 1).l c = if 4 = c then 1 else if c < 2 then -yA1 c else 0
 r0:(X 0).r = 4
 r1:(X 1).r = 2
 b0:(X 0).bas = 3
 b1:(X 1).bas = 4
 t0:(X 0).tu = false
 t1:(X 1).tu = true
structure ExY (X:Nat→RoD):Prop where
 a01:lat (X 0).l 1 = 2
 a03:lat (X 0).l 3 = 1
 a04:lat (X 0).l 4 = -1
 r0:(X 0).r = 2
 b0:(X 0).bas = 3
 b1:(X 1).bas = 0
 t0:(X 0).tu = false
 t1:(X 1).tu = true
structure ExS (s:StD):Prop where
 an:s.an = 2
 bn:s.bn = 2
 cn:s.cn = 3
 r0:s.rn 0 = 3
 r1:s.rn 1 = 2
 e0:s.E 0 = yA0
 e1:s.E 1 = yA1
 b:s.B = yB
theorem ExS.x {s:StD} (h:ExS s) {X:Nat→RoD} (hX:∀ q,q < s.bn→X q = s.row q):ExX X:=by
 have h0:=hX 0 (by rw [h.bn];decide)
 have h1:=hX 1 (by rw [h.bn];decide)
 have t0:s.t 0 = false:=by unfold StD.t;rw [h.b];kernel_rfl
 have t1:s.t 1 = true:=by unfold StD.t;rw [h.b];kernel_rfl
 have k0:s.k 0 = 3:=by unfold StD.k;rw [h.an,h.r0,h.cn];rfl
 have k1:s.k 1 = 2:=by unfold StD.k;rw [h.an,h.r1,h.cn];rfl
 refine ⟨fun c=>?_,fun c=>?_,?_,?_,?_,?_,?_,?_⟩
 ·rw [h0]
  show lat (fln (s.t 0) (s.E 0) (s.k 0) (s.cn + 0)) c = _
  rw [t0,k0,h.cn,h.e0,fln_lat _ _ (by decide)]
  rfl
 ·rw [h1]
  show lat (fln (s.t 1) (s.E 1) (s.k 1) (s.cn + 1)) c = _
  rw [t1,k1,h.cn,h.e1,fln_lat _ _ (by decide)]
  rfl
 ·rw [h0]
  show dsg (s.t 0) (s.B 0) = _
  rw [t0,h.b]
  kernel_rfl
 ·rw [h1]
  show dsg (s.t 1) (s.B 1) = _
  rw [t1,h.b]
  kernel_rfl
 ·rw [h0]
  show ((s.cn + 0:Nat):Int) = _
  rw [h.cn];rfl
 ·rw [h1]
  show ((s.cn + 1:Nat):Int) = _
  rw [h.cn];rfl
 ·rw [h0];exact t0
 ·rw [h1];exact t1
theorem ExS.z {s:StD} (h:ExS s):GmZ s 19 20:=by
 have k0:s.k 0 = 3:=by unfold StD.k;rw [h.an,h.r0,h.cn];rfl
 have k1:s.k 1 = 2:=by unfold StD.k;rw [h.an,h.r1,h.cn];rfl
 refine ⟨⟨stz s (fun _ _=>1) (fun _=>1),stz_ok (fun r hr c hc=>?_) (fun r hr=>?_),Nat.le_trans (stz_le _ _ _) ?_⟩,by decide,by decide,by rw [h.cn,h.bn];decide⟩
 ·rw [h.bn] at hr
  rcases (by omega:r = 0∨r = 1) with rfl | rfl
  ·rw [k0] at hc
   rw [h.e0]
   rcases (by omega:c = 0∨c = 1∨c = 2) with rfl | rfl | rfl <;> exact ⟨by decide +kernel,by decide +kernel⟩
  ·rw [k1] at hc
   rw [h.e1]
   rcases (by omega:c = 0∨c = 1) with rfl | rfl <;> exact ⟨by decide +kernel,by decide +kernel⟩
 ·rw [h.bn] at hr
  rw [h.b]
  rcases (by omega:r = 0∨r = 1) with rfl | rfl <;> exact ⟨by decide +kernel,by decide +kernel⟩
 ·rw [h.bn]
  show (totB (fun _=>1 + 1) (s.k 0) + 2 + (1 + 1)) + ((totB (fun _=>1 + 1) (s.k 1) + 2 + (1 + 1)) + 0) + 1≤19
  rw [k0,k1]
  decide
theorem yC_lat (c:Nat):lat (lco yC 5) c = if c < 5 then yC c else 0:=lco_lat yC c 5
theorem yC_csz:CsZ (lco yC 5) (3 + 2) 20:=csz_lco (ZY:=fun _=>1) (fun c _=>by unfold yC;split <;> exact ⟨by decide +kernel,by decide +kernel⟩) (show totB (fun _=>1 + 1) 5≤20 by decide) (3 + 2) 5 (by decide)
theorem bco_nat {X:Nat→RoD} {lc:List (Nat × Rat)} {A:Nat→Rat} {q k:Nat} (hb:(X q).bas = ((k:Nat):Int)):bco X lc A q = lat lc k * A q:=by
 unfold bco
 rw [hb,if_neg (by omega),latI_nat]
theorem ExX.red {X:Nat→RoD} (h:ExX X):rdc X (lco yC 5) 2 0 = ((-2:Int):Rat):=by
 unfold rdc
 rw [rsum_succ,rsum_succ,bco_nat (k:=3) h.b0,bco_nat (k:=4) h.b1]
 show latI (lco yC 5) ((0:Nat):Int) - (rsum _ 0 + lat (lco yC 5) 3 * latI (X 0).l ((0:Nat):Int) + lat (lco yC 5) 4 * latI (X 1).l ((0:Nat):Int)) = _
 rw [latI_nat,latI_nat,latI_nat,h.l0,h.l1,yC_lat,yC_lat,yC_lat]
 kernel_rfl
theorem ExX.wor {X:Nat→RoD} (h:ExX X):rsum (bco X (lco yC 5) fun q=>(X q).r) 1 = 4∧rsum (bco X (lco yC 5) fun q=>(X q).r) 2 = ((6:Int):Rat):=by
 rw [rsum_succ _ 1,rsum_succ _ 0,bco_nat (k:=3) h.b0,bco_nat (k:=4) h.b1]
 show rsum _ 0 + lat (lco yC 5) 3 * (X 0).r = 4∧rsum _ 0 + lat (lco yC 5) 3 * (X 0).r + lat (lco yC 5) 4 * (X 1).r = _
 rw [h.r0,h.r1,yC_lat,yC_lat]
 exact ⟨by kernel_rfl,by kernel_rfl⟩
theorem ExX.worZ {X:Nat→RoD} (h:ExX X):∀ k,k≤2→SzR (rsum (bco X (lco yC 5) fun q=>(X q).r) k) 40:=fun k hk=>by
 rcases (by omega:k = 0∨k = 1∨k = 2) with rfl | rfl | rfl
 ·show SzR 0 40
  exact ⟨by decide +kernel,by decide +kernel⟩
 ·rw [h.wor.1];exact ⟨by decide +kernel,by decide +kernel⟩
 ·rw [h.wor.2];exact ⟨by decide +kernel,by decide +kernel⟩
theorem ExX.ent {X:Nat→RoD} (h:ExX X):mye X (lco yC 5) 2 0:=by
 refine ⟨fun ⟨q,hq,e⟩=>?_,?_⟩
 ·rcases (by omega:q = 0∨q = 1) with rfl | rfl
  ·rw [h.b0] at e;exact absurd e (by decide)
  ·rw [h.b1] at e;exact absurd e (by decide)
 ·show (rdc X (lco yC 5) 2 0).num.sign < 0
  rw [h.red]
  decide +kernel
theorem ExX.lv {X:Nat→RoD} (h:ExX X):(lvf X 0 2).1 = 1:=by
 have c0:latI (X 0).l 0 = 1:=by rw [show (0:Int) = ((0:Nat):Int) from rfl,latI_nat,h.l0];kernel_rfl
 have c1:latI (X 1).l 0 = 1:=by rw [show (0:Int) = ((0:Nat):Int) from rfl,latI_nat,h.l1];kernel_rfl
 have e1:lvf X 0 1 = (0,4):=by
  show lstep X 0 (-1,0) 0 = _
  unfold lstep
  rw [h.b0,c0,h.r0,if_neg (by rintro (h | h);exact absurd h (by decide);exact absurd h (by decide +kernel)),if_pos (.inl rfl)]
  exact congrArg (Prod.mk _) (by kernel_rfl)
 show (lstep X 0 (lvf X 0 1) 1).1 = 1
 rw [e1]
 unfold lstep
 rw [h.b1,c1,h.r1,if_neg (by rintro (h | h);exact absurd h (by decide);exact absurd h (by decide +kernel)),if_pos (.inr (.inl (by show cs (2 / 1) 4 < 0;decide +kernel)))]
 rfl
theorem ExX.piv {X X':Nat→RoD} (h:ExX X) (hp:PivR X X' 2 1 0):ExY X':=by
 have c1:lat (X 1).l 0 = 1:=by rw [h.l1];kernel_rfl
 have c0:lat (X 0).l 0 = 1:=by rw [h.l0];kernel_rfl
 obtain ⟨q1,q2,q3,q4⟩:=hp.q 0 (by decide) (by decide)
 have hr:=hp.ri
 rw [c1,h.r1] at hr
 have hl:∀ k,lat (X' 1).l k = lat (X 1).l k * (1:Rat)⁻¹:=fun k=>by rw [hp.li,c1]
 refine ⟨?_,?_,?_,?_,q3.trans h.b0,hp.bi,q4.trans h.t0,hp.ti.trans h.t1⟩
 ·rw [q1,hl,c0,h.l0,h.l1];kernel_rfl
 ·rw [q1,hl,c0,h.l0,h.l1];kernel_rfl
 ·rw [q1,hl,c0,h.l0,h.l1];kernel_rfl
 ·rw [q2,hr,c0,h.r0];kernel_rfl
theorem ExY.rd {X:Nat→RoD} (h:ExY X):rdc X (lco yC 5) 2 3 = 0∧rdc X (lco yC 5) 2 4 = 2:=by
 have e0:(if 0 < 5 then yC 0 else 0) = 0:=by kernel_rfl
 unfold rdc
 rw [rsum_succ _ 1,rsum_succ _ 0,bco_nat (k:=3) h.b0,bco_nat (k:=0) h.b1,rsum_succ _ 1,rsum_succ _ 0,bco_nat (k:=3) h.b0,bco_nat (k:=0) h.b1]
 show latI (lco yC 5) ((3:Nat):Int) - (rsum _ 0 + lat (lco yC 5) 3 * latI (X 0).l ((3:Nat):Int) + lat (lco yC 5) 0 * latI (X 1).l ((3:Nat):Int)) = _∧latI (lco yC 5) ((4:Nat):Int) - (rsum _ 0 + lat (lco yC 5) 3 * latI (X 0).l ((4:Nat):Int) + lat (lco yC 5) 0 * latI (X 1).l ((4:Nat):Int)) = _
 rw [latI_nat,latI_nat,latI_nat,latI_nat,latI_nat,latI_nat,h.a03,h.a04,yC_lat,yC_lat,yC_lat,e0,Rat.zero_mul,Rat.zero_mul]
 exact ⟨by kernel_rfl,by kernel_rfl⟩
theorem ExY.mu {X:Nat→RoD} (h:ExY X):latI (lco yC 5) ((3 + 0:Nat):Int) - rdc X (lco yC 5) 2 ((3 + 0:Nat):Int) = 1∧latI (lco yC 5) ((3 + 1:Nat):Int) - rdc X (lco yC 5) 2 ((3 + 1:Nat):Int) = -1:=by
 obtain ⟨e3,e4⟩:=h.rd
 rw [latI_nat,latI_nat,yC_lat,yC_lat]
 show _ - rdc X (lco yC 5) 2 3 = 1∧_ - rdc X (lco yC 5) 2 4 = -1
 rw [e3,e4]
 exact ⟨by kernel_rfl,by kernel_rfl⟩
theorem ExY.mu0 {X:Nat→RoD} (h:ExY X):bmu X (lco yC 5) 3 2 0 = ((1:Int):Rat):=by
 unfold bmu
 rw [h.mu.1,h.t0]
 kernel_rfl
theorem ExY.mu1 {X:Nat→RoD} (h:ExY X):bmu X (lco yC 5) 3 2 1 = ((1:Int):Rat):=by
 unfold bmu
 rw [h.mu.2,h.t1]
 kernel_rfl
theorem ExY.right {X:Nat→RoD} (h:ExY X):brt X 2 0 = ((2:Int):Rat):=by
 unfold brt
 rw [if_pos (by decide)]
 exact h.r0
theorem ExY.at4 {X:Nat→RoD} (h:ExY X):bat X 2 0 4 = ((-1:Int):Rat):=by
 unfold bat
 rw [if_pos (by decide),show (4:Int) = ((4:Nat):Int) from rfl,latI_nat]
 exact h.a04
theorem ExY.at1 {X:Nat→RoD} (h:ExY X):bat (upR X 0 { X 0 with bas:=-1 }) 2 0 1 = ((2:Int):Rat):=by
 unfold bat
 rw [if_pos (by decide),show (1:Int) = ((1:Nat):Int) from rfl,latI_nat]
 exact h.a01
end Go.Proofs.YtjiodidemimgmaaGreatDoor
