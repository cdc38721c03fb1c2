import Derived.Test.YtnokmjmefipplaaGreatDoorPvJAll
import Derived.Test.YtnokmjmefipplaaGreatDoorQAll
import Derived.Test.YtnokmjmefipplaaGreatDoorPvFAll
import Derived.Test.YtnokmjmefipplaaGreatDoorWdAll
set_option maxRecDepth 100000
set_option maxHeartbeats 32000000
namespace Go.Proofs.YtnokmjmefipplaaGreatDoor
open Go.RowKit
theorem aG8 {X Z:Nat→Rat} {ZX ZZ:Nat→Nat} {n K Kt:Nat} {t:Rat} (hx:∀ i,i < n→SzR (X i) (ZX i)) (hz:∀ i,i < n→SzR (Z i) (ZZ i)) (hK:tot ZX n + tot ZZ n≤K) (ht:SzR t Kt):∃ D,0 < D∧D < pw (K + Kt + 1)∧∀ i,i < n→Wd (K + Kt + 1) D (X i + t * Z i):=by
 obtain ⟨Dx,x1,x2,x3⟩:=Wd.list hx (Nat.le_refl _)
 obtain ⟨Dz,z1,z2,z3⟩:=Wd.list hz (Nat.le_refl _)
 have h:=Wd.self ht
 have q:=dN (Int.le_of_lt h.1) h.2.1 (Int.le_of_lt z1) z2
 have q0:0 < (t.den:Int) * Dz:=Int.mul_pos h.1 z1
 have q2:=dN (Int.le_of_lt x1) x2 q.2 q.1
 refine ⟨Dx * ((t.den:Int) * Dz),Int.mul_pos x1 q0,Int.lt_of_lt_of_le q2.1 (bF (by omega)),fun i hi=>?_⟩
 have h1:=(x3 i hi).lift q0 q.1
 have h2:=(h.mul (z3 i hi)).lift' x1 x2
 exact (h1.add h2).up (by omega)
theorem Wd.quo {d:Nat} {D:Int} {r:Rat} (k:Wd d D r) (h0:r ≠ 0):∃ E,0 < E∧E < pw d∧∀ b,Wd d D b→Wd d E (b / r):=by
 obtain ⟨k1,k2,m,hm,hm'⟩:=k
 have hD0:(D:Rat) ≠ 0:=by
  intro e
  have:D = 0:=by exact_mod_cast e
  omega
 have m0:m ≠ 0:=by
  rintro rfl
  have h2:r * (D:Rat) = 0:=hm
  rcases Rat.mul_eq_zero.1 h2 with h | h
  ·exact h0 h
  ·exact hD0 h
 refine ⟨(m.natAbs:Int),by omega,hm',fun b hb=>?_⟩
 obtain ⟨_,_,n,hn,hn'⟩:=hb
 have e:b / r * (m:Rat) = (n:Rat):=by
  rw [← hm,← hn,Rat.div_def,Rat.mul_assoc,← Rat.mul_assoc (r⁻¹),Rat.inv_mul_cancel _ h0,Rat.one_mul]
 by_cases hp:0≤m
 ·exact ⟨by omega,hm',n,by rw [Int.natAbs_of_nonneg hp];exact e,hn'⟩
 ·refine ⟨by omega,hm',-n,?_,by omega⟩
  have e1:((m.natAbs:Int)) = -m:=by omega
  rw [e1,Rat.intCast_neg,Rat.intCast_neg,Rat.mul_neg,e]
theorem PQ.rate_wd {w:World} {P:Prob} (hP:PQ w P) {X Z:Nat→Rat} {ZX ZZ:Nat→Nat} {m:Rat} {Kx Km:Nat} (hx:∀ i,i < P.vn→SzR (X i) (ZX i)) (hz:∀ i,i < P.vn→SzR (Z i) (ZZ i)) (hK:tot ZX P.vn + tot ZZ P.vn≤Kx) (hm:SzR m Km) (hKK:P.K≤1048576):∃ D,Wd (P.K + Kx + Km + 2) D (m - vlu P X)∧Wd (P.K + Kx + Km + 2) D (rte P Z):=by
 have hall:=hP.all
 have hl:=aT P.ZV P.vn
 obtain ⟨Do,o1,o2,o3⟩:=Wd.list (X:=fun j=>(P.V j).obj) (Z:=P.ZV) (n:=P.vn) (K:=tot P.ZV P.vn) (fun j hj=>by
  obtain ⟨b,o,hV⟩:=hP.var hj
  exact hV.sobj) (Nat.le_refl _)
 obtain ⟨Dx,x1,x2,x3⟩:=Wd.list hx (Nat.le_refl _)
 obtain ⟨Dz,z1,z2,z3⟩:=Wd.list hz (Nat.le_refl _)
 have hs:=Wd.self hP.sk
 have k1:=hs.1
 have k2:=hs.2.1
 generalize (P.k.den:Int) = Dk at *
 have hm:=Wd.self hm
 have m1:=hm.1
 have m2:=hm.2.1
 generalize (m.den:Int) = Dm at *
 have q:=dN (Int.le_of_lt o1) o2 (Int.le_of_lt x1) x2
 have q0:0 < Do * Dx:=Int.mul_pos o1 x1
 have q2:=dN (Int.le_of_lt k1) k2 q.2 q.1
 have q3:0 < Dk * (Do * Dx):=Int.mul_pos k1 q0
 have q4:=dN q2.2 q2.1 (Int.le_of_lt z1) z2
 have q5:0 < Dk * (Do * Dx) * Dz:=Int.mul_pos q3 z1
 have hv:=Wd.sum (Y:=prt P.k P.V X) (n:=P.vn + 1) (D:=Dk * (Do * Dx)) q3 q2.1 (fun j hj=>by
  cases j with
  | zero=>exact (hs.lift q0 q.1)
  | succ j=>exact ((o3 j (by omega)).mul (x3 j (by omega))).lift' k1 k2) (by omega) (P.vn + 1) (Nat.le_refl _)
 have p:=dN (Int.le_of_lt o1) o2 (Int.le_of_lt z1) z2
 have p0:0 < Do * Dz:=Int.mul_pos o1 z1
 have hr:=Wd.sum (Y:=fun j=>(P.V j).obj * Z j) (n:=P.vn) (D:=Do * Dz) p0 p.1 (fun j hj=>(o3 j hj).mul (z3 j hj)) (by omega) P.vn (Nat.le_refl _)
 have a1:Wd (P.K + Kx + Km + 1) (Dm * (Dk * (Do * Dx) * Dz)) m:=(hm.lift q5 q4.1).up (by omega)
 have a2:Wd (P.K + Kx + Km + 1) (Dm * (Dk * (Do * Dx) * Dz)) (vlu P X):=((hv.lift z1 z2).lift' m1 m2).up (by omega)
 have s1:=dN (Int.le_of_lt k1) k2 (Int.le_of_lt x1) x2
 have s2:=dN (Int.le_of_lt m1) m2 s1.2 s1.1
 have a3:=(hr.lift (Int.mul_pos m1 (Int.mul_pos k1 x1)) s2.1).up (show _≤P.K + Kx + Km + 2 by omega)
 have e:Do * Dz * (Dm * (Dk * Dx)) = Dm * (Dk * (Do * Dx) * Dz):=by grind
 rw [e] at a3
 exact ⟨_,a1.sub a2,a3⟩
theorem PQ.step_sz {w:World} {P:Prob} (hP:PQ w P) {X Z:Nat→Rat} {ZX ZZ:Nat→Nat} {m:Rat} {Kx Km:Nat} (hx:∀ i,i < P.vn→SzR (X i) (ZX i)) (hz:∀ i,i < P.vn→SzR (Z i) (ZZ i)) (hK:tot ZX P.vn + tot ZZ P.vn≤Kx) (hm:SzR m Km) (hKK:P.K≤1048576) (h0:rte P Z ≠ 0):SzR ((m - vlu P X) / rte P Z) (P.K + Kx + Km + 2)∧SzR ((m - vlu P X) / rte P Z + 1) (P.K + Kx + Km + 3):=by
 obtain ⟨D,a1,a2⟩:=hP.rate_wd hx hz hK hm hKK
 obtain ⟨E,e1,e2,e3⟩:=a2.quo h0
 have h:=e3 _ a1
 exact ⟨h.sz (by omega),(h.add (Wd.one e1 e2)).sz (by omega)⟩
theorem aJ9 {P:Prob} {X Z:Nat→Rat} {m t:Rat} (h:imp P Z) (ht:(m - vlu P X) / rte P Z≤t):btr P (vlu P (fun j=>X j + (t + 1) * Z j)) m:=by
 unfold imp at h
 unfold btr
 rw [aI9]
 generalize vlu P X = v at *
 generalize rte P Z = r at *
 split
 ·rename_i hm
  rw [if_pos hm] at h
  have h1:=Rat.mul_le_mul_of_nonneg_right ht (Rat.le_of_lt h)
  rw [Rat.div_mul_cancel (by grind)] at h1
  grind
 ·rename_i hm
  rw [if_neg hm] at h
  have h2:0≤-r:=by grind
  have h1:=Rat.mul_le_mul_of_nonneg_right ht h2
  rw [Rat.mul_neg,Rat.mul_neg,Rat.div_mul_cancel (by grind)] at h1
  grind
theorem aG9 {P:Prob} {Z:Nat→Rat} (h:imp P Z):rte P Z ≠ 0:=by
 unfold imp at h
 intro e
 rw [e] at h
 split at h <;> exact absurd h (by decide)
theorem aN8 (P:Prob) {xa:Option Addr} {nx xc:Nat} {X:Nat→Rat} {Zx:Nat→Nat} {Kx U:Nat} {Dx:Int} (w:World) (hP:PQ w P) (hx:LQ w xa nx X Zx) (hz:∀ j,j < nx→1≤Zx j∧Zx j≤U) (hU:1≤U∧U≤2300000) (dx1:0 < Dx) (dx2:Dx < pw Kx) (dx3:∀ j,j < nx→Wd Kx Dx (X j)) (hK:P.K≤1048576) (hKx:P.K + Kx≤2300000) :
 Calls Tryz.prog 12 #[P.val,.slice xa nx xc] w fun e w'=>∃ b,e = .returned (.bool b)∧(b = true↔bY P nx X)∧Below w.heap.size w w':=by
 have hZR:∀ i,i < P.rn→P.ZR i≤P.K:=fun i hi=>by have:=bI (Z:=P.ZR) hi;have:=hP.all;omega
 exact aG1 P (T:=P.K + Kx + 1) (S:=P.K + U) (U:=U) w hP hx hz ⟨by omega,by omega⟩ (fun i hi=>by have:=hZR i hi;omega) (by omega) ⟨by omega,by omega⟩ hK (fun i k hi hk=>hP.row_sz3 dx1 dx2 dx3 hK i k hi hk)
theorem aQ2 (P:Prob) {xa:Option Addr} {nx xc:Nat} {X:Nat→Rat} {Zx:Nat→Nat} {Kx U:Nat} {Dx:Int} (w:World) (hP:PQ w P) (hx:LQ w xa nx X Zx) (hz:∀ j,j < nx→1≤Zx j∧Zx j≤U) (hU:1≤U∧U≤2300000) (dx1:0 < Dx) (dx2:Dx < pw Kx) (dx3:∀ j,j < nx→Wd Kx Dx (X j)) (hK:P.K≤1048576) (hKx:P.K + Kx≤2300000) (hn:nx = P.vn) :
 Calls Tryz.prog 15 #[P.val,.slice xa nx xc] w fun e w'=>∃ f c n1 k1 c' n' k',e = .returned (.agg #[.bool f,.slice c n1 k1,.slice c' n' k'])∧GR w' w.heap.size f c n1 k1 c' n' k' (vlu P X) 2300008∧Below w.heap.size w w':=by
 have hall:=hP.all
 have hl:=aT P.ZV P.vn
 have hZV:∀ i,i < P.vn→P.ZV i≤P.K:=fun i hi=>by have:=bI (Z:=P.ZV) hi;omega
 refine (aG0 P (T:=P.K + Kx + 1) (S:=P.K + U) (U:=U) w hP hx hz ⟨by omega,by omega⟩ (fun j hj=>by have:=hZV j hj;omega) (by omega) (by omega) (by omega) (by omega) (fun q hq=>hP.val_sz3 dx1 dx2 dx3 hK q hq)).mono ?_
 rintro e w' ⟨f,c,n1,k1,d,m,l,h1,G,hb⟩
 exact ⟨f,c,n1,k1,d,m,l,h1,(G.val (uH P X (by omega))).le (by omega),hb⟩
theorem aC8 (P:Prob) (t:Bool) {p q:Bool} {a b:Option Addr} {na nb ca cb:Nat} {d e0:Option Addr} {nd ne cd ce:Nat} {r s:Rat} {S R:Nat} (w:World) (hr:TR w p a na ca d nd cd r S) (hs1:TR w q b nb cb e0 ne ce s R) (hSR:S + R≤6000000) (hS1:1≤S) (hR1:1≤R) (ht:t = true↔btr P r s) :
 Calls Tryz.prog 16 #[P.val,.agg #[.bool p,.slice a na ca,.slice d nd cd],.agg #[.bool q,.slice b nb cb,.slice e0 ne ce]] w fun e w'=>e = .returned (.bool t)∧Below w.heap.size w w':=by
 unfold Prob.val
 unfold btr at ht
 cases hmx:P.mx
 ·rw [hmx,if_neg (by decide)] at ht
  have HT:Hid (t = true↔r < s):=ht
  clear ht hmx
  obtain ⟨B0,B1,B2,hb,hs⟩:=iT w #[.bool false,.string P.nm,.bool P.p,.slice P.a P.na P.ca,.slice P.d P.nd P.cd,.slice P.va P.vn P.vc,.slice P.ra P.rn P.rc] 31 #[.bool p,.slice a na ca,.slice d nd cd] 27 #[.bool q,.slice b nb cb,.slice e0 ne ce] 27
  have p0:=B0 0 _ rfl
  have a0:=B1 0 _ rfl
  have a1:=B1 1 _ rfl
  have a2:=B1 2 _ rfl
  have b0:=B2 0 _ rfl
  have b1:=B2 1 _ rfl
  have b2:=B2 2 _ rfl
  clear B0 B1 B2
  have hr':=hr.below hb
  have hs':=hs1.below hb
  go_enter Tryz.func16,Tryz.ntmps16
  go_wp2_with fail
  generalize ((w.alloc (.cells #[.bool false,.string P.nm,.bool P.p,.slice P.a P.na P.ca,.slice P.d P.nd P.cd,.slice P.va P.vn P.vc,.slice P.ra P.rn P.rc] 31)).alloc (.cells #[.bool p,.slice a na ca,.slice d nd cd] 27)).alloc (.cells #[.bool q,.slice b nb cb,.slice e0 ne ce] 27) = W0 at *
  obtain ⟨z,ez⟩:∃ z,z = cs r s:=⟨_,rfl⟩
  refine (cmpD z W0 hr' hs' hSR hS1 hR1 ez).mono ?_
  rintro e w1 ⟨rfl,h1⟩
  have hb1:=aB hb h1
  have HT2:Hid (t = decide (z < 0)):=by
   show t = decide (z < 0)
   rw [ez]
   have h2:t = true↔cs r s < 0:=HT.out.trans jA.symm
   cases t
   ·symm
    rw [decide_eq_false_iff_not]
    intro h3
    have:=h2.2 h3
    cases this
   ·symm
    rw [decide_eq_true_iff]
    exact h2.1 rfl
  clear h1 ez HT p0 a0 a1 a2 b0 b1 b2 hr' hs' hb
  go_wp2
  go_ret
  exact ⟨by rw [HT2.out];try simp,hb1⟩
 ·rw [hmx,if_pos rfl] at ht
  have HT:Hid (t = true↔s < r):=ht
  clear ht hmx
  obtain ⟨B0,B1,B2,hb,hs⟩:=iT w #[.bool true,.string P.nm,.bool P.p,.slice P.a P.na P.ca,.slice P.d P.nd P.cd,.slice P.va P.vn P.vc,.slice P.ra P.rn P.rc] 31 #[.bool p,.slice a na ca,.slice d nd cd] 27 #[.bool q,.slice b nb cb,.slice e0 ne ce] 27
  have p0:=B0 0 _ rfl
  have a0:=B1 0 _ rfl
  have a1:=B1 1 _ rfl
  have a2:=B1 2 _ rfl
  have b0:=B2 0 _ rfl
  have b1:=B2 1 _ rfl
  have b2:=B2 2 _ rfl
  clear B0 B1 B2
  have hr':=hr.below hb
  have hs':=hs1.below hb
  go_enter Tryz.func16,Tryz.ntmps16
  go_wp2_with fail
  generalize ((w.alloc (.cells #[.bool true,.string P.nm,.bool P.p,.slice P.a P.na P.ca,.slice P.d P.nd P.cd,.slice P.va P.vn P.vc,.slice P.ra P.rn P.rc] 31)).alloc (.cells #[.bool p,.slice a na ca,.slice d nd cd] 27)).alloc (.cells #[.bool q,.slice b nb cb,.slice e0 ne ce] 27) = W0 at *
  obtain ⟨z,ez⟩:∃ z,z = cs r s:=⟨_,rfl⟩
  refine (cmpD z W0 hr' hs' hSR hS1 hR1 ez).mono ?_
  rintro e w1 ⟨rfl,h1⟩
  have hb1:=aB hb h1
  have HT2:Hid (t = decide (0 < z)):=by
   show t = decide (0 < z)
   rw [ez]
   have h2:t = true↔0 < cs r s:=HT.out.trans iC.symm
   cases t
   ·symm
    rw [decide_eq_false_iff_not]
    intro h3
    have:=h2.2 h3
    cases this
   ·symm
    rw [decide_eq_true_iff]
    exact h2.1 rfl
  clear h1 ez HT p0 a0 a1 a2 b0 b1 b2 hr' hs' hb
  go_wp2
  go_ret
  exact ⟨by rw [HT2.out];try simp,hb1⟩
theorem aQ3 {p q:Bool} {a b:Option Addr} {na nb ca cb:Nat} {d e0:Option Addr} {nd ne cd ce:Nat} {r s:Rat} {S R:Nat} (w:World) (hr:TR w p a na ca d nd cd r S) (hs1:TR w q b nb cb e0 ne ce s R) (hSR:S + R≤6000000) (hS1:1≤S) (hR1:1≤R) (ht:(0:Int) = cs r s) :
 Calls Tryz.prog 14 #[.agg #[.bool p,.slice a na ca,.slice d nd cd],.agg #[.bool q,.slice b nb cb,.slice e0 ne ce]] w fun e w'=>e = .returned (.bool true)∧Below w.heap.size w w':=by
 obtain ⟨B0,B1,hb,hs⟩:=kS w (.bool p) (.slice a na ca) (.slice d nd cd) (.bool q) (.slice b nb cb) (.slice e0 ne ce) 27
 obtain ⟨a0,a1,a2,_,_,_⟩:=B0
 obtain ⟨b0,b1,b2,_,_,_⟩:=B1
 have hr':=hr.below hb
 have hs':=hs1.below hb
 have HT:Hid ((0:Int) = cs r s):=ht
 clear ht
 go_enter Tryz.func14,Tryz.ntmps14
 go_wp2_with fail
 generalize (w.alloc (.cells #[.bool p,.slice a na ca,.slice d nd cd] 27)).alloc (.cells #[.bool q,.slice b nb cb,.slice e0 ne ce] 27) = W0 at *
 refine (cmpD 0 W0 hr' hs' hSR hS1 hR1 HT.out).mono ?_
 rintro e w1 ⟨rfl,h1⟩
 have hb1:=aB hb h1
 clear h1 a0 a1 a2 b0 b1 b2 hr' hs' hb
 go_wp2
 go_ret
 exact ⟨rfl,hb1⟩
theorem aQ4 (P:Prob) {za:Option Addr} {zn zc:Nat} {Z:Nat→Rat} {Zz:Nat→Nat} {Kz:Nat} (w:World) (hP:PQ w P) (hz:LQ w za zn Z Zz) (hzz:∀ i,i < zn→1≤Zz i∧SzR (Z i) (Zz i)) (htz:tot Zz zn≤Kz) (hzn:zn = P.vn) (hK:P.K + Kz≤1048576) :
 Calls Tryz.prog 37 #[P.val,.slice za zn zc] w fun e w'=>∃ f c n k c' n' k',e = .returned (.agg #[.bool f,.slice c n k,.slice c' n' k'])∧GR w' w.heap.size f c n k c' n' k' (rte P Z) 2097160∧Below w.heap.size w w':=by
 have HV:∀ w1,Below w.heap.size w w1→Calls Tryz.prog 15 #[.agg #[.bool P.mx,.string P.nm,.bool false,.slice none 0 0,.slice none 0 0,.slice P.va P.vn P.vc,.slice P.ra P.rn P.rc],.slice za zn zc] w1 fun e w'=>∃ f c n1 k1 c' n' k',e = .returned (.agg #[.bool f,.slice c n1 k1,.slice c' n' k'])∧GR w' w1.heap.size f c n1 k1 c' n' k' (rte P Z) 2097160∧Below w1.heap.size w1 w':=fun w1 hb=>by
  refine (yV P.noK w1 (hP.noK.below hb) (hz.below hb) hzz htz hK).mono ?_
  rintro e w' ⟨f,c,n1,k1,d,m,l,h1,G,hb⟩
  exact ⟨f,c,n1,k1,d,m,l,h1,G.val ((uH P.noK Z (show P.vn≤zn by omega)).trans (aC6 P Z)),hb⟩
 clear hzz hz hP hzn htz
 unfold Prob.val
 obtain ⟨_,_,_,hb0,hs0⟩:=iT w #[.bool P.mx,.string P.nm,.bool P.p,.slice P.a P.na P.ca,.slice P.d P.nd P.cd,.slice P.va P.vn P.vc,.slice P.ra P.rn P.rc] 31 #[.bool false,.slice none 0 0,.slice none 0 0] 27 #[.bool P.mx,.string P.nm,.bool false,.slice none 0 0,.slice none 0 0,.slice P.va P.vn P.vc,.slice P.ra P.rn P.rc] 31
 have Pb:=aJ w #[.bool P.mx,.string P.nm,.bool P.p,.slice P.a P.na P.ca,.slice P.d P.nd P.cd,.slice P.va P.vn P.vc,.slice P.ra P.rn P.rc] 31
 have hza:=aG w (.cells #[.bool P.mx,.string P.nm,.bool P.p,.slice P.a P.na P.ca,.slice P.d P.nd P.cd,.slice P.va P.vn P.vc,.slice P.ra P.rn P.rc] 31)
 have hs1:(w.alloc (.cells #[.bool P.mx,.string P.nm,.bool P.p,.slice P.a P.na P.ca,.slice P.d P.nd P.cd,.slice P.va P.vn P.vc,.slice P.ra P.rn P.rc] 31)).heap.size = w.heap.size + 1:=by simp
 have V1:=aN (w.alloc (.cells #[.bool P.mx,.string P.nm,.bool P.p,.slice P.a P.na P.ca,.slice P.d P.nd P.cd,.slice P.va P.vn P.vc,.slice P.ra P.rn P.rc] 31)) (.bool false) (.slice none 0 0) (.slice none 0 0) 27
 have hz0:=aG (w.alloc (.cells #[.bool P.mx,.string P.nm,.bool P.p,.slice P.a P.na P.ca,.slice P.d P.nd P.cd,.slice P.va P.vn P.vc,.slice P.ra P.rn P.rc] 31)) (.cells #[.bool false,.slice none 0 0,.slice none 0 0] 27)
 have Pb1:=Pb.below hz0
 rw [hs1] at V1
 have V2:=V1.below (aG ((w.alloc (.cells #[.bool P.mx,.string P.nm,.bool P.p,.slice P.a P.na P.ca,.slice P.d P.nd P.cd,.slice P.va P.vn P.vc,.slice P.ra P.rn P.rc] 31)).alloc (.cells #[.bool false,.slice none 0 0,.slice none 0 0] 27)) (.cells #[.bool P.mx,.string P.nm,.bool false,.slice none 0 0,.slice none 0 0,.slice P.va P.vn P.vc,.slice P.ra P.rn P.rc] 31))
 have p0:=Pb1 0 _ rfl;have p1:=Pb1 1 _ rfl;have p2:=Pb1 2 _ rfl;have p3:=Pb1 3 _ rfl;have p4:=Pb1 4 _ rfl;have p5:=Pb1 5 _ rfl;have p6:=Pb1 6 _ rfl
 have Qb:=aJ ((w.alloc (.cells #[.bool P.mx,.string P.nm,.bool P.p,.slice P.a P.na P.ca,.slice P.d P.nd P.cd,.slice P.va P.vn P.vc,.slice P.ra P.rn P.rc] 31)).alloc (.cells #[.bool false,.slice none 0 0,.slice none 0 0] 27)) #[.bool P.mx,.string P.nm,.bool false,.slice none 0 0,.slice none 0 0,.slice P.va P.vn P.vc,.slice P.ra P.rn P.rc] 31
 have g0:=Qb 0 _ rfl;have g1:=Qb 1 _ rfl;have g2:=Qb 2 _ rfl;have g3:=Qb 3 _ rfl;have g4:=Qb 4 _ rfl;have g5:=Qb 5 _ rfl;have g6:=Qb 6 _ rfl
 clear Pb Pb1 Qb hza hs1 V1 hz0
 go_enter Tryz.func37,Tryz.ntmps37
 go_wp2_with fail
 clear p0 p1 p2 p3 p4 p5 p6 g0 g1 g2 g3 g4 g5 g6
 generalize ((w.alloc (.cells #[.bool P.mx,.string P.nm,.bool P.p,.slice P.a P.na P.ca,.slice P.d P.nd P.cd,.slice P.va P.vn P.vc,.slice P.ra P.rn P.rc] 31)).alloc (.cells #[.bool false,.slice none 0 0,.slice none 0 0] 27)).alloc (.cells #[.bool P.mx,.string P.nm,.bool false,.slice none 0 0,.slice none 0 0,.slice P.va P.vn P.vc,.slice P.ra P.rn P.rc] 31) = W0 at *
 refine (HV W0 hb0).mono ?_
 rintro e w1 ⟨f,c,n,k,d,m,l,rfl,G,hx⟩
 have hs2:=hx.size
 replace V2:=V2.below hx
 replace hb0:=aB hb0 hx
 obtain ⟨r0,r1,r2,r3,r4,r5⟩:=id V2
 obtain ⟨VV,O⟩:=V2.set (.bool f) (.slice c n k) (.slice d m l)
 have GF:=G.off O (by omega)
 have hw:=hb0.trans (O.below (by omega))
 clear V2 O G hb0 hx HV
 go_wp2
 refine bodyPost_ret (v:=.agg #[.bool f,.slice c n k,.slice d m l]) (by simp [results,Tryz.results37,go_sem,VV.c0,VV.c1,VV.c2]) rfl ?_
 replace GF:=GF.mono (B':=w.heap.size) (by omega)
 exact ⟨_,_,_,_,_,_,_,rfl,GF,hw⟩
theorem aH0 {xa:Option Addr} {n xc:Nat} {X:Nat→Rat} {Zx:Nat→Nat} {za:Option Addr} {zc:Nat} {Z:Nat→Rat} {Zz:Nat→Nat} {p:Bool} {a:Option Addr} {na ca:Nat} {d:Option Addr} {nd cd:Nat} {t:Rat} {Kx Kz Kt:Nat} (w:World) (hx:LQ w xa n X Zx) (hzx:∀ i,i < n→1≤Zx i∧Zx i≤Kx) (hz:LQ w za n Z Zz) (hzz:∀ i,i < n→1≤Zz i∧Zz i≤Kz) (ht:TR w p a na ca d nd cd t Kt) (hKt:1≤Kt) (hK:Kx + Kz + Kt≤2300000) (hn:n≤1048576) :
 Calls Tryz.prog 40 #[.slice xa n xc,.agg #[.bool p,.slice a na ca,.slice d nd cd],.slice za n zc] w fun e w'=>∃ b cap,e = .returned (.slice b n cap)∧LQ w' b n (fun j=>X j + t * Z j) (fun _=>Kx + Kt + Kz + 1)∧Below w.heap.size w w':=by
 have HZX:Hid (∀ i,i < n→1≤Zx i∧Zx i≤Kx):=hzx
 have HZZ:Hid (∀ i,i < n→1≤Zz i∧Zz i≤Kz):=hzz
 have Tb:=aJ w #[.bool p,.slice a na ca,.slice d nd cd] 27
 have hb0:=aG w (.cells #[.bool p,.slice a na ca,.slice d nd cd] 27)
 have hs0:w.heap.size + 1≤(w.alloc (.cells #[.bool p,.slice a na ca,.slice d nd cd] 27)).heap.size:=by simp
 clear hzx hzz
 go_enter Tryz.func40,Tryz.ntmps40
 go_wp2
 generalize w.alloc (.cells #[.bool p,.slice a na ca,.slice d nd cd] 27) = W0 at *
 go_loopw [7,8] (fun s7 s8 wr=>∃ (j:Nat),j≤n∧s8 = .int .i64 j∧MX wr (w.heap.size + 1) w.heap.size s7 j (fun j=>X j + t * Z j) (Kx + Kt + Kz + 1)∧BoxC wr w.heap.size [.bool p,.slice a na ca,.slice d nd cd]∧Below w.heap.size w wr∧w.heap.size + 1≤wr.heap.size) (fun _ s8 _=>n - (intOf s8).toNat)
 case atStart=>exact ⟨0,Nat.zero_le _,rfl,⟨by simp [Value.ownBlock],[],World.ownsRow_nil _ _ _ _,fun i hi=>by omega⟩,Tb,hb0,hs0⟩
 case round =>
  clear Tb hb0 hs0
  obtain ⟨j,hj,rfl,L,Tb,hbel,hsr⟩:=hrel
  obtain ⟨o1,k1,rfl⟩:=L.form
  by_cases hlt:j < n
  ·have hkI:(j:Int) < (n:Int):=by omega
   have hkI3:(j:Int) * 3 = ((j * 3:Nat):Int):=by omega
   obtain ⟨zx1,zx2⟩:=HZX.out j hlt
   obtain ⟨zz1,zz2⟩:=HZZ.out j hlt
   rcases hx with h0 | ⟨xb,xo,rfl,helx⟩
   ·omega
   rcases hz with h0 | ⟨zb,zo,rfl,helz⟩
   ·omega
   obtain ⟨pX,aX,nX,cX,dX,mX,lX,x0,x1,x2,hX⟩:=helx j hlt
   obtain ⟨pZ,aZ,nZ,cZ,dZ,mZ,lZ,y0,y1,y2,hZ⟩:=helz j hlt
   have hxb:=World.block_lt_of_cell? _ _ x0
   have hzb:=World.block_lt_of_cell? _ _ y0
   have hxb':xb < w.heap.size:=hxb
   have hzb':zb < w.heap.size:=hzb
   replace x0:=aF hbel x0;replace x1:=aF hbel x1;replace x2:=aF hbel x2;replace y0:=aF hbel y0;replace y1:=aF hbel y1;replace y2:=aF hbel y2
   have hrow0:∀ g,(Value.slice o1 j k1).ownBlock = some g→w.heap.size + 1≤g∧g < wr.heap.size:=fun g hg=>L.lt g hg
   have hzA:=aG wr (.cells #[.bool false,.slice none 0 0,.slice none 0 0] 27)
   have hzD:=aG wr (.cells #[.bool pZ,.slice aZ nZ cZ,.slice dZ mZ lZ] 27)
   have VD:=aN wr (.bool pZ) (.slice aZ nZ cZ) (.slice dZ mZ lZ) 27
   have hsD:(wr.alloc (.cells #[.bool pZ,.slice aZ nZ cZ,.slice dZ mZ lZ] 27)).heap.size = wr.heap.size + 1:=by simp
   replace y0:=aF hzA y0;replace y1:=aF hzA y1;replace y2:=aF hzA y2
   clear helx helz hxb hzb hzA
   go_wp2_with fail
   replace L:=L.below (by omega) hzD
   replace Tb:=Tb.below hzD
   replace x0:=aF hzD x0;replace x1:=aF hzD x1;replace x2:=aF hzD x2
   clear y0 y1 y2
   replace hbel:=aB hbel hzD
   obtain ⟨R,hR⟩:∃ R,R = wr.heap.size:=⟨_,rfl⟩
   rw [← hR] at VD hrow0 ⊢
   have hsR:w.heap.size + 1≤R:=by omega
   rw [← hR] at hsD
   clear hR hzD
   generalize wr.alloc (.cells #[.bool pZ,.slice aZ nZ cZ,.slice dZ mZ lZ] 27) = wr at *
   have t0:=Tb 0 _ rfl
   have t1:=Tb 1 _ rfl
   have t2:=Tb 2 _ rfl
   obtain ⟨r0,r1,r2,_,_,_⟩:=VD
   have htr:=ht.below hbel
   replace hX:=hX.below hbel
   replace hZ:=hZ.below hbel
   have hrow:∀ g,(Value.slice o1 j k1).ownBlock = some g→w.heap.size + 1≤g∧g < R:=fun g hg=>hrow0 g hg
   have HBX:∀ w',Below wr.heap.size wr w'→(w'.cell? ⟨xb,xo + j * 3,none⟩ = some (.bool pX)∧w'.cell? ⟨xb,xo + j * 3 + 1,none⟩ = some (.slice aX nX cX)∧w'.cell? ⟨xb,xo + j * 3 + 2,none⟩ = some (.slice dX mX lX)∧w'.cell? ⟨w.heap.size,0,none⟩ = some (.bool p)∧w'.cell? ⟨w.heap.size,1,none⟩ = some (.slice a na ca)∧w'.cell? ⟨w.heap.size,2,none⟩ = some (.slice d nd cd)∧w'.cell? ⟨R,0,none⟩ = some (.bool pZ)∧w'.cell? ⟨R,1,none⟩ = some (.slice aZ nZ cZ)∧w'.cell? ⟨R,2,none⟩ = some (.slice dZ mZ lZ)):=fun w' h=>⟨aF h x0,aF h x1,aF h x2,aF h t0,aF h t1,aF h t2,aF h r0,aF h r1,aF h r2⟩
   refine wp_region_noPanic (aU 11 HBX (by kernel_rfl) ?_)
   have hc0:Below wr.heap.size wr wr.drew:=aK _
   generalize wr.drew = z0 at *
   refine wpAnyG.tT 0 (v:=.slice o1 j k1) (by decide) 11 (by kernel_rfl) (by rfl) ?y0 (HBX _ hc0) ?_
   case y0 =>
    rintro w' ⟨q0,q1,q2,q3,q4,q5,q6,q7,q8⟩
    simp only [lgA,lgZ]
    go_simp
   simp only [lgA,lgZ,Act.put,lsA,lsZ,lsS]
   refine wpAnyG.tT 1 (v:=.slice (some ⟨xb,xo,none⟩) n xc) (by decide) 11 (by kernel_rfl) (by rfl) ?y1 (HBX _ hc0) ?_
   case y1 =>
    rintro w' ⟨q0,q1,q2,q3,q4,q5,q6,q7,q8⟩
    simp only [lgA,lgZ,lgS]
    go_simp
   simp only [lgA,lgZ,lgS,Act.put,lsA,lsZ,lsS]
   refine wpAnyG.tT 2 (v:=.int .i64 (j:Int)) (by decide) 11 (by kernel_rfl) (by rfl) ?y2 (HBX _ hc0) ?_
   case y2 =>
    rintro w' ⟨q0,q1,q2,q3,q4,q5,q6,q7,q8⟩
    simp only [lgA,lgZ,lgS]
    go_simp
   simp only [lgA,lgZ,lgS,Act.put,lsA,lsZ,lsS]
   refine wpAnyG.tT 3 (v:=.pointer (some ⟨xb,xo + j * 3,none⟩)) (by decide) 11 (by kernel_rfl) (by rfl) ?y3 (HBX _ hc0) ?_
   case y3 =>
    rintro w' ⟨q0,q1,q2,q3,q4,q5,q6,q7,q8⟩
    simp only [lgA,lgZ,lgS]
    go_simp
   simp only [lgA,lgZ,lgS,Act.put,lsA,lsZ,lsS]
   refine wpAnyG.tT 4 (v:=.agg #[.bool pX,.slice aX nX cX,.slice dX mX lX]) (by decide) 11 (by kernel_rfl) (by rfl) ?y4 (HBX _ hc0) ?_
   case y4 =>
    rintro w' ⟨q0,q1,q2,q3,q4,q5,q6,q7,q8⟩
    simp only [lgA,lgZ,lgS]
    go_simp
   simp only [lgA,lgZ,lgS,Act.put,lsA,lsZ,lsS]
   refine wpAnyG.tT 5 (v:=.agg #[.bool p,.slice a na ca,.slice d nd cd]) (by decide) 11 (by kernel_rfl) (by rfl) ?y5 (HBX _ hc0) ?_
   case y5 =>
    rintro w' ⟨q0,q1,q2,q3,q4,q5,q6,q7,q8⟩
    simp only [lgA,lgZ,lgS]
    go_simp
   simp only [lgA,lgZ,lgS,Act.put,lsA,lsZ,lsS]
   refine wpAnyG.tT 6 (v:=.agg #[.bool pZ,.slice aZ nZ cZ,.slice dZ mZ lZ]) (by decide) 11 (by kernel_rfl) (by rfl) ?y6 (HBX _ hc0) ?_
   case y6 =>
    rintro w' ⟨q0,q1,q2,q3,q4,q5,q6,q7,q8⟩
    simp only [lgA,lgZ,lgS]
    go_simp
   simp only [lgA,lgZ,lgS,Act.put,lsA,lsZ,lsS]
   refine wpAnyG.one 7 (by kernel_rfl) (by decide) (by rfl) (fun K hK=>?_)
   simp only [lgA,lgZ,lgS]
   go_simp
   refine (mulD z0 (htr.below hc0) (hZ.below hc0) (by omega) (by omega) (by omega)).mono ?_
   rintro e z1 ⟨f1,c1,n1,i1,d1,m1,l1,rfl,G1,hk1⟩
   have hc1:Below wr.heap.size wr z1:=aB hc0 hk1
   dsimp only
   refine hK _ _ ⟨fun _=>HBX _ hc1,fun _=>trivial⟩ ?_
   clear hK K
   refine wpAnyG.one 8 (by kernel_rfl) (by decide) (by rfl) (fun K hK=>?_)
   simp only [lgA,lgZ,lgS]
   go_simp
   refine (addD z1 (hX.below hc1) G1.tr (by omega) (by omega) (by omega)).mono ?_
   rintro e z2 ⟨f2,c2,n2,i2,d2,m2,l2,rfl,G2,hk2⟩
   have hc2:Below wr.heap.size wr z2:=aB hc1 hk2
   dsimp only
   refine hK _ _ ⟨fun _=>HBX _ hc2,fun _=>trivial⟩ ?_
   clear hK K
   refine wpAnyG.one 9 (by kernel_rfl) (by decide) (by rfl) (fun K hK=>?_)
   simp only [lgA,lgZ,lgS]
   go_simp
   have hy:Below wr.heap.size wr (z2.alloc (.cells #[.bool f2,.slice c2 n2 i2,.slice d2 m2 l2] 27)):=gK hc2
   refine hK _ _ ⟨fun _=>HBX _ hy,fun _=>trivial⟩ ?_
   clear hK K
   refine wpAnyG.one 10 (by kernel_rfl) (by decide) (by rfl) (fun K hK=>?_)
   simp only [lgA,lgZ,lgS]
   have hsz1:(z2.alloc (.cells #[.bool f2,.slice c2 n2 i2,.slice d2 m2 l2] 27)).heap.size = z2.heap.size + 1:=by simp
   have hs2:=hc2.size
   have hs1:=hc1.size
   have GE:EX (z2.alloc (.cells #[.bool f2,.slice c2 n2 i2,.slice d2 m2 l2] 27)) (w.heap.size + 1) w.heap.size f2 c2 n2 i2 d2 m2 l2 (X j + t * Z j) (Kx + Kt + Kz + 1):=.inl (((((G2.below (aG _ _)).mono (B':=w.heap.size + 1) (by omega)).le (by omega)).gx (R:=w.heap.size) (.inl (by omega))))
   refine jD _ _ _ rfl (w.heap.size + 1) w.heap.size (.slice o1 j k1) j (fun j=>X j + t * Z j) (Kx + Kt + Kz + 1) rfl (L.below (by omega) hy) z2.heap.size _ rfl f2 c2 n2 i2 d2 m2 l2 _ (fK (by rfl)) GE (by omega) (by omega) (z2.heap.size + 1) (by simp) (by omega) ?_
   intro gN capN w5 SN hg hat hlt5
   refine hK _ _ ⟨fun _=>⟨aP hg (aF hy x0) (fun e=>by have:=hrow _ e;simp at this;try omega),aP hg (aF hy x1) (fun e=>by have:=hrow _ e;simp at this;try omega),aP hg (aF hy x2) (fun e=>by have:=hrow _ e;simp at this;try omega),aP hg (aF hy t0) (fun e=>by have:=hrow _ e;simp at this;try omega),aP hg (aF hy t1) (fun e=>by have:=hrow _ e;simp at this;try omega),aP hg (aF hy t2) (fun e=>by have:=hrow _ e;simp at this;try omega),aP hg (aF hy r0) (fun e=>by have:=hrow _ e;simp at this;try omega),aP hg (aF hy r1) (fun e=>by have:=hrow _ e;simp at this;try omega),aP hg (aF hy r2) (fun e=>by have:=hrow _ e;simp at this;try omega)⟩,fun _=>trivial⟩ ?_
   clear hK K
   refine wpAnyG.one 11 (by kernel_rfl) (by decide) (by rfl) (fun K hK=>?_)
   simp only [lgA,lgZ,lgS]
   go_simp
   refine hK _ _ ⟨fun h=>absurd h (by decide),fun _=>trivial⟩ ?_
   clear hK K
   refine wpAnyG.done (by kernel_rfl) (NoPanic.normal ?_)
   have hbD:=aB hbel hy
   have hbN:Below w.heap.size w w5:=hbD.trans ((grown_below (B:=w.heap.size + 1) hg (by omega) (fun k hk=>(hrow k hk).1)).mono (by omega))
   have hs5:w.heap.size + 1≤w5.heap.size:=by have:=hg.size;omega
   have TbN:BoxC w5 w.heap.size [.bool p,.slice a na ca,.slice d nd cd]:=fun i u hu=>aP hg (Tb.below hy i u hu) (fun e=>by have:=hrow _ e;simp at this;omega)
   have LN:MX w5 (w.heap.size + 1) w.heap.size (.slice (some ⟨gN,0,none⟩) (j + 1) capN) (j + 1) (fun j=>X j + t * Z j) (Kx + Kt + Kz + 1):=by
    obtain ⟨h1,vs,h2,h3⟩:=SN
    refine ⟨h1,vs,h2,fun i hi=>?_⟩
    have h4:=h3 i hi
    by_cases hij:i < j
    ·simpa only [hij,if_true] using h4
    ·obtain rfl:i = j:=by omega
     simpa only [Nat.lt_irrefl,if_false] using h4
   clear HBX hg hat hlt5 SN GE G1 G2 hy hc0 hc1 hc2 hk1 hk2 x0 x1 x2 r0 r1 r2 t0 t1 t2 L Tb hbel hbD htr hX hZ hrow hrow0
   go_wp2
   go_roundw
   case rel=>first | exact ⟨j + 1,by omega,by go_num,LN,TbN,hbN,hs5⟩ | ((repeat apply Exists.intro);refine ⟨?_,rfl⟩;exact ⟨j + 1,by omega,by go_num,LN,TbN,hbN,hs5⟩)
   case measure=>simp [intOf];omega
  ·have hkI:¬ (j:Int) < (n:Int):=by omega
   obtain rfl:j = n:=by omega
   have hL:=L.lq
   clear L Tb
   go_wp2
   go_ret
   exact ⟨_,⟨_,rfl⟩,hL,hbel⟩
section
variable (va:Option Addr)
end
end Go.Proofs.YtnokmjmefipplaaGreatDoor
namespace Go.Proofs.YtnokmjmefipplaaGreatDoor
open Go.RowKit
theorem aK1 (P:Prob) (C:Crt) {p:Bool} {a:Option Addr} {na ca:Nat} {d:Option Addr} {nd cd:Nat} {m:Rat} {Km:Nat} (w:World) (hP:PQ w P) (hC:CQ w C) (hm:TR w p a na ca d nd cd m Km) (hKm:1≤Km) (hK:P.K + C.K + Km≤1048576) (hxn:C.xn = P.vn) (hzn:C.zn = P.vn) (hl:bY P C.xn C.X) (hd:Dir P C.Z) (hi:imp P C.Z) :
 Calls Tryz.prog 17 #[P.val,C.val,.agg #[.bool p,.slice a na ca,.slice d nd cd]] w fun e w'=>e = .returned (.bool true)∧Below w.heap.size w w':=by
 have hall:=hC.all
 have hallP:=hP.all
 have ht1:=bJ C.ZX C.xn
 have ht2:=bJ C.ZY C.yn
 have ht3:=bJ C.ZZ C.zn
 have hs1C:=hC.s1
 have HXN:Hid (C.xn = P.vn):=hxn
 have HZN:Hid (C.zn = C.xn):=by show C.zn = C.xn;omega
 have HZP:Hid (C.zn = P.vn):=hzn
 have hxv:C.xn≤1048576:=by have:=aT C.ZX C.xn;omega
 have hCz:∀ i,i < C.xn→1≤C.ZZ i∧SzR (C.Z i) (C.ZZ i):=fun i hi=>hC.zz i (by omega)
 have htz:tot C.ZZ C.xn = tot C.ZZ C.zn:=by rw [HZN.out]
 have hsum:tot C.ZX C.xn + tot C.ZZ C.xn≤C.K:=by omega
 have HVX:Hid (vlu P (xn C.X C.xn) = vlu P C.X):=uH P C.X (by omega)
 have HR0:Hid (rte P C.Z ≠ 0):=aG9 hi
 have HSZ:Hid (SzR ((m - vlu P C.X) / rte P C.Z) (P.K + C.K + Km + 2)∧SzR (((m - vlu P C.X) / rte P C.Z) + 1) (P.K + C.K + Km + 3)):=hP.step_sz (fun i hi=>(hC.zx i (by omega)).2) (fun i hi=>(hCz i (by omega)).2) (by rw [← HXN.out];exact hsum) (hm.sz hKm) (by omega) (aG9 hi)
 have HL:Hid (∀ t:Rat,0≤t→bY P C.xn (fun j=>C.X j + t * C.Z j)):=fun t ht=>aE9 ht hl hd
 have HBT:Hid (∀ t:Rat,((m - vlu P C.X) / rte P C.Z)≤t→btr P (vlu P (fun j=>C.X j + (t + 1) * C.Z j)) m):=fun t ht=>aJ9 hi ht
 have HSUM:Hid (tot C.ZX C.xn + tot C.ZZ C.xn≤C.K):=hsum
 clear hxn hzn hl hd hi hsum htz
 unfold Prob.val Crt.val
 obtain ⟨Pb,Cb,Mb,hb0,hs0⟩:=iT w #[.bool P.mx,.string P.nm,.bool P.p,.slice P.a P.na P.ca,.slice P.d P.nd P.cd,.slice P.va P.vn P.vc,.slice P.ra P.rn P.rc] 31 #[.int .i64 C.vd,.bool C.p,.slice C.a C.na C.ca,.slice C.d C.nd C.cd,.slice C.xa C.xn C.xc,.slice C.ya C.yn C.yc,.slice C.za C.zn C.zc] 47 #[.bool p,.slice a na ca,.slice d nd cd] 27
 have p0:=Pb 0 _ rfl;have p1:=Pb 1 _ rfl;have p2:=Pb 2 _ rfl;have p3:=Pb 3 _ rfl;have p4:=Pb 4 _ rfl;have p5:=Pb 5 _ rfl;have p6:=Pb 6 _ rfl
 have c6:=Cb 6 _ rfl
 go_enter Tryz.func17,Tryz.ntmps17
 go_wp2_with fail
 clear p0 p1 p2 p3 p4 p5 p6 c6
 generalize ((w.alloc (.cells #[.bool P.mx,.string P.nm,.bool P.p,.slice P.a P.na P.ca,.slice P.d P.nd P.cd,.slice P.va P.vn P.vc,.slice P.ra P.rn P.rc] 31)).alloc (.cells #[.int .i64 C.vd,.bool C.p,.slice C.a C.na C.ca,.slice C.d C.nd C.cd,.slice C.xa C.xn C.xc,.slice C.ya C.yn C.yc,.slice C.za C.zn C.zc] 47)).alloc (.cells #[.bool p,.slice a na ca,.slice d nd cd] 27) = W0 at *
 refine (aQ4 P (Kz:=C.K) W0 (hP.below hb0) (hC.z.below hb0) hC.zz (by omega) HZP.out (by omega)).mono ?_
 rintro e w1 ⟨fR,cR,nR,kR,dR,mR,lR,rfl,Gr,h1⟩
 have hs1:=h1.size
 have hx:=aG w1 (.cells #[.bool fR,.slice cR nR kR,.slice dR mR lR] 27)
 have Rb:=aN w1 (.bool fR) (.slice cR nR kR) (.slice dR mR lR) 27
 have hs2:(w1.alloc (.cells #[.bool fR,.slice cR nR kR,.slice dR mR lR] 27)).heap.size = w1.heap.size + 1:=by simp
 have hbU:=aB hb0 (aB h1 hx)
 replace Pb:=(Pb.below h1).below hx
 replace Cb:=(Cb.below h1).below hx
 replace Mb:=(Mb.below h1).below hx
 replace Gr:=Gr.below hx
 obtain ⟨r0,r1,r2,_,_,_⟩:=id Rb
 clear h1 hx hb0
 go_wp2_with fail
 clear r0 r1 r2
 obtain ⟨RR,hRR⟩:∃ R,R = w1.heap.size:=⟨_,rfl⟩
 rw [← hRR] at Rb hs2 ⊢
 have hR3:w.heap.size + 3≤RR:=by omega
 clear hRR hs1
 generalize w1.alloc (.cells #[.bool fR,.slice cR nR kR,.slice dR mR lR] 27) = U0 at *
 refine (aC0 U0 Gr.tr (by omega) (by omega)).mono ?_
 rintro e U ⟨rfl,h1⟩
 obtain ⟨sg,hsg⟩:∃ s,s = (rte P C.Z).num.sign:=⟨_,rfl⟩
 rw [← hsg]
 have hsN:¬ sg = 0:=by
  intro e
  rcases (show rte P C.Z = 0∨0 < rte P C.Z∨rte P C.Z < 0 by grind) with h | h | h
  ·exact HR0.out h
  ·have:=kW h;omega
  ·have:=kX h;omega
 have hsB:(sg == 0) = false:=by simpa using hsN
 have hsU:=h1.size
 replace Pb:=Pb.below h1
 replace Cb:=Cb.below h1
 replace Mb:=Mb.below h1
 replace Rb:=Rb.below h1
 replace Gr:=Gr.below h1
 replace hbU:=aB hbU h1
 clear h1 hsg
 go_wp2_with fail
 clear hsN hsB
 have HBX:∀ w',Below U.heap.size U w'→(w'.cell? ⟨w.heap.size,0,none⟩ = some (.bool P.mx)∧w'.cell? ⟨w.heap.size,1,none⟩ = some (.string P.nm)∧w'.cell? ⟨w.heap.size,2,none⟩ = some (.bool P.p)∧w'.cell? ⟨w.heap.size,3,none⟩ = some (.slice P.a P.na P.ca)∧w'.cell? ⟨w.heap.size,4,none⟩ = some (.slice P.d P.nd P.cd)∧w'.cell? ⟨w.heap.size,5,none⟩ = some (.slice P.va P.vn P.vc)∧w'.cell? ⟨w.heap.size,6,none⟩ = some (.slice P.ra P.rn P.rc)∧w'.cell? ⟨w.heap.size + 1,4,none⟩ = some (.slice C.xa C.xn C.xc)∧w'.cell? ⟨w.heap.size + 2,0,none⟩ = some (.bool p)∧w'.cell? ⟨w.heap.size + 2,1,none⟩ = some (.slice a na ca)∧w'.cell? ⟨w.heap.size + 2,2,none⟩ = some (.slice d nd cd)∧w'.cell? ⟨RR,0,none⟩ = some (.bool fR)∧w'.cell? ⟨RR,1,none⟩ = some (.slice cR nR kR)∧w'.cell? ⟨RR,2,none⟩ = some (.slice dR mR lR)):=fun w' h=>⟨(Pb.below h) 0 _ rfl,(Pb.below h) 1 _ rfl,(Pb.below h) 2 _ rfl,(Pb.below h) 3 _ rfl,(Pb.below h) 4 _ rfl,(Pb.below h) 5 _ rfl,(Pb.below h) 6 _ rfl,(Cb.below h) 4 _ rfl,(Mb.below h) 0 _ rfl,(Mb.below h) 1 _ rfl,(Mb.below h) 2 _ rfl,(Rb.below h).c0,(Rb.below h).c1,(Rb.below h).c2⟩
 refine xE (fun a0 a' w'=>∃ (u1 u2 u3 u4 u5 u6 u7 u8 u9 u10 u11:Value) (RW:Nat) (fQ:Bool) (cQ:Option Addr) (nQ kQ:Nat) (dQ:Option Addr) (mQ lQ:Nat),a' = (((((((((((((a0.put (some 21) u1).put (some 22) u2).put (some 23) u3).put (some 24) u4).put (some 27) u5).put (some 25) u6).put (some 26) u7).put (some 28) u8).put (some 20) u9).put (some 29) u10).put (some 30) u11).put (some 8) (.pointer (some ⟨RW,0,none⟩))).put (some 9) (.int .i64 0))∧Var3 w' RW (.bool fQ) (.slice cQ nQ kQ) (.slice dQ mQ lQ)∧GR w' U.heap.size fQ cQ nQ kQ dQ mQ lQ ((m - vlu P C.X) / rte P C.Z) (P.K + C.K + Km + 2)∧U.heap.size≤RW∧Below U.heap.size U w') ?_ ?_
 ·refine wp_region_noPanic (aU 13 HBX (by kernel_rfl) ?_)
  have hc0:Below U.heap.size U U.drew:=aK _
  generalize U.drew = z0 at *
  refine wpAnyG.tT 0 (v:=.agg #[.bool p,.slice a na ca,.slice d nd cd]) (by decide) 13 (by kernel_rfl) (by rfl) ?y0 (HBX _ hc0) ?_
  case y0 =>
   rintro w' ⟨q0,q1,q2,q3,q4,q5,q6,q7,q8,q9,q10,q11,q12,q13⟩
   simp only [lgA,lgZ]
   go_simp
  simp only [lgA,lgZ,Act.put,lsA,lsZ,lsS]
  refine wpAnyG.tT 1 (v:=.agg #[.bool P.mx,.string P.nm,.bool P.p,.slice P.a P.na P.ca,.slice P.d P.nd P.cd,.slice P.va P.vn P.vc,.slice P.ra P.rn P.rc]) (by decide) 13 (by kernel_rfl) (by rfl) ?y1 (HBX _ hc0) ?_
  case y1 =>
   rintro w' ⟨q0,q1,q2,q3,q4,q5,q6,q7,q8,q9,q10,q11,q12,q13⟩
   simp only [lgA,lgZ,lgS]
   go_simp
  simp only [lgA,lgZ,lgS,Act.put,lsA,lsZ,lsS]
  refine wpAnyG.tT 2 (v:=.pointer (some ⟨w.heap.size + 1,4,none⟩)) (by decide) 13 (by kernel_rfl) (by rfl) ?y2 (HBX _ hc0) ?_
  case y2 =>
   rintro w' ⟨q0,q1,q2,q3,q4,q5,q6,q7,q8,q9,q10,q11,q12,q13⟩
   simp only [lgA,lgZ,lgS]
   go_simp
  simp only [lgA,lgZ,lgS,Act.put,lsA,lsZ,lsS]
  refine wpAnyG.tT 3 (v:=.slice C.xa C.xn C.xc) (by decide) 13 (by kernel_rfl) (by rfl) ?y3 (HBX _ hc0) ?_
  case y3 =>
   rintro w' ⟨q0,q1,q2,q3,q4,q5,q6,q7,q8,q9,q10,q11,q12,q13⟩
   simp only [lgA,lgZ,lgS]
   go_simp
  simp only [lgA,lgZ,lgS,Act.put,lsA,lsZ,lsS]
  refine wpAnyG.tT 6 (v:=.agg #[.bool fR,.slice cR nR kR,.slice dR mR lR]) (by decide) 13 (by kernel_rfl) (by rfl) ?y6 (HBX _ hc0) ?_
  case y6 =>
   rintro w' ⟨q0,q1,q2,q3,q4,q5,q6,q7,q8,q9,q10,q11,q12,q13⟩
   simp only [lgA,lgZ,lgS]
   go_simp
  simp only [lgA,lgZ,lgS,Act.put,lsA,lsZ,lsS]
  refine wpAnyG.two 4 11 (by kernel_rfl) (by decide) (by decide) (by rfl) (by rfl) (fun K hK=>?_) (fun K hK=>?_)
  ·simp only [lgA,lgZ,lgS]
   go_simp
   refine (yV P (Kx:=C.K) z0 (hP.below (aB hbU hc0)) (hC.x.below (aB hbU hc0)) hC.zx (by omega) (by omega)).mono ?_
   rintro e z1 ⟨f1,c1,n1,k1,d1,m1,l1,rfl,G1,hk⟩
   replace G1:=G1.val HVX.out
   have hc1:=aB hc0 hk
   dsimp only
   refine hK _ _ ⟨fun _=>HBX _ hc1,fun _=>trivial⟩ ?_
   clear hK K hk
   refine wpAnyG.two 5 11 (by kernel_rfl) (by decide) (by decide) (by rfl) (by rfl) (fun K hK=>?_) (fun K hK=>?_)
   ·simp only [lgA,lgZ,lgS]
    go_simp
    refine (subD z1 (hm.below (aB hbU hc1)) G1.tr (by omega) hKm (by omega)).mono ?_
    rintro e z2 ⟨f2,c2,n2,k2,d2,m2,l2,rfl,S2,hk⟩
    have hc2:=aB hc1 hk
    dsimp only
    refine hK _ _ ⟨fun _=>HBX _ hc2,fun _=>trivial⟩ ?_
    clear hK K hk G1
    refine wpAnyG.two 7 11 (by kernel_rfl) (by decide) (by decide) (by rfl) (by rfl) (fun K hK=>?_) (fun K hK=>?_)
    ·simp only [lgA,lgZ,lgS]
     go_simp
     refine (quoD z2 S2.tr (Gr.tr.below hc2) (by omega) (by omega) (by omega) HR0.out).mono ?_
     rintro e z3 ⟨fQ,cQ,nQ,kQ,dQ,mQ,lQ,rfl,R3,hk⟩
     have hc3:=aB hc2 hk
     replace R3:=R3.fit HSZ.out.1
     replace R3:=R3.mono (B':=U.heap.size) hc2.size
     dsimp only
     refine hK _ _ ⟨fun _=>HBX _ hc3,fun _=>trivial⟩ ?_
     clear hK K hk S2
     refine wpAnyG.tT 8 (v:=.tuple #[.agg #[.bool fQ,.slice cQ nQ kQ,.slice dQ mQ lQ],.int .i64 0]) (by decide) 13 (by kernel_rfl) (by rfl) ?y8 (HBX _ hc3) ?_
     case y8 =>
      rintro w' ⟨q0,q1,q2,q3,q4,q5,q6,q7,q8,q9,q10,q11,q12,q13⟩
      simp only [lgA,lgZ,lgS]
      go_simp
     simp only [lgA,lgZ,lgS,Act.put,lsA,lsZ,lsS]
     refine wpAnyG.tT 9 (v:=.agg #[.bool fQ,.slice cQ nQ kQ,.slice dQ mQ lQ]) (by decide) 13 (by kernel_rfl) (by rfl) ?y9 (HBX _ hc3) ?_
     case y9 =>
      rintro w' ⟨q0,q1,q2,q3,q4,q5,q6,q7,q8,q9,q10,q11,q12,q13⟩
      simp only [lgA,lgZ,lgS]
      go_simp
     simp only [lgA,lgZ,lgS,Act.put,lsA,lsZ,lsS]
     refine wpAnyG.tT 10 (v:=.int .i64 0) (by decide) 13 (by kernel_rfl) (by rfl) ?y10 (HBX _ hc3) ?_
     case y10 =>
      rintro w' ⟨q0,q1,q2,q3,q4,q5,q6,q7,q8,q9,q10,q11,q12,q13⟩
      simp only [lgA,lgZ,lgS]
      go_simp
     simp only [lgA,lgZ,lgS,Act.put,lsA,lsZ,lsS]
     refine wpAnyG.one 11 (by kernel_rfl) (by decide) (by rfl) (fun K hK=>?_)
     simp only [lgA,lgZ,lgS]
     go_simp
     replace R3:=R3.gx (R:=z3.heap.size) (.inr (Nat.le_refl _))
     have hx:=aG z3 (.cells #[.bool false,.slice none 0 0,.slice none 0 0] 27)
     have VA4:=aN z3 (.bool false) (.slice none 0 0) (.slice none 0 0) 27
     have hc4:=aB hc3 hx
     have hR0:U.heap.size≤z3.heap.size:=hc3.size
     have R4:=R3.below hx
     refine hK _ _ ⟨fun _=>HBX _ hc4,fun _=>trivial⟩ ?_
     clear hK K hx
     generalize z3.alloc (.cells #[.bool false,.slice none 0 0,.slice none 0 0] 27) = z4 at *
     refine wpAnyG.one 12 (by kernel_rfl) (by decide) (by rfl) (fun K hK=>?_)
     obtain ⟨x0,x1,x2,x3,x4,x5⟩:=id VA4
     simp only [lgA,lgZ,lgS]
     go_simp
     obtain ⟨VN,O⟩:=VA4.set (.bool fQ) (.slice cQ nQ kQ) (.slice dQ mQ lQ)
     refine hK _ _ ⟨fun _=>HBX _ (hc4.trans (O.below hR0)),fun _=>trivial⟩ ?_
     clear hK K
     refine wpAnyG.one 13 (by kernel_rfl) (by decide) (by rfl) (fun K hK=>?_)
     simp only [lgA,lgZ,lgS]
     go_simp
     refine hK _ _ ⟨fun h=>absurd h (by decide),fun _=>trivial⟩ ?_
     clear hK K
     refine wpAnyG.done (by kernel_rfl) (NoPanic.normal ?_)
     exact ⟨rfl,_,_,_,_,_,_,_,_,_,_,_,z3.heap.size,fQ,cQ,nQ,kQ,dQ,mQ,lQ,rfl,VN,(R4.off O).1,hR0,hc4.trans (O.below hR0)⟩
    ·simp only [lgA,lgZ,lgS]
     go_simp
     have hx:=aG z2 (.cells #[.bool false,.slice none 0 0,.slice none 0 0] 27)
     have VA3:=aN z2 (.bool false) (.slice none 0 0) (.slice none 0 0) 27
     have hc3:=aB hc2 hx
     have hR0:U.heap.size≤z2.heap.size:=hc2.size
     have hRz3:z2.heap.size < (z2.alloc (.cells #[.bool false,.slice none 0 0,.slice none 0 0] 27)).heap.size:=by simp
     have S3:=S2.below hx
     refine hK _ _ ⟨fun _=>HBX _ hc3,fun _=>trivial⟩ ?_
     clear hK K hx
     generalize z2.alloc (.cells #[.bool false,.slice none 0 0,.slice none 0 0] 27) = z3 at *
     refine wpAnyG.one 7 (by kernel_rfl) (by decide) (by rfl) (fun K hK=>?_)
     simp only [lgA,lgZ,lgS]
     go_simp
     refine (quoD z3 S3.tr (Gr.tr.below hc3) (by omega) (by omega) (by omega) HR0.out).mono ?_
     rintro e z4 ⟨fQ,cQ,nQ,kQ,dQ,mQ,lQ,rfl,R4,hk⟩
     have hc4:=aB hc3 hk
     replace R4:=R4.fit HSZ.out.1
     replace R4:=(R4.gx (R:=z2.heap.size) (.inl hRz3)).mono (B':=U.heap.size) hc3.size
     have VA4:=VA3.below hk
     have hRz4:=Nat.lt_of_lt_of_le hRz3 hk.size
     dsimp only
     refine hK _ _ ⟨fun _=>HBX _ hc4,fun _=>trivial⟩ ?_
     clear hK K hk S3
     refine wpAnyG.tT 8 (v:=.tuple #[.agg #[.bool fQ,.slice cQ nQ kQ,.slice dQ mQ lQ],.int .i64 0]) (by decide) 13 (by kernel_rfl) (by rfl) ?y8 (HBX _ hc4) ?_
     case y8 =>
      rintro w' ⟨q0,q1,q2,q3,q4,q5,q6,q7,q8,q9,q10,q11,q12,q13⟩
      simp only [lgA,lgZ,lgS]
      go_simp
     simp only [lgA,lgZ,lgS,Act.put,lsA,lsZ,lsS]
     refine wpAnyG.tT 9 (v:=.agg #[.bool fQ,.slice cQ nQ kQ,.slice dQ mQ lQ]) (by decide) 13 (by kernel_rfl) (by rfl) ?y9 (HBX _ hc4) ?_
     case y9 =>
      rintro w' ⟨q0,q1,q2,q3,q4,q5,q6,q7,q8,q9,q10,q11,q12,q13⟩
      simp only [lgA,lgZ,lgS]
      go_simp
     simp only [lgA,lgZ,lgS,Act.put,lsA,lsZ,lsS]
     refine wpAnyG.tT 10 (v:=.int .i64 0) (by decide) 13 (by kernel_rfl) (by rfl) ?y10 (HBX _ hc4) ?_
     case y10 =>
      rintro w' ⟨q0,q1,q2,q3,q4,q5,q6,q7,q8,q9,q10,q11,q12,q13⟩
      simp only [lgA,lgZ,lgS]
      go_simp
     simp only [lgA,lgZ,lgS,Act.put,lsA,lsZ,lsS]
     refine wpAnyG.one 12 (by kernel_rfl) (by decide) (by rfl) (fun K hK=>?_)
     obtain ⟨x0,x1,x2,x3,x4,x5⟩:=id VA4
     simp only [lgA,lgZ,lgS]
     go_simp
     obtain ⟨VN,O⟩:=VA4.set (.bool fQ) (.slice cQ nQ kQ) (.slice dQ mQ lQ)
     refine hK _ _ ⟨fun _=>HBX _ (hc4.trans (O.below hR0)),fun _=>trivial⟩ ?_
     clear hK K
     refine wpAnyG.one 13 (by kernel_rfl) (by decide) (by rfl) (fun K hK=>?_)
     simp only [lgA,lgZ,lgS]
     go_simp
     refine hK _ _ ⟨fun h=>absurd h (by decide),fun _=>trivial⟩ ?_
     clear hK K
     refine wpAnyG.done (by kernel_rfl) (NoPanic.normal ?_)
     exact ⟨rfl,_,_,_,_,_,_,_,_,_,_,_,z2.heap.size,fQ,cQ,nQ,kQ,dQ,mQ,lQ,rfl,VN,(R4.off O).1,hR0,hc4.trans (O.below hR0)⟩
   ·simp only [lgA,lgZ,lgS]
    go_simp
    have hx:=aG z1 (.cells #[.bool false,.slice none 0 0,.slice none 0 0] 27)
    have VA2:=aN z1 (.bool false) (.slice none 0 0) (.slice none 0 0) 27
    have hc2:=aB hc1 hx
    have hR0:U.heap.size≤z1.heap.size:=hc1.size
    have hRz2:z1.heap.size < (z1.alloc (.cells #[.bool false,.slice none 0 0,.slice none 0 0] 27)).heap.size:=by simp
    have G2:=G1.below hx
    refine hK _ _ ⟨fun _=>HBX _ hc2,fun _=>trivial⟩ ?_
    clear hK K hx
    generalize z1.alloc (.cells #[.bool false,.slice none 0 0,.slice none 0 0] 27) = z2 at *
    refine wpAnyG.one 5 (by kernel_rfl) (by decide) (by rfl) (fun K hK=>?_)
    simp only [lgA,lgZ,lgS]
    go_simp
    refine (subD z2 (hm.below (aB hbU hc2)) G2.tr (by omega) hKm (by omega)).mono ?_
    rintro e z3 ⟨f2,c2,n2,k2,d2,m2,l2,rfl,S3,hk⟩
    have hc3:=aB hc2 hk
    have VA3:=VA2.below hk
    have hRz3:=Nat.lt_of_lt_of_le hRz2 hk.size
    dsimp only
    refine hK _ _ ⟨fun _=>HBX _ hc3,fun _=>trivial⟩ ?_
    clear hK K hk G2
    refine wpAnyG.one 7 (by kernel_rfl) (by decide) (by rfl) (fun K hK=>?_)
    simp only [lgA,lgZ,lgS]
    go_simp
    refine (quoD z3 S3.tr (Gr.tr.below hc3) (by omega) (by omega) (by omega) HR0.out).mono ?_
    rintro e z4 ⟨fQ,cQ,nQ,kQ,dQ,mQ,lQ,rfl,R4,hk⟩
    have hc4:=aB hc3 hk
    replace R4:=R4.fit HSZ.out.1
    replace R4:=(R4.gx (R:=z1.heap.size) (.inl hRz3)).mono (B':=U.heap.size) hc3.size
    have VA4:=VA3.below hk
    have hRz4:=Nat.lt_of_lt_of_le hRz3 hk.size
    dsimp only
    refine hK _ _ ⟨fun _=>HBX _ hc4,fun _=>trivial⟩ ?_
    clear hK K hk S3
    refine wpAnyG.tT 8 (v:=.tuple #[.agg #[.bool fQ,.slice cQ nQ kQ,.slice dQ mQ lQ],.int .i64 0]) (by decide) 13 (by kernel_rfl) (by rfl) ?y8 (HBX _ hc4) ?_
    case y8 =>
     rintro w' ⟨q0,q1,q2,q3,q4,q5,q6,q7,q8,q9,q10,q11,q12,q13⟩
     simp only [lgA,lgZ,lgS]
     go_simp
    simp only [lgA,lgZ,lgS,Act.put,lsA,lsZ,lsS]
    refine wpAnyG.tT 9 (v:=.agg #[.bool fQ,.slice cQ nQ kQ,.slice dQ mQ lQ]) (by decide) 13 (by kernel_rfl) (by rfl) ?y9 (HBX _ hc4) ?_
    case y9 =>
     rintro w' ⟨q0,q1,q2,q3,q4,q5,q6,q7,q8,q9,q10,q11,q12,q13⟩
     simp only [lgA,lgZ,lgS]
     go_simp
    simp only [lgA,lgZ,lgS,Act.put,lsA,lsZ,lsS]
    refine wpAnyG.tT 10 (v:=.int .i64 0) (by decide) 13 (by kernel_rfl) (by rfl) ?y10 (HBX _ hc4) ?_
    case y10 =>
     rintro w' ⟨q0,q1,q2,q3,q4,q5,q6,q7,q8,q9,q10,q11,q12,q13⟩
     simp only [lgA,lgZ,lgS]
     go_simp
    simp only [lgA,lgZ,lgS,Act.put,lsA,lsZ,lsS]
    refine wpAnyG.one 12 (by kernel_rfl) (by decide) (by rfl) (fun K hK=>?_)
    obtain ⟨x0,x1,x2,x3,x4,x5⟩:=id VA4
    simp only [lgA,lgZ,lgS]
    go_simp
    obtain ⟨VN,O⟩:=VA4.set (.bool fQ) (.slice cQ nQ kQ) (.slice dQ mQ lQ)
    refine hK _ _ ⟨fun _=>HBX _ (hc4.trans (O.below hR0)),fun _=>trivial⟩ ?_
    clear hK K
    refine wpAnyG.one 13 (by kernel_rfl) (by decide) (by rfl) (fun K hK=>?_)
    simp only [lgA,lgZ,lgS]
    go_simp
    refine hK _ _ ⟨fun h=>absurd h (by decide),fun _=>trivial⟩ ?_
    clear hK K
    refine wpAnyG.done (by kernel_rfl) (NoPanic.normal ?_)
    exact ⟨rfl,_,_,_,_,_,_,_,_,_,_,_,z1.heap.size,fQ,cQ,nQ,kQ,dQ,mQ,lQ,rfl,VN,(R4.off O).1,hR0,hc4.trans (O.below hR0)⟩
  ·simp only [lgA,lgZ,lgS]
   go_simp
   have hx:=aG z0 (.cells #[.bool false,.slice none 0 0,.slice none 0 0] 27)
   have VA1:=aN z0 (.bool false) (.slice none 0 0) (.slice none 0 0) 27
   have hc1:=aB hc0 hx
   have hR0:U.heap.size≤z0.heap.size:=hc0.size
   have hRz1:z0.heap.size < (z0.alloc (.cells #[.bool false,.slice none 0 0,.slice none 0 0] 27)).heap.size:=by simp
   refine hK _ _ ⟨fun _=>HBX _ hc1,fun _=>trivial⟩ ?_
   clear hK K hx
   generalize z0.alloc (.cells #[.bool false,.slice none 0 0,.slice none 0 0] 27) = z1 at *
   refine wpAnyG.one 4 (by kernel_rfl) (by decide) (by rfl) (fun K hK=>?_)
   simp only [lgA,lgZ,lgS]
   go_simp
   refine (yV P (Kx:=C.K) z1 (hP.below (aB hbU hc1)) (hC.x.below (aB hbU hc1)) hC.zx (by omega) (by omega)).mono ?_
   rintro e z2 ⟨f1,c1,n1,k1,d1,m1,l1,rfl,G2,hk⟩
   replace G2:=G2.val HVX.out
   have hc2:=aB hc1 hk
   have VA2:=VA1.below hk
   have hRz2:=Nat.lt_of_lt_of_le hRz1 hk.size
   dsimp only
   refine hK _ _ ⟨fun _=>HBX _ hc2,fun _=>trivial⟩ ?_
   clear hK K hk
   refine wpAnyG.one 5 (by kernel_rfl) (by decide) (by rfl) (fun K hK=>?_)
   simp only [lgA,lgZ,lgS]
   go_simp
   refine (subD z2 (hm.below (aB hbU hc2)) G2.tr (by omega) hKm (by omega)).mono ?_
   rintro e z3 ⟨f2,c2,n2,k2,d2,m2,l2,rfl,S3,hk⟩
   have hc3:=aB hc2 hk
   have VA3:=VA2.below hk
   have hRz3:=Nat.lt_of_lt_of_le hRz2 hk.size
   dsimp only
   refine hK _ _ ⟨fun _=>HBX _ hc3,fun _=>trivial⟩ ?_
   clear hK K hk G2
   refine wpAnyG.one 7 (by kernel_rfl) (by decide) (by rfl) (fun K hK=>?_)
   simp only [lgA,lgZ,lgS]
   go_simp
   refine (quoD z3 S3.tr (Gr.tr.below hc3) (by omega) (by omega) (by omega) HR0.out).mono ?_
   rintro e z4 ⟨fQ,cQ,nQ,kQ,dQ,mQ,lQ,rfl,R4,hk⟩
   have hc4:=aB hc3 hk
   replace R4:=R4.fit HSZ.out.1
   replace R4:=(R4.gx (R:=z0.heap.size) (.inl hRz3)).mono (B':=U.heap.size) hc3.size
   have VA4:=VA3.below hk
   have hRz4:=Nat.lt_of_lt_of_le hRz3 hk.size
   dsimp only
   refine hK _ _ ⟨fun _=>HBX _ hc4,fun _=>trivial⟩ ?_
   clear hK K hk S3
   refine wpAnyG.tT 8 (v:=.tuple #[.agg #[.bool fQ,.slice cQ nQ kQ,.slice dQ mQ lQ],.int .i64 0]) (by decide) 13 (by kernel_rfl) (by rfl) ?y8 (HBX _ hc4) ?_
   case y8 =>
    rintro w' ⟨q0,q1,q2,q3,q4,q5,q6,q7,q8,q9,q10,q11,q12,q13⟩
    simp only [lgA,lgZ,lgS]
    go_simp
   simp only [lgA,lgZ,lgS,Act.put,lsA,lsZ,lsS]
   refine wpAnyG.tT 9 (v:=.agg #[.bool fQ,.slice cQ nQ kQ,.slice dQ mQ lQ]) (by decide) 13 (by kernel_rfl) (by rfl) ?y9 (HBX _ hc4) ?_
   case y9 =>
    rintro w' ⟨q0,q1,q2,q3,q4,q5,q6,q7,q8,q9,q10,q11,q12,q13⟩
    simp only [lgA,lgZ,lgS]
    go_simp
   simp only [lgA,lgZ,lgS,Act.put,lsA,lsZ,lsS]
   refine wpAnyG.tT 10 (v:=.int .i64 0) (by decide) 13 (by kernel_rfl) (by rfl) ?y10 (HBX _ hc4) ?_
   case y10 =>
    rintro w' ⟨q0,q1,q2,q3,q4,q5,q6,q7,q8,q9,q10,q11,q12,q13⟩
    simp only [lgA,lgZ,lgS]
    go_simp
   simp only [lgA,lgZ,lgS,Act.put,lsA,lsZ,lsS]
   refine wpAnyG.one 12 (by kernel_rfl) (by decide) (by rfl) (fun K hK=>?_)
   obtain ⟨x0,x1,x2,x3,x4,x5⟩:=id VA4
   simp only [lgA,lgZ,lgS]
   go_simp
   obtain ⟨VN,O⟩:=VA4.set (.bool fQ) (.slice cQ nQ kQ) (.slice dQ mQ lQ)
   refine hK _ _ ⟨fun _=>HBX _ (hc4.trans (O.below hR0)),fun _=>trivial⟩ ?_
   clear hK K
   refine wpAnyG.one 13 (by kernel_rfl) (by decide) (by rfl) (fun K hK=>?_)
   simp only [lgA,lgZ,lgS]
   go_simp
   refine hK _ _ ⟨fun h=>absurd h (by decide),fun _=>trivial⟩ ?_
   clear hK K
   refine wpAnyG.done (by kernel_rfl) (NoPanic.normal ?_)
   exact ⟨rfl,_,_,_,_,_,_,_,_,_,_,_,z0.heap.size,fQ,cQ,nQ,kQ,dQ,mQ,lQ,rfl,VN,(R4.off O).1,hR0,hc4.trans (O.below hR0)⟩
 rintro a' w2 ⟨u1,u2,u3,u4,u5,u6,u7,u8,u9,u10,u11,RW,fQ,cQ,nQ,kQ,dQ,mQ,lQ,rfl,VT,GQ,hRA,hx⟩
 simp only [Act.put,List.setIfInBounds_toArray,List.set_cons_zero,List.set_cons_succ]
 replace Pb:=Pb.below hx
 replace Cb:=Cb.below hx
 replace Mb:=Mb.below hx
 replace hbU:=aB hbU hx
 have hs4:=hx.size
 clear HBX hx Rb Gr
 obtain ⟨v0,v1,v2,v3,v4,v5⟩:=id VT
 go_wp2_with fail
 clear v0 v1 v2 v3 v4 v5
 refine (aC0 w2 GQ.tr (by omega) (by omega)).mono ?_
 rintro e w3 ⟨rfl,h1⟩
 obtain ⟨sg,hsg⟩:∃ s,s = ((m - vlu P C.X) / rte P C.Z).num.sign:=⟨_,rfl⟩
 rw [← hsg]
 replace Pb:=Pb.below h1
 replace Cb:=Cb.below h1
 replace Mb:=Mb.below h1
 replace VT:=VT.below h1
 replace GQ:=GQ.below h1
 replace hbU:=aB hbU h1
 have hs5:=h1.size
 clear h1
 by_cases hneg:((m - vlu P C.X) / rte P C.Z) < 0
 focus
  obtain rfl:sg = -1:=hsg.trans (kX hneg).symm
  have HN:Hid (((m - vlu P C.X) / rte P C.Z) < 0):=hneg
  clear hsg hneg GQ
  obtain ⟨v0,v1,v2,v3,v4,v5⟩:=id VT
  go_wp2_with fail
  clear v0 v1 v2 v3 v4 v5
  obtain ⟨VN,O⟩:=VT.set (.bool false) (.slice none 0 0) (.slice none 0 0)
  have hbN:=hbU.trans (O.below (by omega))
  have PbN:BoxC _ w.heap.size (#[.bool P.mx,.string P.nm,.bool P.p,.slice P.a P.na P.ca,.slice P.d P.nd P.cd,.slice P.va P.vn P.vc,.slice P.ra P.rn P.rc]).toList:=fun i u hu=>(World.cell?_of_block (O.block w.heap.size (by omega))).trans (Pb i u hu)
  have CbN:BoxC _ (w.heap.size + 1) (#[.int .i64 C.vd,.bool C.p,.slice C.a C.na C.ca,.slice C.d C.nd C.cd,.slice C.xa C.xn C.xc,.slice C.ya C.yn C.yc,.slice C.za C.zn C.zc]).toList:=fun i u hu=>(World.cell?_of_block (O.block (w.heap.size + 1) (by omega))).trans (Cb i u hu)
  have MbN:BoxC _ (w.heap.size + 2) (#[.bool p,.slice a na ca,.slice d nd cd]).toList:=fun i u hu=>(World.cell?_of_block (O.block (w.heap.size + 2) (by omega))).trans (Mb i u hu)
  clear VT O hbU Pb Cb Mb
  generalize ((w3.setCell ⟨RW,0,none⟩ (.bool false)).setCell ⟨RW,1,none⟩ (.slice none 0 0)).setCell ⟨RW,2,none⟩ (.slice none 0 0) = w4 at *
  have VT:=VN
  have Pb:=PbN
  have Cb:=CbN
  have Mb:=MbN
  clear VN PbN CbN MbN
  have hbS:=hbN
  have HTR:Hid (TR w4 false none 0 0 none 0 0 (0:Rat) (1)):=mG _
  have HS1:Hid (SzR ((0:Rat) + ((1:Int):Rat)) (P.K + C.K + Km + 3)):=by show SzR ((0:Rat) + ((1:Int):Rat)) _;rw [q1,Rat.zero_add];exact (szw 1 (by decide)).le (by omega)
  have HL1:Hid (bY P C.xn (fun j=>C.X j + ((0:Rat) + ((1:Int):Rat)) * C.Z j)):=HL.out _ (by rw [q1,Rat.zero_add];decide)
  have HB1:Hid (btr P (vlu P (fun j=>C.X j + ((0:Rat) + ((1:Int):Rat)) * C.Z j)) m):=by
   show btr P _ m
   rw [q1]
   exact HBT.out _ (by have:=HN.out;grind)
  have hsum:=HSUM.out
  have htz:tot C.ZZ C.xn≤C.K:=by omega
  have HAL:∀ (w':World) (f2:Bool) (e1:Option Addr) (n3 k3:Nat) (e2:Option Addr) (n4 k4:Nat),Below w.heap.size w w'→TR w' f2 e1 n3 k3 e2 n4 k4 ((0:Rat) + ((1:Int):Rat)) (P.K + C.K + Km + 3)→Calls Tryz.prog 40 #[.slice C.xa C.xn C.xc,.agg #[.bool f2,.slice e1 n3 k3,.slice e2 n4 k4],.slice C.za C.zn C.zc] w' fun e w''=>∃ b cap,e = .returned (.slice b C.xn cap)∧LQ w'' b C.xn (fun j=>C.X j + ((0:Rat) + ((1:Int):Rat)) * C.Z j) (fun _=>tot C.ZX C.xn + (P.K + C.K + Km + 3) + tot C.ZZ C.xn + 1)∧Below w'.heap.size w' w'':=fun w' f2 e1 n3 k3 e2 n4 k4 hb htr=>by
   have hzl:LQ w' C.za C.xn C.Z C.ZZ:=by rw [← HZN.out];exact hC.z.below hb
   rw [HZN.out]
   exact aH0 (Kx:=tot C.ZX C.xn) (Kz:=tot C.ZZ C.xn) (Kt:=(P.K + C.K + Km + 3)) w' (hC.x.below hb) (fun i hi=>⟨(hC.zx i hi).1,by have:=bI (Z:=C.ZX) hi;omega⟩) hzl (fun i hi=>⟨(hCz i hi).1,by have:=bI (Z:=C.ZZ) hi;omega⟩) htr (by omega) (by omega) hxv
  obtain ⟨D1,a1,a2,a3⟩:=aG8 (X:=C.X) (Z:=C.Z) (K:=C.K) (fun i hi=>(hC.zx i hi).2) (fun i hi=>(hCz i hi).2) HSUM.out HS1.out
  have HD:Hid (0 < D1∧D1 < pw (C.K + (P.K + C.K + Km + 3) + 1)∧∀ i,i < C.xn→Wd (C.K + (P.K + C.K + Km + 3) + 1) D1 (C.X i + ((0:Rat) + ((1:Int):Rat)) * C.Z i)):=⟨a1,a2,a3⟩
  clear a1 a2 a3 HSZ HR0 HVX HL HBT HSUM htz
  have HBX:∀ w',Below w4.heap.size w4 w'→(w'.cell? ⟨w.heap.size + 1,4,none⟩ = some (.slice C.xa C.xn C.xc)∧w'.cell? ⟨w.heap.size + 1,6,none⟩ = some (.slice C.za C.zn C.zc)∧w'.cell? ⟨RW,0,none⟩ = some (.bool false)∧w'.cell? ⟨RW,1,none⟩ = some (.slice none 0 0)∧w'.cell? ⟨RW,2,none⟩ = some (.slice none 0 0)):=fun w' h=>⟨(Cb.below h) 4 _ rfl,(Cb.below h) 6 _ rfl,(VT.below h).c0,(VT.below h).c1,(VT.below h).c2⟩
  refine wp_region_noPanic (bC HBX (by kernel_rfl) ?_)
  have hc0:Below w4.heap.size w4 w4.drew:=aK _
  generalize w4.drew = z0 at *
  refine wpAnyG.tA 0 (v:=.pointer (some ⟨w.heap.size + 1,4,none⟩)) (by decide) 8 (by kernel_rfl) (by rfl) ?y0 (HBX _ hc0) ?_
  case y0 =>
   rintro w' ⟨q0,q1,q2,q3,q4⟩
   simp only [lgA,lgZ]
   go_simp
  simp only [lgA,lgZ,Act.put,lsA,lsZ,lsS]
  refine wpAnyG.tA 1 (v:=.slice C.xa C.xn C.xc) (by decide) 8 (by kernel_rfl) (by rfl) ?y1 (HBX _ hc0) ?_
  case y1 =>
   rintro w' ⟨q0,q1,q2,q3,q4⟩
   simp only [lgA,lgZ,lgS]
   go_simp
  simp only [lgA,lgZ,lgS,Act.put,lsA,lsZ,lsS]
  refine wpAnyG.tA 2 (v:=.agg #[.bool false,.slice none 0 0,.slice none 0 0]) (by decide) 8 (by kernel_rfl) (by rfl) ?y2 (HBX _ hc0) ?_
  case y2 =>
   rintro w' ⟨q0,q1,q2,q3,q4⟩
   simp only [lgA,lgZ,lgS]
   go_simp
  simp only [lgA,lgZ,lgS,Act.put,lsA,lsZ,lsS]
  refine wpAnyG.tA 5 (v:=.pointer (some ⟨w.heap.size + 1,6,none⟩)) (by decide) 8 (by kernel_rfl) (by rfl) ?y5 (HBX _ hc0) ?_
  case y5 =>
   rintro w' ⟨q0,q1,q2,q3,q4⟩
   simp only [lgA,lgZ,lgS]
   go_simp
  simp only [lgA,lgZ,lgS,Act.put,lsA,lsZ,lsS]
  refine wpAnyG.tA 6 (v:=.slice C.za C.zn C.zc) (by decide) 8 (by kernel_rfl) (by rfl) ?y6 (HBX _ hc0) ?_
  case y6 =>
   rintro w' ⟨q0,q1,q2,q3,q4⟩
   simp only [lgA,lgZ,lgS]
   go_simp
  simp only [lgA,lgZ,lgS,Act.put,lsA,lsZ,lsS]
  refine wpAnyG.one 3 (by kernel_rfl) (by decide) (by rfl) (fun K hK=>?_)
  simp only [lgA,lgZ,lgS]
  go_simp
  refine (ofD 1 z0 (by decide) (by decide)).mono ?_
  rintro e z1 ⟨f1,d1,n1,k1,d2,n2,k2,rfl,G1,hk1⟩
  have hc1:Below w4.heap.size w4 z1:=aB hc0 hk1
  dsimp only
  refine hK _ _ (HBX _ hc1) ?_
  clear hK K
  refine wpAnyG.one 4 (by kernel_rfl) (by decide) (by rfl) (fun K hK=>?_)
  simp only [lgA,lgZ,lgS]
  go_simp
  refine (addD z1 (HTR.out.below hc1) G1.tr (by omega) (by omega) (by omega)).mono ?_
  rintro e z2 ⟨f2,e1,n3,k3,e2,n4,k4,rfl,G2,hk2⟩
  have hc2:Below w4.heap.size w4 z2:=aB hc1 hk2
  replace G2:=G2.fit HS1.out
  dsimp only
  refine hK _ _ (HBX _ hc2) ?_
  clear hK K
  refine wpAnyG.one 7 (by kernel_rfl) (by decide) (by rfl) (fun K hK=>?_)
  simp only [lgA,lgZ,lgS]
  go_simp
  refine (HAL z2 f2 e1 n3 k3 e2 n4 k4 (aB hbS hc2) G2.tr).mono ?_
  rintro e z3 ⟨yb,yc,rfl,LY,hk3⟩
  have hc3:Below w4.heap.size w4 z3:=aB hc2 hk3
 rotate_left
 focus
  have hsN:¬ sg < 0:=by
   intro e
   rcases (show ((m - vlu P C.X) / rte P C.Z) = 0∨0 < ((m - vlu P C.X) / rte P C.Z) by grind) with h | h
   ·have:=nK h;omega
   ·have:=kW h;omega
  have hsB:decide (sg < 0) = false:=by simpa using hsN
  have HN:Hid (¬ ((m - vlu P C.X) / rte P C.Z) < 0):=hneg
  clear hsg hneg
  go_wp2_with fail
  clear hsN hsB
  have hbS:=hbU
  have HTR:Hid (TR w3 fQ cQ nQ kQ dQ mQ lQ ((m - vlu P C.X) / rte P C.Z) (P.K + C.K + Km + 2)):=GQ.tr
  have HS1:Hid (SzR (((m - vlu P C.X) / rte P C.Z) + ((1:Int):Rat)) (P.K + C.K + Km + 3)):=by show SzR (_ + ((1:Int):Rat)) _;rw [q1];exact HSZ.out.2
  have HL1:Hid (bY P C.xn (fun j=>C.X j + (((m - vlu P C.X) / rte P C.Z) + ((1:Int):Rat)) * C.Z j)):=HL.out _ (by have:=HN.out;rw [q1];grind)
  have HB1:Hid (btr P (vlu P (fun j=>C.X j + (((m - vlu P C.X) / rte P C.Z) + ((1:Int):Rat)) * C.Z j)) m):=by
   show btr P _ m
   rw [q1]
   exact HBT.out _ (Rat.le_refl)
  have hsum:=HSUM.out
  have htz:tot C.ZZ C.xn≤C.K:=by omega
  have HAL:∀ (w':World) (f2:Bool) (e1:Option Addr) (n3 k3:Nat) (e2:Option Addr) (n4 k4:Nat),Below w.heap.size w w'→TR w' f2 e1 n3 k3 e2 n4 k4 (((m - vlu P C.X) / rte P C.Z) + ((1:Int):Rat)) (P.K + C.K + Km + 3)→Calls Tryz.prog 40 #[.slice C.xa C.xn C.xc,.agg #[.bool f2,.slice e1 n3 k3,.slice e2 n4 k4],.slice C.za C.zn C.zc] w' fun e w''=>∃ b cap,e = .returned (.slice b C.xn cap)∧LQ w'' b C.xn (fun j=>C.X j + (((m - vlu P C.X) / rte P C.Z) + ((1:Int):Rat)) * C.Z j) (fun _=>tot C.ZX C.xn + (P.K + C.K + Km + 3) + tot C.ZZ C.xn + 1)∧Below w'.heap.size w' w'':=fun w' f2 e1 n3 k3 e2 n4 k4 hb htr=>by
   have hzl:LQ w' C.za C.xn C.Z C.ZZ:=by rw [← HZN.out];exact hC.z.below hb
   rw [HZN.out]
   exact aH0 (Kx:=tot C.ZX C.xn) (Kz:=tot C.ZZ C.xn) (Kt:=(P.K + C.K + Km + 3)) w' (hC.x.below hb) (fun i hi=>⟨(hC.zx i hi).1,by have:=bI (Z:=C.ZX) hi;omega⟩) hzl (fun i hi=>⟨(hCz i hi).1,by have:=bI (Z:=C.ZZ) hi;omega⟩) htr (by omega) (by omega) hxv
  obtain ⟨D1,a1,a2,a3⟩:=aG8 (X:=C.X) (Z:=C.Z) (K:=C.K) (fun i hi=>(hC.zx i hi).2) (fun i hi=>(hCz i hi).2) HSUM.out HS1.out
  have HD:Hid (0 < D1∧D1 < pw (C.K + (P.K + C.K + Km + 3) + 1)∧∀ i,i < C.xn→Wd (C.K + (P.K + C.K + Km + 3) + 1) D1 (C.X i + (((m - vlu P C.X) / rte P C.Z) + ((1:Int):Rat)) * C.Z i)):=⟨a1,a2,a3⟩
  clear a1 a2 a3 HSZ HR0 HVX HL HBT HSUM htz
  have HBX:∀ w',Below w3.heap.size w3 w'→(w'.cell? ⟨w.heap.size + 1,4,none⟩ = some (.slice C.xa C.xn C.xc)∧w'.cell? ⟨w.heap.size + 1,6,none⟩ = some (.slice C.za C.zn C.zc)∧w'.cell? ⟨RW,0,none⟩ = some (.bool fQ)∧w'.cell? ⟨RW,1,none⟩ = some (.slice cQ nQ kQ)∧w'.cell? ⟨RW,2,none⟩ = some (.slice dQ mQ lQ)):=fun w' h=>⟨(Cb.below h) 4 _ rfl,(Cb.below h) 6 _ rfl,(VT.below h).c0,(VT.below h).c1,(VT.below h).c2⟩
  refine wp_region_noPanic (bC HBX (by kernel_rfl) ?_)
  have hc0:Below w3.heap.size w3 w3.drew:=aK _
  generalize w3.drew = z0 at *
  refine wpAnyG.tA 0 (v:=.pointer (some ⟨w.heap.size + 1,4,none⟩)) (by decide) 8 (by kernel_rfl) (by rfl) ?y0 (HBX _ hc0) ?_
  case y0 =>
   rintro w' ⟨q0,q1,q2,q3,q4⟩
   simp only [lgA,lgZ]
   go_simp
  simp only [lgA,lgZ,Act.put,lsA,lsZ,lsS]
  refine wpAnyG.tA 1 (v:=.slice C.xa C.xn C.xc) (by decide) 8 (by kernel_rfl) (by rfl) ?y1 (HBX _ hc0) ?_
  case y1 =>
   rintro w' ⟨q0,q1,q2,q3,q4⟩
   simp only [lgA,lgZ,lgS]
   go_simp
  simp only [lgA,lgZ,lgS,Act.put,lsA,lsZ,lsS]
  refine wpAnyG.tA 2 (v:=.agg #[.bool fQ,.slice cQ nQ kQ,.slice dQ mQ lQ]) (by decide) 8 (by kernel_rfl) (by rfl) ?y2 (HBX _ hc0) ?_
  case y2 =>
   rintro w' ⟨q0,q1,q2,q3,q4⟩
   simp only [lgA,lgZ,lgS]
   go_simp
  simp only [lgA,lgZ,lgS,Act.put,lsA,lsZ,lsS]
  refine wpAnyG.tA 5 (v:=.pointer (some ⟨w.heap.size + 1,6,none⟩)) (by decide) 8 (by kernel_rfl) (by rfl) ?y5 (HBX _ hc0) ?_
  case y5 =>
   rintro w' ⟨q0,q1,q2,q3,q4⟩
   simp only [lgA,lgZ,lgS]
   go_simp
  simp only [lgA,lgZ,lgS,Act.put,lsA,lsZ,lsS]
  refine wpAnyG.tA 6 (v:=.slice C.za C.zn C.zc) (by decide) 8 (by kernel_rfl) (by rfl) ?y6 (HBX _ hc0) ?_
  case y6 =>
   rintro w' ⟨q0,q1,q2,q3,q4⟩
   simp only [lgA,lgZ,lgS]
   go_simp
  simp only [lgA,lgZ,lgS,Act.put,lsA,lsZ,lsS]
  refine wpAnyG.one 3 (by kernel_rfl) (by decide) (by rfl) (fun K hK=>?_)
  simp only [lgA,lgZ,lgS]
  go_simp
  refine (ofD 1 z0 (by decide) (by decide)).mono ?_
  rintro e z1 ⟨f1,d1,n1,k1,d2,n2,k2,rfl,G1,hk1⟩
  have hc1:Below w3.heap.size w3 z1:=aB hc0 hk1
  dsimp only
  refine hK _ _ (HBX _ hc1) ?_
  clear hK K
  refine wpAnyG.one 4 (by kernel_rfl) (by decide) (by rfl) (fun K hK=>?_)
  simp only [lgA,lgZ,lgS]
  go_simp
  refine (addD z1 (HTR.out.below hc1) G1.tr (by omega) (by omega) (by omega)).mono ?_
  rintro e z2 ⟨f2,e1,n3,k3,e2,n4,k4,rfl,G2,hk2⟩
  have hc2:Below w3.heap.size w3 z2:=aB hc1 hk2
  replace G2:=G2.fit HS1.out
  dsimp only
  refine hK _ _ (HBX _ hc2) ?_
  clear hK K
  refine wpAnyG.one 7 (by kernel_rfl) (by decide) (by rfl) (fun K hK=>?_)
  simp only [lgA,lgZ,lgS]
  go_simp
  refine (HAL z2 f2 e1 n3 k3 e2 n4 k4 (aB hbS hc2) G2.tr).mono ?_
  rintro e z3 ⟨yb,yc,rfl,LY,hk3⟩
  have hc3:Below w3.heap.size w3 z3:=aB hc2 hk3
 rotate_left
 all_goals
  dsimp only
  refine hK _ _ (HBX _ hc3) ?_
  clear hK K
  refine wpAnyG.one 8 (by kernel_rfl) (by decide) (by rfl) (fun K hK=>?_)
  simp only [lgA,lgZ,lgS]
  go_simp
  refine hK _ _ (HBX _ hc3) ?_
  clear hK K
  refine wpAnyG.done (by kernel_rfl) (NoPanic.normal ?_)
  have hb4:=aB hbS hc3
  replace Pb:=Pb.below hc3
  replace Mb:=Mb.below hc3
  clear HBX hc0 hc1 hc2 hc3 hk1 hk2 hk3 G1 G2 VT Cb HAL hbS HTR
  have p0:=Pb 0 _ rfl;have p1:=Pb 1 _ rfl;have p2:=Pb 2 _ rfl;have p3:=Pb 3 _ rfl;have p4:=Pb 4 _ rfl;have p5:=Pb 5 _ rfl;have p6:=Pb 6 _ rfl
  go_wp2_with fail
  clear p0 p1 p2 p3 p4 p5 p6
  refine (aN8 P (U:=(C.K + (P.K + C.K + Km + 3) + 1)) z3 (hP.below hb4) LY (fun j hj=>⟨by show 1≤tot C.ZX C.xn + (P.K + C.K + Km + 3) + tot C.ZZ C.xn + 1;omega,by show tot C.ZX C.xn + (P.K + C.K + Km + 3) + tot C.ZZ C.xn + 1≤_;omega⟩) ⟨by omega,by omega⟩ HD.out.1 HD.out.2.1 HD.out.2.2 (by omega) (by omega)).mono ?_
  rintro e w5 ⟨b1,rfl,hbb,h8⟩
  obtain rfl:b1 = true:=hbb.2 HL1.out
  have hb5:=aB hb4 h8
  replace Pb:=Pb.below h8
  replace Mb:=Mb.below h8
  have LY5:=LY.below h8
  clear h8 hbb hb4 LY
  go_wp2_with fail
  have HBX:∀ w',Below w5.heap.size w5 w'→(w'.cell? ⟨w.heap.size,0,none⟩ = some (.bool P.mx)∧w'.cell? ⟨w.heap.size,1,none⟩ = some (.string P.nm)∧w'.cell? ⟨w.heap.size,2,none⟩ = some (.bool P.p)∧w'.cell? ⟨w.heap.size,3,none⟩ = some (.slice P.a P.na P.ca)∧w'.cell? ⟨w.heap.size,4,none⟩ = some (.slice P.d P.nd P.cd)∧w'.cell? ⟨w.heap.size,5,none⟩ = some (.slice P.va P.vn P.vc)∧w'.cell? ⟨w.heap.size,6,none⟩ = some (.slice P.ra P.rn P.rc)∧w'.cell? ⟨w.heap.size + 2,0,none⟩ = some (.bool p)∧w'.cell? ⟨w.heap.size + 2,1,none⟩ = some (.slice a na ca)∧w'.cell? ⟨w.heap.size + 2,2,none⟩ = some (.slice d nd cd)):=fun w' h=>⟨(Pb.below h) 0 _ rfl,(Pb.below h) 1 _ rfl,(Pb.below h) 2 _ rfl,(Pb.below h) 3 _ rfl,(Pb.below h) 4 _ rfl,(Pb.below h) 5 _ rfl,(Pb.below h) 6 _ rfl,(Mb.below h) 0 _ rfl,(Mb.below h) 1 _ rfl,(Mb.below h) 2 _ rfl⟩
  refine wp_region_noPanic (bC HBX (by kernel_rfl) ?_)
  have hc0:Below w5.heap.size w5 w5.drew:=aK _
  generalize w5.drew = z0 at *
  refine wpAnyG.tA 0 (v:=.agg #[.bool P.mx,.string P.nm,.bool P.p,.slice P.a P.na P.ca,.slice P.d P.nd P.cd,.slice P.va P.vn P.vc,.slice P.ra P.rn P.rc]) (by decide) 6 (by kernel_rfl) (by rfl) ?y0 (HBX _ hc0) ?_
  case y0 =>
   rintro w' ⟨q0,q1,q2,q3,q4,q5,q6,q7,q8,q9⟩
   simp only [lgA,lgZ]
   go_simp
  simp only [lgA,lgZ,Act.put,lsA,lsZ,lsS]
  refine wpAnyG.tA 1 (v:=.agg #[.bool P.mx,.string P.nm,.bool P.p,.slice P.a P.na P.ca,.slice P.d P.nd P.cd,.slice P.va P.vn P.vc,.slice P.ra P.rn P.rc]) (by decide) 6 (by kernel_rfl) (by rfl) ?y1 (HBX _ hc0) ?_
  case y1 =>
   rintro w' ⟨q0,q1,q2,q3,q4,q5,q6,q7,q8,q9⟩
   simp only [lgA,lgZ,lgS]
   go_simp
  simp only [lgA,lgZ,lgS,Act.put,lsA,lsZ,lsS]
  refine wpAnyG.tA 2 (v:=.slice yb C.xn yc) (by decide) 6 (by kernel_rfl) (by rfl) ?y2 (HBX _ hc0) ?_
  case y2 =>
   rintro w' ⟨q0,q1,q2,q3,q4,q5,q6,q7,q8,q9⟩
   simp only [lgA,lgZ,lgS]
   go_simp
  simp only [lgA,lgZ,lgS,Act.put,lsA,lsZ,lsS]
  refine wpAnyG.tA 4 (v:=.agg #[.bool p,.slice a na ca,.slice d nd cd]) (by decide) 6 (by kernel_rfl) (by rfl) ?y4 (HBX _ hc0) ?_
  case y4 =>
   rintro w' ⟨q0,q1,q2,q3,q4,q5,q6,q7,q8,q9⟩
   simp only [lgA,lgZ,lgS]
   go_simp
  simp only [lgA,lgZ,lgS,Act.put,lsA,lsZ,lsS]
  refine wpAnyG.one 3 (by kernel_rfl) (by decide) (by rfl) (fun K hK=>?_)
  simp only [lgA,lgZ,lgS]
  go_simp
  refine (aQ2 P (U:=(C.K + (P.K + C.K + Km + 3) + 1)) z0 (hP.below (aB hb5 hc0)) (LY5.below hc0) (fun j hj=>⟨by show 1≤tot C.ZX C.xn + (P.K + C.K + Km + 3) + tot C.ZZ C.xn + 1;omega,by show tot C.ZX C.xn + (P.K + C.K + Km + 3) + tot C.ZZ C.xn + 1≤_;omega⟩) ⟨by omega,by omega⟩ HD.out.1 HD.out.2.1 HD.out.2.2 (by omega) (by omega) HXN.out).mono ?_
  rintro e z1 ⟨f3,d3,n5,k5,d4,n6,k6,rfl,G3,hk1⟩
  have hc1:Below w5.heap.size w5 z1:=aB hc0 hk1
  dsimp only
  refine hK _ _ (HBX _ hc1) ?_
  clear hK K
  refine wpAnyG.one 5 (by kernel_rfl) (by decide) (by rfl) (fun K hK=>?_)
  simp only [lgA,lgZ,lgS]
  go_simp
  refine (aC8 P true z1 G3.tr (hm.below (aB hb5 hc1)) (by omega) (by omega) hKm ⟨fun _=>HB1.out,fun _=>rfl⟩).mono ?_
  rintro e z2 ⟨rfl,hk2⟩
  have hc2:Below w5.heap.size w5 z2:=aB hc1 hk2
  dsimp only
  refine hK _ _ (HBX _ hc2) ?_
  clear hK K
  refine wpAnyG.one 6 (by kernel_rfl) (by decide) (by rfl) (fun K hK=>?_)
  simp only [lgA,lgZ,lgS]
  go_simp
  refine hK _ _ (HBX _ hc2) ?_
  clear hK K
  refine wpAnyG.done (by kernel_rfl) (NoPanic.normal ?_)
  have hw:=aB hb5 hc2
  clear HBX hc0 hc1 hc2 hk1 hk2 G3 Pb Mb LY5 hb5
  go_wp2
  go_ret
  exact ⟨rfl,hw⟩
end Go.Proofs.YtnokmjmefipplaaGreatDoor
