import Derived.Test.YtnkpbjmfdfjeiaaGreatDoorRatAll
import Derived.Test.YtnkpbjmfdfjeiaaGreatDoorLentAll
namespace Go.Proofs.YtnkpbjmfdfjeiaaGreatDoor
open Go.RowKit
theorem den_one {p q:Bool} {m k:Int} {r:Rat} (hm:0≤m) (hk:0 < k) (h:Rat.divInt (ws p m) (ws q k) = r):m % k = 0↔r.den = 1:=by
 have hd:=low_den p q hm hk
 rw [h] at hd
 obtain ⟨M,rfl⟩:=Int.eq_ofNat_of_zero_le hm
 obtain ⟨K,rfl⟩:=Int.eq_ofNat_of_zero_le (Int.le_of_lt hk)
 simp only [Int.toNat_natCast] at hd
 have hK:0 < K:=by omega
 have hg:0 < Nat.gcd M K:=Nat.gcd_pos_of_pos_right _ hK
 have hdn:r.den = K / Nat.gcd M K:=by
  rw [← Int.natCast_ediv] at hd
  exact Int.ofNat.inj hd
 have hmod:((M:Int) % (K:Int) = 0)↔M % K = 0:=by
  rw [← Int.natCast_emod]
  exact Int.natCast_eq_zero
 rw [hmod,hdn]
 constructor
 ·intro h0
  have:Nat.gcd M K = K:=Nat.gcd_eq_right (Nat.dvd_of_mod_eq_zero h0)
  rw [this,Nat.div_self hK]
 ·intro h1
  have h2:K = Nat.gcd M K:=by
   have h3:=Nat.div_mul_cancel (Nat.gcd_dvd_right M K)
   rw [h1,Nat.one_mul] at h3
   exact h3.symm
  exact Nat.mod_eq_zero_of_dvd (h2 ▸ Nat.gcd_dvd_left M K)
set_option maxHeartbeats 4000000 in
theorem isWholeQ {p:Bool} {a:Option Addr} {na ca:Nat} {d:Option Addr} {nd cd:Nat} {r:Rat} {S:Nat} (w:World) (hr:TR w p a na ca d nd cd r S) (hS:S≤9000000) (hS1:1≤S) :
  Calls Tryz.prog 76 #[.agg #[.bool p,.slice a na ca,.slice d nd cd]] w fun e w'=>e = .returned (.bool (decide (r.den = 1)))∧Below w.heap.size w w':=by
 have P0:=var3_new w (.bool p) (.slice a na ca) (.slice d nd cd) 27
 have hb0:=bel_d0 w (.cells #[.bool p,.slice a na ca,.slice d nd cd] 27)
 have hsz:(w.alloc (.cells #[.bool p,.slice a na ca,.slice d nd cd] 27)).heap.size = w.heap.size + 1:=by simp
 replace hr:=hr.below hb0
 go_enter Tryz.func76,Tryz.ntmps76
 obtain ⟨p0c0,p0c1,p0c2,p0c3,p0c4,p0c5⟩:=id P0
 go_wp2_with fail
 generalize w.alloc (.cells #[.bool p,.slice a na ca,.slice d nd cd] 27) = W0 at *
 refine (partsR _ hr (by omega) hS1).mono ?_
 rintro e w1 ⟨f1,c1,n1,k1,f2,c2,n2,k2,x1,y1,rfl,T1,T2,hy1,hq1,hx⟩
 clear p0c0 p0c1 p0c2 p0c3 p0c4 p0c5
 replace hr:=hr.below hx
 replace P0:=P0.below hx
 replace hb0:=bel_tr hb0 hx
 have hsw1:W0.heap.size≤w1.heap.size:=Below.size hx
 clear hx
 obtain ⟨p0c0,p0c1,p0c2,p0c3,p0c4,p0c5⟩:=id P0
 clear p0c0 p0c1 p0c2 p0c3 p0c4 p0c5 P0
 clear hr
 obtain ⟨m1,N1,e1⟩:=id T1
 obtain ⟨m2,N2,e2⟩:=id T2
 have hm1:=N1.nn
 have hm2:0 < m2:=by
  have h:=N2.nn
  rcases (by omega:m2 = 0∨0 < m2) with h1 | h1
  ·subst h1;rw [ws_zero] at e2;omega
  ·exact h1
 have HDN:Hid (m1 % m2 = 0↔r.den = 1):=den_one (p:=f1) (q:=f2) hm1 hm2 (by rw [e1,e2];exact hq1)
 clear T1 T2 e1 e2
 go_wp2_with fail
 refine (quoI f1 f2 _ N1 N2 (by omega) (by omega) hm2).mono ?_
 rintro e w2 ⟨c3,n3,k3,c4,n4,k4,rfl,K1,K2,-,hx⟩
 replace hb0:=bel_tr hb0 hx
 have hsw2:w1.heap.size≤w2.heap.size:=Below.size hx
 clear hx
 clear K1 N1 N2
 obtain ⟨B1,hB1⟩:∃ b,decide (ws (f1 != f2) (m1 / m2) < 0) = b:=⟨_,rfl⟩
 obtain ⟨B2,hB2⟩:∃ b,decide (ws f1 (m1 % m2) < 0) = b:=⟨_,rfl⟩
 have z2:=ws_dec (b:=f1) K2.pos.1
 rw [hB2] at z2
 have HZ:Hid (ws B2 (m1 % m2) = 0↔r.den = 1):=by
  rw [z2]
  refine ⟨fun h=>HDN.out.1 ?_,fun h=>?_⟩
  ·unfold ws at h;cases f1 <;> simp at h <;> omega
  ·rw [HDN.out.2 h,ws_zero]
 rw [hB1,hB2]
 clear hB1 hB2 z2 HDN
 obtain ⟨V1,V2,hx,hsxw3⟩:=box2 w2 (.bool B1) (.slice c3 n3 k3) (.bool B2) (.slice c4 n4 k4) 25
 replace K2:=K2.below hx
 replace hb0:=bel_tr hb0 hx
 have hsw3:w2.heap.size≤((w2.alloc (.cells #[.bool B1,.slice c3 n3 k3] 25)).alloc (.cells #[.bool B2,.slice c4 n4 k4] 25)).heap.size:=Below.size hx
 clear hx
 obtain ⟨v1c0,v1c1,v1c2,v1c3⟩:=id V1
 obtain ⟨v2c0,v2c1,v2c2,v2c3⟩:=id V2
 go_wp2_with fail
 generalize (w2.alloc (.cells #[.bool B1,.slice c3 n3 k3] 25)).alloc (.cells #[.bool B2,.slice c4 n4 k4] 25) = w3 at *
 refine (signI B2 _ K2.num (by omega)).mono ?_
 rintro e w4 ⟨rfl,hx⟩
 clear v1c0 v1c1 v1c2 v1c3 v2c0 v2c1 v2c2 v2c3
 replace K2:=K2.below hx
 replace V1:=V1.below hx
 replace V2:=V2.below hx
 replace hb0:=bel_tr hb0 hx
 have hsw4:w3.heap.size≤w4.heap.size:=Below.size hx
 clear hx
 obtain ⟨v1c0,v1c1,v1c2,v1c3⟩:=id V1
 obtain ⟨v2c0,v2c1,v2c2,v2c3⟩:=id V2
 clear K2
 clear v1c0 v1c1 v1c2 v1c3 v2c0 v2c1 v2c2 v2c3
 clear V1 V2
 have HF:Hid (((ws B2 (m1 % m2)).sign == 0) = decide (r.den = 1)):=by
  show _ = _
  by_cases h:r.den = 1
  ·rw [HZ.out.2 h,decide_eq_true h];rfl
  ·rw [decide_eq_false h]
   have h2:ws B2 (m1 % m2) ≠ 0:=fun e=>h (HZ.out.1 e)
   have h3:(ws B2 (m1 % m2)).sign ≠ 0:=fun e=>h2 (Int.sign_eq_zero_iff_zero.1 e)
   simpa using h3
 go_wp2
 go_ret
 exact ⟨by rw [← HF.out];rfl,hb0⟩
def txtQ (r:Rat):ByteArray:=if r.den = 1 then txtI r.num else txtI r.num ++ ⟨#[47]⟩ ++ txt r.den
theorem txtI_sz {w:World} {B:Nat} {v:Value} {x:Int} {S:Nat} (h:GI w B v x S):(txtI x).size≤20 * S + 2:=by
 obtain ⟨a,n,c,h1,h2⟩:=h
 have h3:=txt_size h2.num
 rw [Int.toNat_natCast] at h3
 unfold txtI
 split
 ·rw [ByteArray.size_append,strOfNums_size];simp only [List.length_cons,List.length_nil];omega
 ·omega
theorem textG {b:Bool} {a:Option Addr} {na ca B:Nat} {x:Int} {S:Nat} (w:World) (h:GI w B (.agg #[.bool b,.slice a na ca]) x S) (hS:S≤10000000) :
  Calls Tryz.prog 75 #[.agg #[.bool b,.slice a na ca]] w fun e w'=>e = .returned (.string (txtI x))∧Below w.heap.size w w':=textK w h (by omega) rfl
set_option maxHeartbeats 4000000 in
theorem textQ1 {p:Bool} {a:Option Addr} {na ca:Nat} {d:Option Addr} {nd cd:Nat} {r:Rat} {S:Nat} (w:World) (hr:TR w p a na ca d nd cd r S) (hS:S≤7000000) (hS1:1≤S) (hT:TB w) (hden:r.den = 1) :
  Calls Tryz.prog 61 #[.agg #[.bool p,.slice a na ca,.slice d nd cd]] w fun e w'=>e = .returned (.string (txtQ r))∧Below w.heap.size w w':=by
 have P0:=var3_new w (.bool p) (.slice a na ca) (.slice d nd cd) 27
 have hb0:=bel_d0 w (.cells #[.bool p,.slice a na ca,.slice d nd cd] 27)
 have hsz:(w.alloc (.cells #[.bool p,.slice a na ca,.slice d nd cd] 27)).heap.size = w.heap.size + 1:=by simp
 replace hr:=hr.below hb0
 replace hT:=hT.below hb0
 go_enter Tryz.func61,Tryz.ntmps61
 obtain ⟨p0,p1,p2,p3,p4,p5⟩:=id P0
 go_wp2_with fail
 generalize w.alloc (.cells #[.bool p,.slice a na ca,.slice d nd cd] 27) = W0 at *
 refine (normR _ hr (by omega) hS1 hT).mono ?_
 rintro e w1 ⟨f,c,n,k,c',n',k',rfl,GG,hx⟩
 replace P0:=P0.below hx
 replace hb0:=bel_tr hb0 hx
 have hs1:=Below.size hx
 clear hx p0 p1 p2 p3 p4 p5 hr hT
 obtain ⟨p0,p1,p2,p3,p4,p5⟩:=id P0
 obtain ⟨V,O⟩:=P0.set (.bool f) (.slice c n k) (.slice c' n' k')
 replace GG:=GG.off O (by omega)
 replace hb0:=hb0.trans (O.below (Nat.le_refl _))
 have hs2:=O.size
 clear P0 O
 obtain ⟨v0,v1,v2,v3,v4,v5⟩:=id V
 have z1:=txtI_sz GG.1
 have z2:=txt_size GG.2.num
 rw [Int.toNat_natCast] at z2
 go_wp2_with fail
 generalize ((w1.setCell ⟨w.heap.size,0,none⟩ (.bool f)).setCell ⟨w.heap.size,1,none⟩ (.slice c n k)).setCell ⟨w.heap.size,2,none⟩ (.slice c' n' k') = w2 at *
 refine (textG _ GG.1 (by omega)).mono ?_
 rintro e w3 ⟨rfl,hx⟩
 replace V:=V.below hx
 replace GG:=GG.below hx
 replace hb0:=bel_tr hb0 hx
 clear hx p0 p1 p2 p3 p4 p5 v0 v1 v2 v3 v4 v5
 obtain ⟨v0,v1,v2,v3,v4,v5⟩:=id V
 go_wp2_with fail
 refine (isWholeQ _ GG.tr (by omega) hS1).mono ?_
 rintro e w4 ⟨rfl,hx⟩
 replace V:=V.below hx
 replace GG:=GG.below hx
 replace hb0:=bel_tr hb0 hx
 clear hx v0 v1 v2 v3 v4 v5
 obtain ⟨v0,v1,v2,v3,v4,v5⟩:=id V
 have HQ:Hid (txtQ r = txtI r.num):=by show _ = _;unfold txtQ;rw [if_pos hden]
 rw [decide_eq_true hden]
 clear GG V hden
 go_wp2
 go_ret
 exact ⟨by rw [HQ.out];rfl,hb0⟩
set_option maxHeartbeats 4000000 in
theorem textQ2 {p:Bool} {a:Option Addr} {na ca:Nat} {d:Option Addr} {nd cd:Nat} {r:Rat} {S:Nat} (w:World) (hr:TR w p a na ca d nd cd r S) (hS:S≤7000000) (hS1:1≤S) (hT:TB w) (hden:¬ r.den = 1) :
  Calls Tryz.prog 61 #[.agg #[.bool p,.slice a na ca,.slice d nd cd]] w fun e w'=>e = .returned (.string (txtQ r))∧Below w.heap.size w w':=by
 have P0:=var3_new w (.bool p) (.slice a na ca) (.slice d nd cd) 27
 have hb0:=bel_d0 w (.cells #[.bool p,.slice a na ca,.slice d nd cd] 27)
 have hsz:(w.alloc (.cells #[.bool p,.slice a na ca,.slice d nd cd] 27)).heap.size = w.heap.size + 1:=by simp
 replace hr:=hr.below hb0
 replace hT:=hT.below hb0
 go_enter Tryz.func61,Tryz.ntmps61
 obtain ⟨p0,p1,p2,p3,p4,p5⟩:=id P0
 go_wp2_with fail
 generalize w.alloc (.cells #[.bool p,.slice a na ca,.slice d nd cd] 27) = W0 at *
 refine (normR _ hr (by omega) hS1 hT).mono ?_
 rintro e w1 ⟨f,c,n,k,c',n',k',rfl,GG,hx⟩
 replace P0:=P0.below hx
 replace hb0:=bel_tr hb0 hx
 have hs1:=Below.size hx
 clear hx p0 p1 p2 p3 p4 p5 hr hT
 obtain ⟨p0,p1,p2,p3,p4,p5⟩:=id P0
 obtain ⟨V,O⟩:=P0.set (.bool f) (.slice c n k) (.slice c' n' k')
 replace GG:=GG.off O (by omega)
 replace hb0:=hb0.trans (O.below (Nat.le_refl _))
 have hs2:=O.size
 clear P0 O
 obtain ⟨v0,v1,v2,v3,v4,v5⟩:=id V
 have z1:=txtI_sz GG.1
 have z2:=txt_size GG.2.num
 rw [Int.toNat_natCast] at z2
 go_wp2_with fail
 generalize ((w1.setCell ⟨w.heap.size,0,none⟩ (.bool f)).setCell ⟨w.heap.size,1,none⟩ (.slice c n k)).setCell ⟨w.heap.size,2,none⟩ (.slice c' n' k') = w2 at *
 refine (textG _ GG.1 (by omega)).mono ?_
 rintro e w3 ⟨rfl,hx⟩
 replace V:=V.below hx
 replace GG:=GG.below hx
 replace hb0:=bel_tr hb0 hx
 clear hx p0 p1 p2 p3 p4 p5 v0 v1 v2 v3 v4 v5
 obtain ⟨v0,v1,v2,v3,v4,v5⟩:=id V
 go_wp2_with fail
 refine (isWholeQ _ GG.tr (by omega) hS1).mono ?_
 rintro e w4 ⟨rfl,hx⟩
 replace V:=V.below hx
 replace GG:=GG.below hx
 replace hb0:=bel_tr hb0 hx
 clear hx v0 v1 v2 v3 v4 v5
 obtain ⟨v0,v1,v2,v3,v4,v5⟩:=id V
 have HQ:Hid (txtQ r = txtI r.num ++ ⟨#[47]⟩ ++ txt r.den):=by show _ = _;unfold txtQ;rw [if_neg hden]
 rw [decide_eq_false hden]
 clear hden
 generalize txtI r.num = T1 at *
 go_wp2_with fail
 refine (text_any _ GG.2.num (by omega)).mono ?_
 rw [Int.toNat_natCast]
 rintro e w5 ⟨rfl,hx⟩
 replace hb0:=bel_tr hb0 hx
 clear hx GG V v0 v1 v2 v3 v4 v5
 generalize txt r.den = T2 at *
 go_wp2
 go_ret
 exact ⟨by rw [HQ.out];rfl,hb0⟩
theorem textQ {p:Bool} {a:Option Addr} {na ca:Nat} {d:Option Addr} {nd cd:Nat} {r:Rat} {S:Nat} (w:World) (hr:TR w p a na ca d nd cd r S) (hS:S≤7000000) (hS1:1≤S) (hT:TB w) :
  Calls Tryz.prog 61 #[.agg #[.bool p,.slice a na ca,.slice d nd cd]] w fun e w'=>e = .returned (.string (txtQ r))∧Below w.heap.size w w':=by
 by_cases h:r.den = 1
 ·exact textQ1 w hr hS hS1 hT h
 ·exact textQ2 w hr hS hS1 hT h
end Go.Proofs.YtnkpbjmfdfjeiaaGreatDoor
