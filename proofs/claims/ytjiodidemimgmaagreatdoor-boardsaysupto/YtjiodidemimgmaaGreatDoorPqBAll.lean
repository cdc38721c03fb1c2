import Derived.Test.YtjiodidemimgmaaGreatDoorR3SuAll
import Derived.Test.YtjiodidemimgmaaGreatDoorRatAll
namespace Go.Proofs.YtjiodidemimgmaaGreatDoor
open Go.RowKit
end Go.Proofs.YtjiodidemimgmaaGreatDoor
namespace Go.Proofs.YtjiodidemimgmaaGreatDoor
end Go.Proofs.YtjiodidemimgmaaGreatDoor
namespace Go.Proofs.YtjiodidemimgmaaGreatDoor
open Go.RowKit
def cs (r s:Rat):Int:=(r.num * s.den - s.num * r.den).sign
theorem cs_tri (r s:Rat):cs r s = -1∨cs r s = 0∨cs r s = 1:=by
 have:=Int.sign_trichotomy (r.num * s.den - s.num * r.den)
 unfold cs;omega
theorem sign_neg_iff {a:Int}:a.sign < 0↔a < 0:=by
 constructor
 ·intro h
  exact Int.neg_of_sign_eq_neg_one (by have:=Int.sign_trichotomy a;omega)
 ·intro h
  rw [Int.sign_eq_neg_one_of_neg h];decide
theorem sign_pos_iff {a:Int}:0 < a.sign↔0 < a:=by
 constructor
 ·intro h
  exact Int.pos_of_sign_eq_one (by have:=Int.sign_trichotomy a;omega)
 ·intro h
  rw [Int.sign_eq_one_of_pos h];decide
theorem cs_lt {r s:Rat}:cs r s < 0↔r < s:=by
 unfold cs;rw [sign_neg_iff,Rat.lt_iff];omega
theorem cs_gt {r s:Rat}:0 < cs r s↔s < r:=by
 unfold cs;rw [sign_pos_iff,Rat.lt_iff];omega
theorem tri_ext {u v:Int} (hu:u = -1∨u = 0∨u = 1) (hv:v = -1∨v = 0∨v = 1) (h1:u < 0↔v < 0) (h2:0 < u↔0 < v):u = v:=by omega
theorem sg_tri (a:Int):a.sign = -1∨a.sign = 0∨a.sign = 1:=by
 have:=Int.sign_trichotomy a
 omega
theorem num_neg_iff {r:Rat}:r.num < 0↔r < 0:=by
 rw [← Rat.not_le,← Rat.num_nonneg];omega
theorem num_pos_iff {r:Rat}:0 < r.num↔0 < r:=by
 have h:=num_neg_iff (r:=-r)
 rw [Rat.neg_num] at h
 have e:-r < 0↔0 < r:=by
  have:=Rat.neg_lt_neg_iff (a:=r) (b:=0)
  rw [Rat.neg_zero] at this
  exact this
 rw [e] at h
 rw [← h];omega
theorem cs_sub (r s:Rat):(r - s).num.sign = cs r s:=by
 refine tri_ext (sg_tri _) (cs_tri r s) ?_ ?_
 ·rw [sign_neg_iff,num_neg_iff,cs_lt,Rat.lt_iff_sub_pos r s]
  have:=Rat.neg_lt_neg_iff (a:=s - r) (b:=0)
  rw [Rat.neg_zero,Rat.neg_sub] at this
  exact this
 ·rw [sign_pos_iff,num_pos_iff,cs_gt,Rat.lt_iff_sub_pos s r]
set_option maxHeartbeats 4000000 in
theorem cmpW {p q:Bool} {a b:Option Addr} {na nb ca cb:Nat} {d e0:Option Addr} {nd ne cd ce:Nat} {r s:Rat} {S R:Nat} (w:World) (hr:TR w p a na ca d nd cd r S) (hs:TR w q b nb cb e0 ne ce s R) (hSR:S + R≤9000000) (hS1:1≤S) (hR1:1≤R) :
  Calls Tryz.prog 51 #[.agg #[.bool p,.slice a na ca,.slice d nd cd],.agg #[.bool q,.slice b nb cb,.slice e0 ne ce]] w fun e w'=>e = .returned (.int .i64 (r.num * s.den - s.num * r.den).sign)∧Below w.heap.size w w':=by
 obtain ⟨P0,P1,hb0,hsz⟩:=box_rr w (.bool p) (.slice a na ca) (.slice d nd cd) (.bool q) (.slice b nb cb) (.slice e0 ne ce) 29
 replace hr:=hr.below hb0
 replace hs:=hs.below hb0
 go_enter Tryz.func51,Tryz.ntmps51
 obtain ⟨p0c0,p0c1,p0c2,p0c3,p0c4,p0c5⟩:=id P0
 obtain ⟨p1c0,p1c1,p1c2,p1c3,p1c4,p1c5⟩:=id P1
 go_wp2_with fail
 generalize (w.alloc (.cells #[.bool p,.slice a na ca,.slice d nd cd] 29)).alloc (.cells #[.bool q,.slice b nb cb,.slice e0 ne ce] 29) = W0 at *
 refine (partsR _ hr (by omega) hS1).mono ?_
 rintro e w1 ⟨f1,c1,n1,k1,f2,c2,n2,k2,x1,y1,rfl,T1,T2,hy1,hq1,hx⟩
 clear p0c0 p0c1 p0c2 p0c3 p0c4 p0c5 p1c0 p1c1 p1c2 p1c3 p1c4 p1c5
 replace hr:=hr.below hx
 replace hs:=hs.below hx
 replace P0:=P0.below hx
 replace P1:=P1.below hx
 replace hb0:=bel_tr hb0 hx
 have hsw1:W0.heap.size≤w1.heap.size:=Below.size hx
 clear hx
 obtain ⟨p0c0,p0c1,p0c2,p0c3,p0c4,p0c5⟩:=id P0
 obtain ⟨p1c0,p1c1,p1c2,p1c3,p1c4,p1c5⟩:=id P1
 clear p0c0 p0c1 p0c2 p0c3 p0c4 p0c5 P0
 clear hr
 obtain ⟨V1,V2,hx,hsxw2⟩:=box2 w1 (.bool f1) (.slice c1 n1 k1) (.bool f2) (.slice c2 n2 k2) 27
 clear p1c0 p1c1 p1c2 p1c3 p1c4 p1c5
 replace hs:=hs.below hx
 replace T1:=T1.below hx
 replace T2:=T2.below hx
 replace P1:=P1.below hx
 replace hb0:=bel_tr hb0 hx
 have hsw2:w1.heap.size≤((w1.alloc (.cells #[.bool f1,.slice c1 n1 k1] 27)).alloc (.cells #[.bool f2,.slice c2 n2 k2] 27)).heap.size:=Below.size hx
 clear hx
 obtain ⟨p1c0,p1c1,p1c2,p1c3,p1c4,p1c5⟩:=id P1
 obtain ⟨v1c0,v1c1,v1c2,v1c3⟩:=id V1
 obtain ⟨v2c0,v2c1,v2c2,v2c3⟩:=id V2
 go_wp2_with fail
 generalize (w1.alloc (.cells #[.bool f1,.slice c1 n1 k1] 27)).alloc (.cells #[.bool f2,.slice c2 n2 k2] 27) = w2 at *
 refine (partsR _ hs (by omega) hR1).mono ?_
 rintro e w3 ⟨f3,c3,n3,k3,f4,c4,n4,k4,x2,y2,rfl,T3,T4,hy2,hq2,hx⟩
 clear p1c0 p1c1 p1c2 p1c3 p1c4 p1c5 v1c0 v1c1 v1c2 v1c3 v2c0 v2c1 v2c2 v2c3
 replace hs:=hs.below hx
 replace T1:=T1.below hx
 replace T2:=T2.below hx
 replace P1:=P1.below hx
 replace V1:=V1.below hx
 replace V2:=V2.below hx
 replace hb0:=bel_tr hb0 hx
 have hsw3:w2.heap.size≤w3.heap.size:=Below.size hx
 clear hx
 obtain ⟨p1c0,p1c1,p1c2,p1c3,p1c4,p1c5⟩:=id P1
 obtain ⟨v1c0,v1c1,v1c2,v1c3⟩:=id V1
 obtain ⟨v2c0,v2c1,v2c2,v2c3⟩:=id V2
 clear p1c0 p1c1 p1c2 p1c3 p1c4 p1c5 P1
 clear hs
 obtain ⟨V3,V4,hx,hsxw4⟩:=box2 w3 (.bool f3) (.slice c3 n3 k3) (.bool f4) (.slice c4 n4 k4) 27
 clear v1c0 v1c1 v1c2 v1c3 v2c0 v2c1 v2c2 v2c3
 replace T1:=T1.below hx
 replace T2:=T2.below hx
 replace T3:=T3.below hx
 replace T4:=T4.below hx
 replace V1:=V1.below hx
 replace V2:=V2.below hx
 replace hb0:=bel_tr hb0 hx
 have hsw4:w3.heap.size≤((w3.alloc (.cells #[.bool f3,.slice c3 n3 k3] 27)).alloc (.cells #[.bool f4,.slice c4 n4 k4] 27)).heap.size:=Below.size hx
 clear hx
 obtain ⟨v1c0,v1c1,v1c2,v1c3⟩:=id V1
 obtain ⟨v2c0,v2c1,v2c2,v2c3⟩:=id V2
 obtain ⟨v3c0,v3c1,v3c2,v3c3⟩:=id V3
 obtain ⟨v4c0,v4c1,v4c2,v4c3⟩:=id V4
 go_wp2_with fail
 generalize (w3.alloc (.cells #[.bool f3,.slice c3 n3 k3] 27)).alloc (.cells #[.bool f4,.slice c4 n4 k4] 27) = w4 at *
 have HV:Hid ((x1 * y2 - x2 * y1).sign = (r.num * s.den - s.num * r.den).sign):=by show _ = _;exact cmp_sign hy1 hy2 hq1 hq2
 go_region_held3 (fun w'=>w'.cell? ⟨w1.heap.size,0,none⟩ = some (.bool f1)∧w'.cell? ⟨w1.heap.size,1,none⟩ = some (.slice c1 n1 k1)∧w'.cell? ⟨w1.heap.size + 1,0,none⟩ = some (.bool f2)∧w'.cell? ⟨w1.heap.size + 1,1,none⟩ = some (.slice c2 n2 k2)∧w'.cell? ⟨w3.heap.size,0,none⟩ = some (.bool f3)∧w'.cell? ⟨w3.heap.size,1,none⟩ = some (.slice c3 n3 k3)∧w'.cell? ⟨w3.heap.size + 1,0,none⟩ = some (.bool f4)∧w'.cell? ⟨w3.heap.size + 1,1,none⟩ = some (.slice c4 n4 k4))
   (refine ⟨?_,?_,?_,?_,?_,?_,?_,?_⟩ <;> first | with_reducible exact kept_c hc3 (by assumption) | with_reducible exact kept_c hc2 (by assumption) | with_reducible exact kept_c hc1 (by assumption) | with_reducible exact kept_c (bel_d1 _) (by assumption) | with_reducible exact set3_far (kept_c hc3 (by assumption)) (by simp <;> omega))
   ((first
    | (go_at_call 83;go_fit (mulT _ (T1.below (bel_d1 _)) (T4.below (bel_d1 _)) (by omega) (by omega));rintro e v5_1 ⟨g1,u1,m1,l1,rfl,K1,hb1⟩;have hd1:Below w4.heap.size w4 v5_1:=(by first | exact hb1 | exact bel_tr (bel_d1 w4) hb1);have hc1:=hd1)
    | (go_at_call 83;go_fit (mulT _ (T3.below hc1) (T2.below hc1) (by omega) (by omega));rintro e v5_2 ⟨g2,u2,m2,l2,rfl,K2,hb2⟩;have hd2:Below v5_1.heap.size v5_1 v5_2:=(by first | exact hb2 | exact bel_tr (bel_d1 v5_1) hb2);have hc2:=bel_tr hc1 hd2)
    | (go_at_call 84;go_fit (cmpT _ (K1.below hd2).ti K2.ti (by omega) (by omega));rintro e v5_3 ⟨rfl,hb3⟩;have hd3:Below v5_2.heap.size v5_2 v5_3:=(by first | exact hb3 | exact bel_tr (bel_d1 v5_2) hb3);have hc3:=bel_tr hc2 hd3)))
 have hw:=bel_tr hb0 hc3
 rw [HV.out]
 clear hb1 hb2 hb3 hc1 hc2 hc3 hd1 hd2 hd3 K1 K2 T1 T2 T3 T4 hb0
 clear v1c0 v1c1 v1c2 v1c3 v2c0 v2c1 v2c2 v2c3 v3c0 v3c1 v3c2 v3c3 v4c0 v4c1 v4c2 v4c3
 clear V1 V2 V3 V4
 go_wp2
 go_ret
 exact ⟨rfl,hw⟩
theorem cmpB (t:Int) {p q:Bool} {a b:Option Addr} {na nb ca cb:Nat} {d e0:Option Addr} {nd ne cd ce:Nat} {r s:Rat} {S R:Nat} (w:World) (hr:TR w p a na ca d nd cd r S) (hs:TR w q b nb cb e0 ne ce s R) (hSR:S + R≤9000000) (hS1:1≤S) (hR1:1≤R) (ht:t = cs r s) :
  Calls Tryz.prog 51 #[.agg #[.bool p,.slice a na ca,.slice d nd cd],.agg #[.bool q,.slice b nb cb,.slice e0 ne ce]] w fun e w'=>e = .returned (.int .i64 t)∧Below w.heap.size w w':=by
 rw [ht];exact cmpW w hr hs hSR hS1 hR1
theorem rsignB (t:Int) {p:Bool} {a:Option Addr} {na ca:Nat} {d:Option Addr} {nd cd:Nat} {r:Rat} {S:Nat} (w:World) (hr:TR w p a na ca d nd cd r S) (hS:S≤9000000) (hS1:1≤S) (ht:t = r.num.sign) :
  Calls Tryz.prog 48 #[.agg #[.bool p,.slice a na ca,.slice d nd cd]] w fun e w'=>e = .returned (.int .i64 t)∧Below w.heap.size w w':=by
 refine (rsignR w hr hS hS1).mono ?_
 rintro e w' ⟨z,rfl,hz,hb⟩
 exact ⟨by rw [ht,hz],hb⟩
end Go.Proofs.YtjiodidemimgmaaGreatDoor
