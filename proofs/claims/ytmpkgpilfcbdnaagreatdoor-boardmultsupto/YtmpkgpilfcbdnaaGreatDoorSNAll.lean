import Derived.Test.YtmpkgpilfcbdnaaGreatDoorRatAll
import Derived.Test.YtmpkgpilfcbdnaaGreatDoorLentAll
namespace Go.Proofs.YtmpkgpilfcbdnaaGreatDoor
open Go.RowKit
theorem lm_ext' {xs ys:List Int} (hl:xs.length = ys.length) (h:∀ i,i < xs.length→lm xs i = lm ys i):xs = ys:=by
 apply List.ext_getElem hl
 intro i h1 h2
 have:=h i h1
 have e1:=lm_lt h1
 have e2:=lm_lt h2
 rw [List.getElem?_eq_getElem h1] at e1
 rw [List.getElem?_eq_getElem h2] at e2
 rw [Option.some.injEq] at e1 e2
 rw [e1,e2,this]
theorem first_apart' {xs ys:List Int} (hl:xs.length = ys.length) (hne:xs ≠ ys):∃ j,j < xs.length∧lm xs j ≠ lm ys j∧∀ i,i < j→lm xs i = lm ys i:=by
 have hex:∃ j,j < xs.length∧lm xs j ≠ lm ys j:=Classical.byContradiction fun hn=>hne (lm_ext' hl fun i hi=>Classical.byContradiction fun h=>hn ⟨i,hi,h⟩)
 obtain ⟨j,hj⟩:=hex
 induction j using Nat.strongRecOn with
 | ind j ih =>
  by_cases h:∃ i,i < j∧lm xs i ≠ lm ys i
  ·obtain ⟨i,h1,h2⟩:=h
   exact ih i h1 ⟨by omega,h2⟩
  ·exact ⟨j,hj.1,hj.2,fun i hi=>Classical.byContradiction fun hh=>h ⟨i,hi,hh⟩⟩
set_option maxHeartbeats 1000000 in
theorem same_no (a b:Option Addr) (na nb ca cb:Nat) (xs ys:List Int) (w:World) (hna:na = xs.length) (hnb:nb = ys.length) (hma:na≤1099511627776) (hmb:nb≤1099511627776) (hra:Reads w a xs) (hrb:Reads w b ys) (hxy:xs ≠ ys) :
  Calls Tryz.prog 84 #[.slice a na ca,.slice b nb cb] w fun e w'=>e = .returned (.bool false)∧∃ m,w' = w.drewN m:=by
 by_cases hlen:xs.length = ys.length
 ·obtain ⟨j,hj,hd,hlow⟩:=first_apart' hlen hxy
  have t1:((na:Int) != (nb:Int)) = false:=by simp;omega
  have HA:Hid (na = xs.length):=hna
  have HB:Hid (nb = ys.length):=hnb
  have HJ:Hid (j < na):=by show _ < _;omega
  have HL:Hid (∀ i,i < j→lm xs i = lm ys i):=hlow
  have HD:Hid (lm xs j ≠ lm ys j):=hd
  clear hlen hxy hna hnb hj hlow hd
  go_enter Tryz.func84,Tryz.ntmps84
  go_wp2
  go_loopw [5] (fun i wr=>∃ k m:Nat,k≤j∧i = .int .i64 k∧wr = w.drewN m) (fun i _=>na - (intOf i).toNat)
  case atStart=>exact ⟨0,0,Nat.zero_le _,rfl,rfl⟩
  case round =>
   obtain ⟨k,m,hk,rfl,rfl⟩:=hrel
   have hj:=HJ.out
   have e1:=HA.out
   have e2:=HB.out
   have e3:na = nb:=by
    have:(na:Int) = (nb:Int):=by simpa using t1
    omega
   obtain ⟨b1,o1,rfl,hc1⟩:=hra.at (by omega)
   obtain ⟨b2,o2,rfl,hc2⟩:=hrb.at (by omega)
   have h1:=hc1 k (by omega)
   have h2:=hc2 k (by omega)
   have hkl:(k:Int) < (na:Int):=by omega
   have hkl2:(k:Int) < (nb:Int):=by omega
   have hka:k < na:=by omega
   clear hc1 hc2 e1 e2 e3
   by_cases hkj:k = j
   ·have hb:(lm xs k != lm ys k) = true:=by rw [hkj];simpa using HD.out
    clear hk hkj hj
    go_wp2
    go_quiet (fail)
    go_wp2
    go_ret
    exact ⟨rfl,m + nq,by first | rfl | simp | rw [World.drewN_drewN]⟩
   ·have hb:(lm xs k != lm ys k) = false:=by rw [HL.out k (by omega)];simp
    go_wp2
    go_quiet (fail)
    go_wp2
    go_roundw
    case rel=>exact ⟨k + 1,m + nq,by omega,by go_num,rfl⟩
    case measure=>simp [intOf];omega
 ·have t1:((na:Int) != (nb:Int)) = true:=by simp;omega
  clear hlen hxy hna hnb hra hrb
  go_enter Tryz.func84,Tryz.ntmps84
  go_wp2
  go_ret
  exact ⟨rfl,0,rfl⟩
theorem sameNG {a b:Option Addr} {na nb ca cb B B':Nat} {x y:Int} {S R:Nat} (w:World) (ha:Got w B (.slice a na ca) x S) (hb:Got w B' (.slice b nb cb) y R) (hxy:x ≠ y) (hS:S≤1000000000000) (hR:R≤1000000000000) :
  Calls Tryz.prog 84 #[.slice a na ca,.slice b nb cb] w fun e w'=>e = .returned (.bool false)∧Below w.heap.size w w':=by
 obtain ⟨xs,a1,a2,a3,a4,a5,a6⟩:=ha.num
 obtain ⟨ys,b1,b2,b3,b4,b5,b6⟩:=hb.num
 refine (same_no a b na nb ca cb xs ys w a1 b1 (by omega) (by omega) a3 b3 (fun h=>hxy (by rw [← a5,← b5,h]))).mono ?_
 rintro e w' ⟨rfl,m,rfl⟩
 exact ⟨rfl,belN (Below.refl _ _) m⟩
theorem sameB {a b:Option Addr} {na nb ca cb B B':Nat} {x y:Int} {S R:Nat} (w:World) (ha:Got w B (.slice a na ca) x S) (hb:Got w B' (.slice b nb cb) y R) (hS:S≤1000000000000) (hR:R≤1000000000000) :
  Calls Tryz.prog 84 #[.slice a na ca,.slice b nb cb] w fun e w'=>∃ t,e = .returned (.bool t)∧t = decide (x = y)∧Below w.heap.size w w':=by
 by_cases h:x = y
 ·refine (sameG w ha hb h hS).mono ?_
  rintro e w' ⟨rfl,h1⟩
  exact ⟨true,rfl,by simp [h],h1⟩
 ·refine (sameNG w ha hb h hS hR).mono ?_
  rintro e w' ⟨rfl,h1⟩
  exact ⟨false,rfl,by simp [h],h1⟩
set_option maxHeartbeats 4000000 in
theorem refSameN {f g:Bool} {c c2:Option Addr} {n n2 k k2:Nat} {d d2:Option Addr} {nd nd2 kd kd2:Nat} {r s:Rat} {B B' S R:Nat} (w:World) (ha:GR w B f c n k d nd kd r S) (hb:GR w B' g c2 n2 k2 d2 nd2 kd2 s R) (hrs:r ≠ s) (hS:S≤100000000) (hR:R≤100000000) :
  Calls Tryz.prog 50 #[.agg #[.bool f,.slice c n k,.slice d nd kd],.agg #[.bool g,.slice c2 n2 k2,.slice d2 nd2 kd2]] w fun e w'=>e = .returned (.bool false)∧Below w.heap.size w w':=by
 obtain ⟨P0,P1,hb0,hsz⟩:=box_rr w (.bool f) (.slice c n k) (.slice d nd kd) (.bool g) (.slice c2 n2 k2) (.slice d2 nd2 kd2) 29
 obtain ⟨⟨_,_,_,e1,Ka⟩,La⟩:=ha
 obtain ⟨⟨_,_,_,e2,Kb⟩,Lb⟩:=hb
 simp only [Value.agg.injEq,Array.mk.injEq,List.cons.injEq,Value.bool.injEq,Value.slice.injEq,and_true] at e1 e2
 obtain ⟨h1,rfl,rfl,rfl⟩:=e1
 obtain ⟨h2,rfl,rfl,rfl⟩:=e2
 have HX:Hid (¬ ((r.num.natAbs:Int) = (s.num.natAbs:Int)∧(r.den:Int) = (s.den:Int)∧f = g)):=by
  rintro ⟨q1,q2,q3⟩
  apply hrs
  have q4:(r.num < 0)↔(s.num < 0):=by
   have:decide (r.num < 0) = decide (s.num < 0):=by rw [← h1,← h2,q3]
   simpa using this
  exact Rat.ext (by omega) (by omega)
 clear h1 h2 hrs
 replace Ka:=Ka.below hb0
 replace La:=La.below hb0
 replace Kb:=Kb.below hb0
 replace Lb:=Lb.below hb0
 go_enter Tryz.func50,Tryz.ntmps50
 obtain ⟨p0c0,p0c1,p0c2,p0c3,p0c4,p0c5⟩:=id P0
 obtain ⟨p1c0,p1c1,p1c2,p1c3,p1c4,p1c5⟩:=id P1
 go_wp2_with fail
 generalize (w.alloc (.cells #[.bool f,.slice c n k,.slice d nd kd] 29)).alloc (.cells #[.bool g,.slice c2 n2 k2,.slice d2 nd2 kd2] 29) = W0 at *
 refine (sameB _ Ka Kb (by omega) (by omega)).mono ?_
 rintro e w1 ⟨tn,rfl,ht1,hx⟩
 clear p0c0 p0c1 p0c2 p0c3 p0c4 p0c5 p1c0 p1c1 p1c2 p1c3 p1c4 p1c5
 replace Ka:=Ka.below hx
 replace La:=La.below hx
 replace Kb:=Kb.below hx
 replace Lb:=Lb.below hx
 replace P0:=P0.below hx
 replace P1:=P1.below hx
 replace hb0:=bel_tr hb0 hx
 have hsw1:W0.heap.size≤w1.heap.size:=Below.size hx
 clear hx
 obtain ⟨p0c0,p0c1,p0c2,p0c3,p0c4,p0c5⟩:=id P0
 obtain ⟨p1c0,p1c1,p1c2,p1c3,p1c4,p1c5⟩:=id P1
 have HN:Hid (tn = true→(r.num.natAbs:Int) = (s.num.natAbs:Int)):=fun h=>by rw [ht1] at h;exact of_decide_eq_true h
 clear ht1
 go_wp2_with fail
 refine (sameB _ La Lb (by omega) (by omega)).mono ?_
 rintro e w2 ⟨td,rfl,ht2,hx⟩
 clear p0c0 p0c1 p0c2 p0c3 p0c4 p0c5 p1c0 p1c1 p1c2 p1c3 p1c4 p1c5
 replace Ka:=Ka.below hx
 replace La:=La.below hx
 replace Kb:=Kb.below hx
 replace Lb:=Lb.below hx
 replace P0:=P0.below hx
 replace P1:=P1.below hx
 replace hb0:=bel_tr hb0 hx
 have hsw2:w1.heap.size≤w2.heap.size:=Below.size hx
 clear hx
 obtain ⟨p0c0,p0c1,p0c2,p0c3,p0c4,p0c5⟩:=id P0
 obtain ⟨p1c0,p1c1,p1c2,p1c3,p1c4,p1c5⟩:=id P1
 have HD:Hid (td = true→(r.den:Int) = (s.den:Int)):=fun h=>by rw [ht2] at h;exact of_decide_eq_true h
 clear ht2
 have HF:¬ (tn = true∧td = true∧f = g):=fun ⟨q1,q2,q3⟩=>HX.out ⟨HN.out q1,HD.out q2,q3⟩
 clear HX HN HD Ka La Kb Lb
 cases tn <;> cases td <;> cases f <;> cases g <;> first | exact absurd ⟨rfl,rfl,rfl⟩ HF | (clear HF;go_wp2;go_ret;exact ⟨rfl,hb0⟩)
end Go.Proofs.YtmpkgpilfcbdnaaGreatDoor
