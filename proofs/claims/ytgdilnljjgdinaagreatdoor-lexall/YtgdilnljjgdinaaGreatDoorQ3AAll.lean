import Derived.Test.YtgdilnljjgdinaaGreatDoorRatAll
import Derived.Test.YtgdilnljjgdinaaGreatDoorRefNAll
import Derived.Test.YtgdilnljjgdinaaGreatDoorR2All
import Derived.Test.YtgdilnljjgdinaaGreatDoorLentAll
import Derived.Test.YtgdilnljjgdinaaGreatDoorR5E0All
namespace Go.Proofs.YtgdilnljjgdinaaGreatDoor
open Go.RowKit
theorem Num.below_pw {w:World} {a:Option Addr} {n c:Nat} {x:Int} {S:Nat} (h:Num w a n c x S):x<pw S:=by
 obtain ⟨xs,h1,h2,h3,h4,h5,h6⟩:=h
 have h7:=val_lt h4
 have h8:=pw_mono (show xs.length≤S by omega)
 rw [← h5];omega
theorem Got.tiny {w:World} {B:Nat} {a:Option Addr} {n c:Nat} {x:Int} {S:Nat} (h:Got w B (.slice a n c) x S):n=0↔x=0:=by
 have h1:=h.pos
 omega
theorem oneD (w:World) :
  Calls Tryz.prog 89 #[] w fun e w'=>∃ c n k,e = .returned (.slice c n k)∧Got w' w.heap.size (.slice c n k) 1 1∧Below w.heap.size w w':=by
 go_enter Tryz.func89,Tryz.ntmps89
 go_wp2_with fail
 refine (rofGot 1 _ (by decide) (by decide)).mono ?_
 rintro e w1 ⟨c,n,k,rfl,G,hx⟩
 go_wp2
 go_ret
 exact ⟨c,n,k,rfl,G,hx⟩
theorem gr_zero {w:World} {B:Nat} {c:Option Addr} {n k S:Nat} (h:Got w B (.slice c n k) 1 1) (hS:1≤S):GR w B false none 0 0 c n k 0 S:=by
 refine ⟨((GI.nil w B).le (by omega)).val ?_,(h.le hS).val ?_,fun g e=>by simp [Value.ownBlock] at e⟩
 ·rfl
 ·rfl
theorem sg_of {x:Int} {G:Nat} {f:Bool} (hG:0<G) (hf:f=decide (x<0)) (hx:x≠0) (hd:G ∣ x.natAbs):f=decide (ws f ((x.natAbs:Int)/(G:Int))<0):=by
 obtain ⟨q,hq⟩:=hd
 have hq0:0<q:=by
  rcases Nat.eq_zero_or_pos q with h|h
  ·subst h;omega
  ·exact h
 have e:(x.natAbs:Int)/(G:Int)=q:=by rw [hq,Int.natCast_mul,Int.mul_ediv_cancel_left _ (by omega)]
 rw [e]
 unfold ws
 cases f <;> simp <;> omega
set_option maxHeartbeats 4000000 in
theorem normD {p:Bool} {a:Option Addr} {na ca:Nat} {d:Option Addr} {nd cd:Nat} {r:Rat} {S:Nat} (w:World) (hr:TR w p a na ca d nd cd r S) (hS:S≤7000000) (hS1:1≤S) :
  Calls Tryz.prog 56 #[.agg #[.bool p,.slice a na ca,.slice d nd cd]] w fun e w'=>∃ f c n k c' n' k',e = .returned (.agg #[.bool f,.slice c n k,.slice c' n' k'])∧GR w' w.heap.size f c n k c' n' k' (r) (S)∧Below w.heap.size w w':=by
 obtain ⟨x,y,hx,hy,hxy⟩:=hr
 have HXY:Hid (Rat.divInt x y=r):=hxy
 clear hxy
 have hy0:=hy.nn
 have LX:=hx.lt
 have LY:=hy.below_pw
 obtain ⟨P0,R0,hb0,hsz⟩:=box_rr w (.bool p) (.slice a na ca) (.slice d nd cd) (.bool false) (.slice none 0 0) (.slice none 0 0) 44
 replace hx:=hx.below hb0
 replace hy:=hy.below hb0
 go_enter Tryz.func56,Tryz.ntmps56
 go_wp2_with fail
 generalize (w.alloc (.cells #[.bool p,.slice a na ca,.slice d nd cd] 44)).alloc (.cells #[.bool false,.slice none 0 0,.slice none 0 0] 44)=W0 at *
 replace hsz:=Nat.le_of_eq hsz.symm
 have hX:=hx
 have hY:=hy
 clear hx hy
 obtain ⟨p0c0,p0c1,p0c2,p0c3,p0c4,p0c5⟩:=id P0
 refine (rnormR _ hY (by omega)).mono ?_
 rintro e w1 ⟨cd1,nd1,kd1,rfl,Gd,hx⟩
 replace Gd:=Gd.mono (B':=w.heap.size+2) hsz
 clear p0c0 p0c1 p0c2 p0c3 p0c4 p0c5
 replace hX:=hX.below hx
 replace hY:=hY.below hx
 replace P0:=P0.below hx
 replace R0:=R0.below hx
 replace hb0:=bel_tr hb0 hx
 replace hsz:=Nat.le_trans hsz (Below.size hx)
 clear hx
 obtain ⟨p0c0,p0c1,p0c2,p0c3,p0c4,p0c5⟩:=id P0
 clear hY
 go_wp2_with fail
 refine (rnormT _ hX (by omega)).mono ?_
 rintro e w2 ⟨f1,c1,n1,k1,rfl,Kn,hx⟩
 replace Kn:=Kn.mono (B':=w.heap.size+2) hsz
 clear p0c0 p0c1 p0c2 p0c3 p0c4 p0c5
 replace hX:=hX.below hx
 replace Gd:=Gd.below hx
 replace P0:=P0.below hx
 replace R0:=R0.below hx
 replace hb0:=bel_tr hb0 hx
 replace hsz:=Nat.le_trans hsz (Below.size hx)
 clear hx
 clear hX
 have hx:=bel_d0 w2 (.cells #[.bool f1,.slice c1 n1 k1] 42)
 replace Gd:=Gd.below hx
 replace Kn:=Kn.below hx
 replace P0:=P0.below hx
 replace R0:=R0.below hx
 replace hb0:=bel_tr hb0 hx
 replace hsz:=Nat.le_trans hsz (Below.size hx)
 have Vn:=var2_new w2 (.bool f1) (.slice c1 n1 k1) 42
 clear hx
 obtain ⟨vnc0,vnc1,vnc2,vnc3⟩:=id Vn
 go_wp2_with fail
 generalize w2.alloc (.cells #[.bool f1,.slice c1 n1 k1] 42)=w3 at *
 refine (oneD _).mono ?_
 rintro e w4 ⟨co,no,ko,rfl,Go,hx⟩
 replace Go:=Go.mono (B':=w.heap.size+2) hsz
 clear vnc0 vnc1 vnc2 vnc3
 replace Gd:=Gd.below hx
 replace Kn:=Kn.below hx
 replace P0:=P0.below hx
 replace R0:=R0.below hx
 replace Vn:=Vn.below hx
 replace hb0:=bel_tr hb0 hx
 replace hsz:=Nat.le_trans hsz (Below.size hx)
 clear hx
 obtain ⟨vnc0,vnc1,vnc2,vnc3⟩:=id Vn
 have hdz:=Gd.tiny
 obtain ⟨a',n',c',e1,Kg⟩:=id Kn
 simp only [Value.agg.injEq,Array.mk.injEq,List.cons.injEq,Value.bool.injEq,Value.slice.injEq,and_true] at e1
 obtain ⟨hf1,rfl,rfl,rfl⟩:=e1
 have hnz:=Kg.tiny
 have HF:Hid (f1=decide (x<0)):=hf1
 clear hf1
 by_cases hz:y=0∨x=0
 ·have hr0:r=0:=by
   rw [← HXY.out]
   rcases hz with rfl|rfl
   ·simp
   ·simp
  have hcnd:nd1=0∨(nd1≠0∧n1=0):=by
   rcases hz with h|h
   ·exact .inl (hdz.2 h)
   ·by_cases h2:nd1=0
    ·exact .inl h2
    ·exact .inr ⟨h2,hnz.2 (by omega)⟩
  clear hz hdz hnz LX LY HXY HF hy0
  subst hr0
  rcases hcnd with rfl|⟨h1,rfl⟩
  ·clear vnc0 vnc1 vnc2 vnc3
   obtain ⟨r0c0,r0c1,r0c2,r0c3,r0c4,r0c5⟩:=id R0
   obtain ⟨V,OO⟩:=R0.set (.bool false) (.slice none 0 0) (.slice co no ko)
   have hw:=hb0.trans (OO.below (B:=w.heap.size) (by omega))
   have GF:=(gr_zero (Go.off OO (by omega)) hS1).mono (B':=w.heap.size) (by omega)
   clear Go Gd Kn Kg Vn P0
   clear R0 OO hb0
   go_wp2
   refine bodyPost_ret (v:=.agg #[.bool false,.slice none 0 0,.slice co no ko]) (by simp [results,Tryz.results56,go_sem,V.c0,V.c1,V.c2]) rfl ⟨_,_,_,_,_,_,_,rfl,GF,hw⟩
  ·clear vnc0 vnc1 vnc2 vnc3
   obtain ⟨r0c0,r0c1,r0c2,r0c3,r0c4,r0c5⟩:=id R0
   obtain ⟨V,OO⟩:=R0.set (.bool false) (.slice none 0 0) (.slice co no ko)
   have hw:=hb0.trans (OO.below (B:=w.heap.size) (by omega))
   have GF:=(gr_zero (Go.off OO (by omega)) hS1).mono (B':=w.heap.size) (by omega)
   obtain ⟨vnc0,vnc1,vnc2,vnc3⟩:=id Vn
   clear Go Gd Kn Kg Vn P0
   clear R0 OO hb0
   have hcI:((nd1:Int) == 0)=false:=by simp;omega
   go_wp2
   refine bodyPost_ret (v:=.agg #[.bool false,.slice none 0 0,.slice co no ko]) (by simp [results,Tryz.results56,go_sem,V.c0,V.c1,V.c2]) rfl ⟨_,_,_,_,_,_,_,rfl,GF,hw⟩
 ·have hy1:0<y:=by omega
  have hx1:x≠0:=fun h=>hz (.inr h)
  have hd0:¬ nd1=0:=fun h=>hz (.inl (hdz.1 h))
  have hn0:¬ n1=0:=fun h=>by have:=hnz.1 h;omega
  have hdI:((nd1:Int) == 0)=false:=by simp;omega
  have hnI:((n1:Int) == 0)=false:=by simp;omega
  clear hz hdz hnz hd0 hn0
  obtain ⟨Y,rfl⟩:=Int.eq_ofNat_of_zero_le hy0
  clear hy0
  have hg0:0<Nat.gcd x.natAbs Y:=Nat.gcd_pos_of_pos_right _ (by omega)
  have HN:Hid (r.num=ws f1 ((x.natAbs:Int)/(Nat.gcd x.natAbs Y:Nat))):=by
   show _=_
   have h:=low_num (decide (x<0)) false (m:=x.natAbs) (k:=Y) (by omega) hy1
   rw [ws_sign,show ws false (Y:Int)=Y from rfl] at h
   rw [← HXY.out,HF.out,h];simp
  have HD:Hid ((r.den:Int)=(Y:Int)/(Nat.gcd x.natAbs Y:Nat)):=by
   show _=_
   have h:=low_den (decide (x<0)) false (m:=x.natAbs) (k:=Y) (by omega) hy1
   rw [ws_sign,show ws false (Y:Int)=Y from rfl] at h
   rw [← HXY.out,h];simp
  obtain ⟨G,hG⟩:∃ G:Nat,Nat.gcd x.natAbs Y=G:=⟨_,rfl⟩
  have HG:Hid (Nat.gcd x.natAbs Y=G):=hG
  rw [hG] at HN HD hg0
  clear hG
  have LM:(x.natAbs:Int)/(G:Int)<pw S:=Int.lt_of_le_of_lt (Int.ediv_le_self _ (by omega)) LX
  have LK:(Y:Int)/(G:Int)<pw S:=Int.lt_of_le_of_lt (Int.ediv_le_self _ (by omega)) LY
  clear LX LY
  go_wp2_with fail
  refine (rgcdV _ Kg.num Gd.num (by omega)).mono ?_
  rintro e w5 ⟨cg,ng,kg,rfl,Gg,hx⟩
  replace Gg:=Gg.mono (B':=w.heap.size+2) hsz
  clear vnc0 vnc1 vnc2 vnc3
  replace Gd:=Gd.below hx
  replace Kn:=Kn.below hx
  replace Go:=Go.below hx
  replace Kg:=Kg.below hx
  replace P0:=P0.below hx
  replace R0:=R0.below hx
  replace Vn:=Vn.below hx
  replace hb0:=bel_tr hb0 hx
  replace hsz:=Nat.le_trans hsz (Below.size hx)
  clear hx
  rw [HG.out] at Gg
  obtain ⟨vnc0,vnc1,vnc2,vnc3⟩:=id Vn
  clear hdI hnI
  go_wp2_with fail
  refine (rdivV _ Kg.num Gg.num (by omega) (by omega) (by omega)).mono ?_
  rintro e w6 ⟨cp,np,kp,cp',np',kp',rfl,Gp,-,hx⟩
  replace Gp:=Gp.mono (B':=w.heap.size+2) hsz
  clear vnc0 vnc1 vnc2 vnc3
  replace Gd:=Gd.below hx
  replace Kn:=Kn.below hx
  replace Go:=Go.below hx
  replace Kg:=Kg.below hx
  replace Gg:=Gg.below hx
  replace P0:=P0.below hx
  replace R0:=R0.below hx
  replace Vn:=Vn.below hx
  replace hb0:=bel_tr hb0 hx
  replace hsz:=Nat.le_trans hsz (Below.size hx)
  clear hx
  replace Gp:=Gp.shrink LM
  obtain ⟨vnc0,vnc1,vnc2,vnc3⟩:=id Vn
  go_wp2_with fail
  refine (rdivV _ Gd.num Gg.num (by omega) (by omega) (by omega)).mono ?_
  rintro e w7 ⟨cq,nq,kq,cq',nq',kq',rfl,Gq,-,hx⟩
  have HNE:=NB.of Gp Gq (Nat.le_refl _)
  replace Gq:=Gq.mono (B':=w.heap.size+2) hsz
  clear vnc0 vnc1 vnc2 vnc3
  replace Gd:=Gd.below hx
  replace Kn:=Kn.below hx
  replace Go:=Go.below hx
  replace Kg:=Kg.below hx
  replace Gg:=Gg.below hx
  replace Gp:=Gp.below hx
  replace P0:=P0.below hx
  replace R0:=R0.below hx
  replace Vn:=Vn.below hx
  replace hb0:=bel_tr hb0 hx
  replace hsz:=Nat.le_trans hsz (Below.size hx)
  clear hx
  replace Gq:=Gq.shrink LK
  obtain ⟨vnc0,vnc1,vnc2,vnc3⟩:=id Vn
  obtain ⟨r0c0,r0c1,r0c2,r0c3,r0c4,r0c5⟩:=id R0
  obtain ⟨V,OO⟩:=R0.set (.bool f1) (.slice cp np kp) (.slice cq nq kq)
  have hw:=hb0.trans (OO.below (B:=w.heap.size) (by omega))
  have E1:=agg_gi (f:=f1) (Gp.off OO (by omega)) r.num (by rw [HN.out];exact sg_of hg0 HF.out hx1 (HG.out ▸ Nat.gcd_dvd_left _ _)) (by rw [HN.out];exact ws_abs (Int.ediv_nonneg (by omega) (by omega)))
  have E2:Got _ (w.heap.size+2) (.slice cq nq kq) (r.den:Int) S:=(Gq.off OO (by omega)).val HD.out.symm
  clear Gp Gq Gg Gd Kn Kg Go P0 R0 OO hb0 LM LK HN HD HG HF hg0
  go_wp2
  refine bodyPost_ret (v:=.agg #[.bool f1,.slice cp np kp,.slice cq nq kq]) (by simp [results,Tryz.results56,go_sem,V.c0,V.c1,V.c2]) rfl ⟨_,_,_,_,_,_,_,rfl,⟨E1.mono (by omega),E2.mono (by omega),HNE⟩,hw⟩
theorem q_mul (r s:Rat):Rat.divInt (r.num*s.num) ((r.den:Int)*(s.den:Int))=r*s:=by
 rw [← Rat.divInt_mul_divInt,Rat.num_divInt_den,Rat.num_divInt_den]
set_option maxHeartbeats 4000000 in
theorem signD {p:Bool} {a:Option Addr} {na ca:Nat} {d:Option Addr} {nd cd:Nat} {r:Rat} {S:Nat} (w:World) (hr:TR w p a na ca d nd cd r S) (hS:S≤7000000) (hS1:1≤S) :
  Calls Tryz.prog 41 #[.agg #[.bool p,.slice a na ca,.slice d nd cd]] w fun e w'=>e = .returned (.int .i64 r.num.sign)∧Below w.heap.size w w':=by
 have P0:=var3_new w (.bool p) (.slice a na ca) (.slice d nd cd) 44
 have hb0:=bel_d0 w (.cells #[.bool p,.slice a na ca,.slice d nd cd] 44)
 have hsz:w.heap.size+1≤(w.alloc (.cells #[.bool p,.slice a na ca,.slice d nd cd] 44)).heap.size:=by simp
 replace hr:=hr.below hb0
 go_enter Tryz.func41,Tryz.ntmps41
 go_wp2_with fail
 generalize w.alloc (.cells #[.bool p,.slice a na ca,.slice d nd cd] 44)=W0 at *
 obtain ⟨p0c0,p0c1,p0c2,p0c3,p0c4,p0c5⟩:=id P0
 refine (normD _ hr (by omega) hS1).mono ?_
 rintro e w1 ⟨fx,cx,nx,kx,dX,mx,lx,rfl,Gx,hx⟩
 replace Gx:=Gx.mono (B':=w.heap.size+1) hsz
 clear p0c0 p0c1 p0c2 p0c3 p0c4 p0c5
 replace hr:=hr.below hx
 replace P0:=P0.below hx
 replace hb0:=bel_tr hb0 hx
 replace hsz:=Nat.le_trans hsz (Below.size hx)
 clear hx
 clear P0
 clear hr
 have hx:=bel_d0 w1 (.cells #[.bool fx,.slice cx nx kx,.slice dX mx lx] 44)
 replace Gx:=Gx.below hx
 replace hb0:=bel_tr hb0 hx
 replace hsz:=Nat.le_trans hsz (Below.size hx)
 have Vx:=var3_new w1 (.bool fx) (.slice cx nx kx) (.slice dX mx lx) 44
 clear hx
 obtain ⟨e1,G1⟩:=Gx.1.parts
 have hp:=G1.pos.2
 obtain ⟨vxc0,vxc1,vxc2,vxc3,vxc4,vxc5⟩:=id Vx
 clear Gx G1 Vx
 rcases Int.lt_trichotomy r.num 0 with h|h|h
 ·have hn:nx≠0:=by omega
  obtain rfl:fx=true:=by rw [e1];simpa using h
  have HZ:Hid (r.num.sign = -1):=Int.sign_eq_neg_one_of_neg h
  clear e1 hp h
  go_wp2
  go_ret
  exact ⟨by rw [HZ.out];rfl,hb0⟩
 ·obtain rfl:nx=0:=by omega
  have HZ:Hid (r.num.sign=0):=by show _=_;rw [h];rfl
  clear e1 hp h
  go_wp2
  go_ret
  exact ⟨by rw [HZ.out];rfl,hb0⟩
 ·have hn:nx≠0:=by omega
  obtain rfl:fx=false:=by rw [e1];simpa using (by omega:0≤r.num)
  have HZ:Hid (r.num.sign=1):=Int.sign_eq_one_of_pos h
  clear e1 hp h
  go_wp2
  go_ret
  exact ⟨by rw [HZ.out];rfl,hb0⟩
end Go.Proofs.YtgdilnljjgdinaaGreatDoor
