import Derived.Test.YtceigfafmalfgaaGreatDoorRatAll
import Derived.Test.YtceigfafmalfgaaGreatDoorRefNAll
import Derived.Test.YtceigfafmalfgaaGreatDoorR2All
import Derived.Test.YtceigfafmalfgaaGreatDoorLentAll
import Derived.Test.YtceigfafmalfgaaGreatDoorPqBAll
namespace Go.Proofs.YtceigfafmalfgaaGreatDoor
open Go.RowKit
theorem Num.up {w:World} {a:Option Addr} {n c:Nat} {x:Int} {S R:Nat} (h:Num w a n c x S) (hR:S≤R):Num w a n c x R:=by
 obtain ⟨xs,h1,h2,h3,h4,h5,h6⟩:=h
 exact ⟨xs,h1,h2,h3,h4,h5,by omega⟩
theorem Num.below_pw {w:World} {a:Option Addr} {n c:Nat} {x:Int} {S:Nat} (h:Num w a n c x S):x<pw S:=by
 obtain ⟨xs,h1,h2,h3,h4,h5,h6⟩:=h
 have h7:=val_lt h4
 have h8:=pw_mono (show xs.length≤S by omega)
 rw [← h5];omega
theorem Got.tiny {w:World} {B:Nat} {a:Option Addr} {n c:Nat} {x:Int} {S:Nat} (h:Got w B (.slice a n c) x S):n=0↔x=0:=by
 have h1:=h.pos
 omega
theorem oneD (w:World) :
  Calls Tryz.prog 48 #[] w fun e w'=>∃ c n k,e = .returned (.slice c n k)∧Got w' w.heap.size (.slice c n k) 1 1∧Below w.heap.size w w':=by
 go_enter Tryz.func48,Tryz.ntmps48
 go_wp2_with fail
 refine (rofGot 1 _ (by decide) (by decide)).mono ?_
 rintro e w1 ⟨c,n,k,rfl,G,hx⟩
 go_wp2
 go_ret
 exact ⟨c,n,k,rfl,G,hx⟩
theorem gr_zero {w:World} {B:Nat} {c:Option Addr} {n k S:Nat} (h:Got w B (.slice c n k) 1 1) (hS:1≤S):GR w B false none 0 0 c n k 0 S:=by
 refine ⟨((GI.nil w B).le (by omega)).val ?_,(h.le hS).val ?_,fun g e=>by simp [Value.ownBlock] at e⟩
 ·rfl
 ·rfl
theorem sg_of {x:Int} {G:Nat} {f:Bool} (hG:0<G) (hf:f=decide (x<0)) (hx:x≠0) (hd:G ∣ x.natAbs):f=decide (ws f ((x.natAbs:Int)/(G:Int))<0):=by
 obtain ⟨q,hq⟩:=hd
 have hq0:0<q:=by
  rcases Nat.eq_zero_or_pos q with h|h
  ·subst h;omega
  ·exact h
 have e:(x.natAbs:Int)/(G:Int)=q:=by rw [hq,Int.natCast_mul,Int.mul_ediv_cancel_left _ (by omega)]
 rw [e]
 unfold ws
 cases f <;> simp <;> omega
set_option maxHeartbeats 4000000 in
theorem normD {p:Bool} {a:Option Addr} {na ca:Nat} {d:Option Addr} {nd cd:Nat} {r:Rat} {S:Nat} (w:World) (hr:TR w p a na ca d nd cd r S) (hS:S≤7000000) (hS1:1≤S) :
  Calls Tryz.prog 70 #[.agg #[.bool p,.slice a na ca,.slice d nd cd]] w fun e w'=>∃ f c n k c' n' k',e = .returned (.agg #[.bool f,.slice c n k,.slice c' n' k'])∧GR w' w.heap.size f c n k c' n' k' (r) (S)∧Below w.heap.size w w':=by
 obtain ⟨x,y,hx,hy,hxy⟩:=hr
 have HXY:Hid (Rat.divInt x y=r):=hxy
 clear hxy
 have hy0:=hy.nn
 have LX:=hx.lt
 have LY:=hy.below_pw
 obtain ⟨P0,R0,hb0,hsz⟩:=box_rr w (.bool p) (.slice a na ca) (.slice d nd cd) (.bool false) (.slice none 0 0) (.slice none 0 0) 27
 replace hx:=hx.below hb0
 replace hy:=hy.below hb0
 go_enter Tryz.func70,Tryz.ntmps70
 go_wp2_with fail
 generalize (w.alloc (.cells #[.bool p,.slice a na ca,.slice d nd cd] 27)).alloc (.cells #[.bool false,.slice none 0 0,.slice none 0 0] 27)=W0 at *
 replace hsz:=Nat.le_of_eq hsz.symm
 have hX:=hx
 have hY:=hy
 clear hx hy
 obtain ⟨p0c0,p0c1,p0c2,p0c3,p0c4,p0c5⟩:=id P0
 refine (rnormR _ hY (by omega)).mono ?_
 rintro e w1 ⟨cd1,nd1,kd1,rfl,Gd,hx⟩
 replace Gd:=Gd.mono (B':=w.heap.size+2) hsz
 clear p0c0 p0c1 p0c2 p0c3 p0c4 p0c5
 replace hX:=hX.below hx
 replace hY:=hY.below hx
 replace P0:=P0.below hx
 replace R0:=R0.below hx
 replace hb0:=bel_tr hb0 hx
 replace hsz:=Nat.le_trans hsz (Below.size hx)
 clear hx
 obtain ⟨p0c0,p0c1,p0c2,p0c3,p0c4,p0c5⟩:=id P0
 clear hY
 go_wp2_with fail
 refine (rnormT _ hX (by omega)).mono ?_
 rintro e w2 ⟨f1,c1,n1,k1,rfl,Kn,hx⟩
 replace Kn:=Kn.mono (B':=w.heap.size+2) hsz
 clear p0c0 p0c1 p0c2 p0c3 p0c4 p0c5
 replace hX:=hX.below hx
 replace Gd:=Gd.below hx
 replace P0:=P0.below hx
 replace R0:=R0.below hx
 replace hb0:=bel_tr hb0 hx
 replace hsz:=Nat.le_trans hsz (Below.size hx)
 clear hx
 clear hX
 have hx:=bel_d0 w2 (.cells #[.bool f1,.slice c1 n1 k1] 25)
 replace Gd:=Gd.below hx
 replace Kn:=Kn.below hx
 replace P0:=P0.below hx
 replace R0:=R0.below hx
 replace hb0:=bel_tr hb0 hx
 replace hsz:=Nat.le_trans hsz (Below.size hx)
 have Vn:=var2_new w2 (.bool f1) (.slice c1 n1 k1) 25
 clear hx
 obtain ⟨vnc0,vnc1,vnc2,vnc3⟩:=id Vn
 go_wp2_with fail
 generalize w2.alloc (.cells #[.bool f1,.slice c1 n1 k1] 25)=w3 at *
 refine (oneD _).mono ?_
 rintro e w4 ⟨co,no,ko,rfl,Go,hx⟩
 replace Go:=Go.mono (B':=w.heap.size+2) hsz
 clear vnc0 vnc1 vnc2 vnc3
 replace Gd:=Gd.below hx
 replace Kn:=Kn.below hx
 replace P0:=P0.below hx
 replace R0:=R0.below hx
 replace Vn:=Vn.below hx
 replace hb0:=bel_tr hb0 hx
 replace hsz:=Nat.le_trans hsz (Below.size hx)
 clear hx
 obtain ⟨vnc0,vnc1,vnc2,vnc3⟩:=id Vn
 have hdz:=Gd.tiny
 obtain ⟨a',n',c',e1,Kg⟩:=id Kn
 simp only [Value.agg.injEq,Array.mk.injEq,List.cons.injEq,Value.bool.injEq,Value.slice.injEq,and_true] at e1
 obtain ⟨hf1,rfl,rfl,rfl⟩:=e1
 have hnz:=Kg.tiny
 have HF:Hid (f1=decide (x<0)):=hf1
 clear hf1
 by_cases hz:y=0∨x=0
 ·have hr0:r=0:=by
   rw [← HXY.out]
   rcases hz with rfl|rfl
   ·simp
   ·simp
  have hcnd:nd1=0∨(nd1≠0∧n1=0):=by
   rcases hz with h|h
   ·exact .inl (hdz.2 h)
   ·by_cases h2:nd1=0
    ·exact .inl h2
    ·exact .inr ⟨h2,hnz.2 (by omega)⟩
  clear hz hdz hnz LX LY HXY HF hy0
  subst hr0
  rcases hcnd with rfl|⟨h1,rfl⟩
  ·clear vnc0 vnc1 vnc2 vnc3
   obtain ⟨r0c0,r0c1,r0c2,r0c3,r0c4,r0c5⟩:=id R0
   obtain ⟨V,OO⟩:=R0.set (.bool false) (.slice none 0 0) (.slice co no ko)
   have hw:=hb0.trans (OO.below (B:=w.heap.size) (by omega))
   have GF:=(gr_zero (Go.off OO (by omega)) hS1).mono (B':=w.heap.size) (by omega)
   clear Go Gd Kn Kg Vn P0
   clear R0 OO hb0
   go_wp2
   refine bodyPost_ret (v:=.agg #[.bool false,.slice none 0 0,.slice co no ko]) (by simp [results,Tryz.results70,go_sem,V.c0,V.c1,V.c2]) rfl ⟨_,_,_,_,_,_,_,rfl,GF,hw⟩
  ·clear vnc0 vnc1 vnc2 vnc3
   obtain ⟨r0c0,r0c1,r0c2,r0c3,r0c4,r0c5⟩:=id R0
   obtain ⟨V,OO⟩:=R0.set (.bool false) (.slice none 0 0) (.slice co no ko)
   have hw:=hb0.trans (OO.below (B:=w.heap.size) (by omega))
   have GF:=(gr_zero (Go.off OO (by omega)) hS1).mono (B':=w.heap.size) (by omega)
   obtain ⟨vnc0,vnc1,vnc2,vnc3⟩:=id Vn
   clear Go Gd Kn Kg Vn P0
   clear R0 OO hb0
   have hcI:((nd1:Int) == 0)=false:=by simp;omega
   go_wp2
   refine bodyPost_ret (v:=.agg #[.bool false,.slice none 0 0,.slice co no ko]) (by simp [results,Tryz.results70,go_sem,V.c0,V.c1,V.c2]) rfl ⟨_,_,_,_,_,_,_,rfl,GF,hw⟩
 ·have hy1:0<y:=by omega
  have hx1:x≠0:=fun h=>hz (.inr h)
  have hd0:¬ nd1=0:=fun h=>hz (.inl (hdz.1 h))
  have hn0:¬ n1=0:=fun h=>by have:=hnz.1 h;omega
  have hdI:((nd1:Int) == 0)=false:=by simp;omega
  have hnI:((n1:Int) == 0)=false:=by simp;omega
  clear hz hdz hnz hd0 hn0
  obtain ⟨Y,rfl⟩:=Int.eq_ofNat_of_zero_le hy0
  clear hy0
  have hg0:0<Nat.gcd x.natAbs Y:=Nat.gcd_pos_of_pos_right _ (by omega)
  have HN:Hid (r.num=ws f1 ((x.natAbs:Int)/(Nat.gcd x.natAbs Y:Nat))):=by
   show _=_
   have h:=low_num (decide (x<0)) false (m:=x.natAbs) (k:=Y) (by omega) hy1
   rw [ws_sign,show ws false (Y:Int)=Y from rfl] at h
   rw [← HXY.out,HF.out,h];simp
  have HD:Hid ((r.den:Int)=(Y:Int)/(Nat.gcd x.natAbs Y:Nat)):=by
   show _=_
   have h:=low_den (decide (x<0)) false (m:=x.natAbs) (k:=Y) (by omega) hy1
   rw [ws_sign,show ws false (Y:Int)=Y from rfl] at h
   rw [← HXY.out,h];simp
  obtain ⟨G,hG⟩:∃ G:Nat,Nat.gcd x.natAbs Y=G:=⟨_,rfl⟩
  have HG:Hid (Nat.gcd x.natAbs Y=G):=hG
  rw [hG] at HN HD hg0
  clear hG
  have LM:(x.natAbs:Int)/(G:Int)<pw S:=Int.lt_of_le_of_lt (Int.ediv_le_self _ (by omega)) LX
  have LK:(Y:Int)/(G:Int)<pw S:=Int.lt_of_le_of_lt (Int.ediv_le_self _ (by omega)) LY
  clear LX LY
  go_wp2_with fail
  refine (rgcdV _ Kg.num Gd.num (by omega)).mono ?_
  rintro e w5 ⟨cg,ng,kg,rfl,Gg,hx⟩
  replace Gg:=Gg.mono (B':=w.heap.size+2) hsz
  clear vnc0 vnc1 vnc2 vnc3
  replace Gd:=Gd.below hx
  replace Kn:=Kn.below hx
  replace Go:=Go.below hx
  replace Kg:=Kg.below hx
  replace P0:=P0.below hx
  replace R0:=R0.below hx
  replace Vn:=Vn.below hx
  replace hb0:=bel_tr hb0 hx
  replace hsz:=Nat.le_trans hsz (Below.size hx)
  clear hx
  rw [HG.out] at Gg
  obtain ⟨vnc0,vnc1,vnc2,vnc3⟩:=id Vn
  clear hdI hnI
  go_wp2_with fail
  refine (rdivV _ Kg.num Gg.num (by omega) (by omega) (by omega)).mono ?_
  rintro e w6 ⟨cp,np,kp,cp',np',kp',rfl,Gp,-,hx⟩
  replace Gp:=Gp.mono (B':=w.heap.size+2) hsz
  clear vnc0 vnc1 vnc2 vnc3
  replace Gd:=Gd.below hx
  replace Kn:=Kn.below hx
  replace Go:=Go.below hx
  replace Kg:=Kg.below hx
  replace Gg:=Gg.below hx
  replace P0:=P0.below hx
  replace R0:=R0.below hx
  replace Vn:=Vn.below hx
  replace hb0:=bel_tr hb0 hx
  replace hsz:=Nat.le_trans hsz (Below.size hx)
  clear hx
  replace Gp:=Gp.shrink LM
  obtain ⟨vnc0,vnc1,vnc2,vnc3⟩:=id Vn
  go_wp2_with fail
  refine (rdivV _ Gd.num Gg.num (by omega) (by omega) (by omega)).mono ?_
  rintro e w7 ⟨cq,nq,kq,cq',nq',kq',rfl,Gq,-,hx⟩
  have HNE:=NB.of Gp Gq (Nat.le_refl _)
  replace Gq:=Gq.mono (B':=w.heap.size+2) hsz
  clear vnc0 vnc1 vnc2 vnc3
  replace Gd:=Gd.below hx
  replace Kn:=Kn.below hx
  replace Go:=Go.below hx
  replace Kg:=Kg.below hx
  replace Gg:=Gg.below hx
  replace Gp:=Gp.below hx
  replace P0:=P0.below hx
  replace R0:=R0.below hx
  replace Vn:=Vn.below hx
  replace hb0:=bel_tr hb0 hx
  replace hsz:=Nat.le_trans hsz (Below.size hx)
  clear hx
  replace Gq:=Gq.shrink LK
  obtain ⟨vnc0,vnc1,vnc2,vnc3⟩:=id Vn
  obtain ⟨r0c0,r0c1,r0c2,r0c3,r0c4,r0c5⟩:=id R0
  obtain ⟨V,OO⟩:=R0.set (.bool f1) (.slice cp np kp) (.slice cq nq kq)
  have hw:=hb0.trans (OO.below (B:=w.heap.size) (by omega))
  have E1:=agg_gi (f:=f1) (Gp.off OO (by omega)) r.num (by rw [HN.out];exact sg_of hg0 HF.out hx1 (HG.out ▸ Nat.gcd_dvd_left _ _)) (by rw [HN.out];exact ws_abs (Int.ediv_nonneg (by omega) (by omega)))
  have E2:Got _ (w.heap.size+2) (.slice cq nq kq) (r.den:Int) S:=(Gq.off OO (by omega)).val HD.out.symm
  clear Gp Gq Gg Gd Kn Kg Go P0 R0 OO hb0 LM LK HN HD HG HF hg0
  go_wp2
  refine bodyPost_ret (v:=.agg #[.bool f1,.slice cp np kp,.slice cq nq kq]) (by simp [results,Tryz.results70,go_sem,V.c0,V.c1,V.c2]) rfl ⟨_,_,_,_,_,_,_,rfl,⟨E1.mono (by omega),E2.mono (by omega),HNE⟩,hw⟩
theorem Got.offN {w w':World} {B R:Nat} {v:Value} {x:Int} {S:Nat} (h:Got w B v x S) (ho:Off R w w') (hR:v.ownBlock≠some R):Got w' B v x S:=by
 obtain ⟨xs,h1,h2⟩:=h
 refine ⟨xs,?_,h2⟩
 refine ⟨h1.1,?_⟩
 rcases h1.2 with hn|⟨g,cap,cur,e1,e2,hgb,rest⟩
 ·exact .inl hn
 ·refine .inr ⟨g,cap,cur,e1,e2,(ho.block g (fun e=>hR ?_)).trans hgb,rest⟩
  subst e;rw [e1];rfl
theorem Var3.set2 {w:World} {R:Nat} {u v z:Value} (h:Var3 w R u v z) (u' v':Value):Var3 ((w.setCell ⟨R,0,none⟩ u').setCell ⟨R,1,none⟩ v') R u' v' z∧Off R w ((w.setCell ⟨R,0,none⟩ u').setCell ⟨R,1,none⟩ v'):=by
 refine ⟨⟨?_,?_,?_,?_,?_,?_⟩,((Off.refl _ _).set 0 u').set 1 v'⟩
 ·rw [World.cell?_setCell_other _ _ _ _ (by simp),World.cell?_setCell_same _ _ _ h.c0]
 ·rw [World.cell?_setCell_same _ _ _ ((World.cell?_setCell_other _ _ _ _ (by simp)).trans h.c1)]
 ·rw [World.cell?_setCell_other _ _ _ _ (by simp),World.cell?_setCell_other _ _ _ _ (by simp)];exact h.c2
 ·rw [World.frozen?_setCell,World.frozen?_setCell];exact h.f0
 ·rw [World.frozen?_setCell,World.frozen?_setCell];exact h.f1
 ·rw [World.frozen?_setCell,World.frozen?_setCell];exact h.f2
theorem dd_lt {a b:Nat} {S R:Nat} (ha:(a:Int)<pw S) (hb:(b:Int)<pw R):(a:Int)*(b:Int)<pw (S+R):=by
 have h:=mul_lt (x:=(a:Int)) (y:=(b:Int)) (S:=S) (R:=R) (by simpa using ha) (by simpa using hb)
 rw [Int.natAbs_mul] at h
 simpa using h
theorem Got.below_pw {w:World} {B:Nat} {a:Option Addr} {n c:Nat} {x:Int} {S:Nat} (h:Got w B (.slice a n c) x S):x<pw S:=h.num.below_pw
theorem Got.ti {w:World} {B:Nat} {a:Option Addr} {n c:Nat} {x:Int} {S:Nat} (h:Got w B (.slice a n c) x S):TI w false a n c x S:=⟨_,h.num,rfl⟩
theorem q_mul (r s:Rat):Rat.divInt (r.num*s.num) ((r.den:Int)*(s.den:Int))=r*s:=by
 rw [← Rat.divInt_mul_divInt,Rat.num_divInt_den,Rat.num_divInt_den]
theorem q_add (r s:Rat):Rat.divInt (r.num*s.den+s.num*r.den) ((r.den:Int)*(s.den:Int))=r+s:=by
 rw [← Rat.divInt_add_divInt _ _ (by have:=r.den_pos;omega) (by have:=s.den_pos;omega),Rat.num_divInt_den,Rat.num_divInt_den]
set_option maxHeartbeats 4000000 in
theorem negD {p:Bool} {a:Option Addr} {na ca:Nat} {d:Option Addr} {nd cd:Nat} {r:Rat} {S:Nat} (w:World) (hr:TR w p a na ca d nd cd r S) (hS:S≤7000000) (hS1:1≤S) :
  Calls Tryz.prog 68 #[.agg #[.bool p,.slice a na ca,.slice d nd cd]] w fun e w'=>∃ f c n k c' n' k',e = .returned (.agg #[.bool f,.slice c n k,.slice c' n' k'])∧GR w' w.heap.size f c n k c' n' k' (-r) (S)∧Below w.heap.size w w':=by
 obtain ⟨P0,R0,hb0,hsz⟩:=box_rr w (.bool p) (.slice a na ca) (.slice d nd cd) (.bool false) (.slice none 0 0) (.slice none 0 0) 27
 replace hr:=hr.below hb0
 go_enter Tryz.func68,Tryz.ntmps68
 go_wp2_with fail
 generalize (w.alloc (.cells #[.bool p,.slice a na ca,.slice d nd cd] 27)).alloc (.cells #[.bool false,.slice none 0 0,.slice none 0 0] 27)=W0 at *
 replace hsz:=Nat.le_of_eq hsz.symm
 obtain ⟨p0c0,p0c1,p0c2,p0c3,p0c4,p0c5⟩:=id P0
 refine (normD _ hr (by omega) hS1).mono ?_
 rintro e w1 ⟨fx,cx,nx,kx,dX,mx,lx,rfl,Gx,hx⟩
 replace Gx:=Gx.mono (B':=w.heap.size+2) hsz
 clear p0c0 p0c1 p0c2 p0c3 p0c4 p0c5
 replace hr:=hr.below hx
 replace P0:=P0.below hx
 replace R0:=R0.below hx
 replace hb0:=bel_tr hb0 hx
 replace hsz:=Nat.le_trans hsz (Below.size hx)
 clear hx
 clear P0
 clear hr
 have hB1:=hsz
 have QX:Hid (∀ g,(Value.slice dX mx lx).ownBlock=some g→g<w1.heap.size):=fun g hg=>(Gx.2.lt g hg).2
 have QC:Hid (∀ g,(Value.slice cx nx kx).ownBlock=some g→g<w1.heap.size):=fun g hg=>(Gx.1.parts.2.lt g hg).2
 have hx:=bel_d0 w1 (.cells #[.bool fx,.slice cx nx kx,.slice dX mx lx] 27)
 replace Gx:=Gx.below hx
 replace R0:=R0.below hx
 replace hb0:=bel_tr hb0 hx
 replace hsz:=Nat.le_trans hsz (Below.size hx)
 have Vx:=var3_new w1 (.bool fx) (.slice cx nx kx) (.slice dX mx lx) 27
 clear hx
 obtain ⟨vxc0,vxc1,vxc2,vxc3,vxc4,vxc5⟩:=id Vx
 go_wp2_with fail
 generalize w1.alloc (.cells #[.bool fx,.slice cx nx kx,.slice dX mx lx] 27)=w2 at *
 have hRl:=Vx.lt
 refine (rnegT _ Gx.1.ti (by omega)).mono ?_
 rintro e w3 ⟨f1,c1,n1,k1,rfl,K1,hx⟩
 have HNE:NB (.slice c1 n1 k1) (.slice dX mx lx):=fun g e1 e2=>by have:=K1.parts.2.lt g e1;have:=QX.out g e2;omega
 clear vxc0 vxc1 vxc2 vxc3 vxc4 vxc5
 replace Gx:=Gx.below hx
 replace R0:=R0.below hx
 replace Vx:=Vx.below hx
 replace hb0:=bel_tr hb0 hx
 replace hsz:=Nat.le_trans hsz (Below.size hx)
 clear hx
 obtain ⟨vxc0,vxc1,vxc2,vxc3,vxc4,vxc5⟩:=id Vx
 obtain ⟨V1,O1⟩:=Vx.set2 (.bool f1) (.slice c1 n1 k1)
 have K2:=(K1.off O1 hRl).mono (B':=w.heap.size+2) (by omega)
 have D2:=Gx.2.offN O1 (fun e=>absurd (QX.out _ e) (Nat.lt_irrefl _))
 have R1:=R0.off O1 (by omega)
 have hb1:=hb0.trans (O1.below (B:=w.heap.size) (by omega))
 obtain ⟨v1c0,v1c1,v1c2,v1c3,v1c4,v1c5⟩:=id V1
 obtain ⟨r0c0,r0c1,r0c2,r0c3,r0c4,r0c5⟩:=id R1
 obtain ⟨V,OO⟩:=R1.set (.bool f1) (.slice c1 n1 k1) (.slice dX mx lx)
 have hw:=hb1.trans (OO.below (B:=w.heap.size) (by omega))
 have GF:GR _ (w.heap.size+2) f1 c1 n1 k1 dX mx lx (-r) S:=⟨(K2.off OO (by omega)).val (Rat.neg_num r).symm,D2.off OO (by omega),HNE⟩
 clear K1 K2 D2 Gx R0 R1 O1 OO hb0 hb1 QX QC V1 Vx
 go_wp2
 refine bodyPost_ret (v:=.agg #[.bool f1,.slice c1 n1 k1,.slice dX mx lx]) (by simp [results,Tryz.results68,go_sem,V.c0,V.c1,V.c2]) rfl ⟨_,_,_,_,_,_,_,rfl,GF.mono (by omega),hw⟩
set_option maxHeartbeats 4000000 in
theorem signD {p:Bool} {a:Option Addr} {na ca:Nat} {d:Option Addr} {nd cd:Nat} {r:Rat} {S:Nat} (w:World) (hr:TR w p a na ca d nd cd r S) (hS:S≤7000000) (hS1:1≤S) :
  Calls Tryz.prog 53 #[.agg #[.bool p,.slice a na ca,.slice d nd cd]] w fun e w'=>e = .returned (.int .i64 r.num.sign)∧Below w.heap.size w w':=by
 have P0:=var3_new w (.bool p) (.slice a na ca) (.slice d nd cd) 27
 have hb0:=bel_d0 w (.cells #[.bool p,.slice a na ca,.slice d nd cd] 27)
 have hsz:w.heap.size+1≤(w.alloc (.cells #[.bool p,.slice a na ca,.slice d nd cd] 27)).heap.size:=by simp
 replace hr:=hr.below hb0
 go_enter Tryz.func53,Tryz.ntmps53
 go_wp2_with fail
 generalize w.alloc (.cells #[.bool p,.slice a na ca,.slice d nd cd] 27)=W0 at *
 obtain ⟨p0c0,p0c1,p0c2,p0c3,p0c4,p0c5⟩:=id P0
 refine (normD _ hr (by omega) hS1).mono ?_
 rintro e w1 ⟨fx,cx,nx,kx,dX,mx,lx,rfl,Gx,hx⟩
 replace Gx:=Gx.mono (B':=w.heap.size+1) hsz
 clear p0c0 p0c1 p0c2 p0c3 p0c4 p0c5
 replace hr:=hr.below hx
 replace P0:=P0.below hx
 replace hb0:=bel_tr hb0 hx
 replace hsz:=Nat.le_trans hsz (Below.size hx)
 clear hx
 clear P0
 clear hr
 have hx:=bel_d0 w1 (.cells #[.bool fx,.slice cx nx kx,.slice dX mx lx] 27)
 replace Gx:=Gx.below hx
 replace hb0:=bel_tr hb0 hx
 replace hsz:=Nat.le_trans hsz (Below.size hx)
 have Vx:=var3_new w1 (.bool fx) (.slice cx nx kx) (.slice dX mx lx) 27
 clear hx
 obtain ⟨e1,G1⟩:=Gx.1.parts
 have hp:=G1.pos.2
 obtain ⟨vxc0,vxc1,vxc2,vxc3,vxc4,vxc5⟩:=id Vx
 clear Gx G1 Vx
 rcases Int.lt_trichotomy r.num 0 with h|h|h
 ·have hn:nx≠0:=by omega
  obtain rfl:fx=true:=by rw [e1];simpa using h
  have HZ:Hid (r.num.sign = -1):=Int.sign_eq_neg_one_of_neg h
  clear e1 hp h
  go_wp2
  go_ret
  exact ⟨by rw [HZ.out];rfl,hb0⟩
 ·obtain rfl:nx=0:=by omega
  have HZ:Hid (r.num.sign=0):=by show _=_;rw [h];rfl
  clear e1 hp h
  go_wp2
  go_ret
  exact ⟨by rw [HZ.out];rfl,hb0⟩
 ·have hn:nx≠0:=by omega
  obtain rfl:fx=false:=by rw [e1];simpa using (by omega:0≤r.num)
  have HZ:Hid (r.num.sign=1):=Int.sign_eq_one_of_pos h
  clear e1 hp h
  go_wp2
  go_ret
  exact ⟨by rw [HZ.out];rfl,hb0⟩
set_option maxHeartbeats 4000000 in
theorem addD {p q:Bool} {a b:Option Addr} {na nb ca cb:Nat} {d e0:Option Addr} {nd ne cd ce:Nat} {r s:Rat} {S R:Nat} (w:World) (hr:TR w p a na ca d nd cd r S) (hs:TR w q b nb cb e0 ne ce s R) (hSR:S+R≤6000000) (hS1:1≤S) (hR1:1≤R) :
  Calls Tryz.prog 69 #[.agg #[.bool p,.slice a na ca,.slice d nd cd],.agg #[.bool q,.slice b nb cb,.slice e0 ne ce]] w fun e w'=>∃ f c n k c' n' k',e = .returned (.agg #[.bool f,.slice c n k,.slice c' n' k'])∧GR w' w.heap.size f c n k c' n' k' (r+s) (S+R+1)∧Below w.heap.size w w':=by
 obtain ⟨P0,P1,R0,hb0,hsz⟩:=box_rrr w (.bool p) (.slice a na ca) (.slice d nd cd) (.bool q) (.slice b nb cb) (.slice e0 ne ce) (.bool false) (.slice none 0 0) (.slice none 0 0) 27
 replace hr:=hr.below hb0
 replace hs:=hs.below hb0
 go_enter Tryz.func69,Tryz.ntmps69
 go_wp2_with fail
 generalize ((w.alloc (.cells #[.bool p,.slice a na ca,.slice d nd cd] 27)).alloc (.cells #[.bool q,.slice b nb cb,.slice e0 ne ce] 27)).alloc (.cells #[.bool false,.slice none 0 0,.slice none 0 0] 27)=W0 at *
 replace hsz:=Nat.le_of_eq hsz.symm
 obtain ⟨p0c0,p0c1,p0c2,p0c3,p0c4,p0c5⟩:=id P0
 refine (normD _ hr (by omega) hS1).mono ?_
 rintro e w1 ⟨fx,cx,nx,kx,dX,mx,lx,rfl,Gx,hx⟩
 replace Gx:=Gx.mono (B':=w.heap.size+3) hsz
 clear p0c0 p0c1 p0c2 p0c3 p0c4 p0c5
 replace hr:=hr.below hx
 replace hs:=hs.below hx
 replace P0:=P0.below hx
 replace P1:=P1.below hx
 replace R0:=R0.below hx
 replace hb0:=bel_tr hb0 hx
 replace hsz:=Nat.le_trans hsz (Below.size hx)
 clear hx
 clear P0
 clear hr
 have hx:=bel_d0 w1 (.cells #[.bool fx,.slice cx nx kx,.slice dX mx lx] 27)
 replace hs:=hs.below hx
 replace Gx:=Gx.below hx
 replace P1:=P1.below hx
 replace R0:=R0.below hx
 replace hb0:=bel_tr hb0 hx
 replace hsz:=Nat.le_trans hsz (Below.size hx)
 have Vx:=var3_new w1 (.bool fx) (.slice cx nx kx) (.slice dX mx lx) 27
 clear hx
 obtain ⟨p1c0,p1c1,p1c2,p1c3,p1c4,p1c5⟩:=id P1
 go_wp2_with fail
 generalize w1.alloc (.cells #[.bool fx,.slice cx nx kx,.slice dX mx lx] 27)=w2 at *
 refine (normD _ hs (by omega) hR1).mono ?_
 rintro e w3 ⟨fy,cy,ny,ky,dy,my,ly,rfl,Gy,hx⟩
 replace Gy:=Gy.mono (B':=w.heap.size+3) hsz
 clear p1c0 p1c1 p1c2 p1c3 p1c4 p1c5
 replace hs:=hs.below hx
 replace Gx:=Gx.below hx
 replace P1:=P1.below hx
 replace R0:=R0.below hx
 replace Vx:=Vx.below hx
 replace hb0:=bel_tr hb0 hx
 replace hsz:=Nat.le_trans hsz (Below.size hx)
 clear hx
 clear P1
 clear hs
 have hx:=bel_d0 w3 (.cells #[.bool fy,.slice cy ny ky,.slice dy my ly] 27)
 replace Gx:=Gx.below hx
 replace Gy:=Gy.below hx
 replace R0:=R0.below hx
 replace Vx:=Vx.below hx
 replace hb0:=bel_tr hb0 hx
 replace hsz:=Nat.le_trans hsz (Below.size hx)
 have Vy:=var3_new w3 (.bool fy) (.slice cy ny ky) (.slice dy my ly) 27
 clear hx
 obtain ⟨vxc0,vxc1,vxc2,vxc3,vxc4,vxc5⟩:=id Vx
 obtain ⟨vyc0,vyc1,vyc2,vyc3,vyc4,vyc5⟩:=id Vy
 go_wp2_with fail
 generalize w3.alloc (.cells #[.bool fy,.slice cy ny ky,.slice dy my ly] 27)=w4 at *
 have LX:=Gx.1.ti.lt
 have LY:=Gy.1.ti.lt
 have DX:=Gx.2.below_pw
 have DY:=Gy.2.below_pw
 have LA:=mul_lt (y:=(s.den:Int)) LX (by simpa using DY)
 have LB:=mul_lt (y:=(r.den:Int)) LY (by simpa using DX)
 rw [Nat.add_comm R S] at LB
 have LC:=add_lt LA LB
 refine (rmulT _ (Gx.1.ti.le (R:=S+R) (by omega)) (Gy.2.ti.le (by omega)) (by omega)).mono ?_
 rintro e w5 ⟨f1,c1,n1,k1,rfl,K1,hx⟩
 replace K1:=K1.mono (B':=w.heap.size+3) hsz
 clear vxc0 vxc1 vxc2 vxc3 vxc4 vxc5 vyc0 vyc1 vyc2 vyc3 vyc4 vyc5
 replace Gx:=Gx.below hx
 replace Gy:=Gy.below hx
 replace R0:=R0.below hx
 replace Vx:=Vx.below hx
 replace Vy:=Vy.below hx
 replace hb0:=bel_tr hb0 hx
 replace hsz:=Nat.le_trans hsz (Below.size hx)
 clear hx
 replace K1:=K1.shrink LA
 obtain ⟨vxc0,vxc1,vxc2,vxc3,vxc4,vxc5⟩:=id Vx
 obtain ⟨vyc0,vyc1,vyc2,vyc3,vyc4,vyc5⟩:=id Vy
 have hx:=bel_d0 w5 (.cells #[.bool f1,.slice c1 n1 k1] 25)
 clear vxc0 vxc1 vxc2 vxc3 vxc4 vxc5 vyc0 vyc1 vyc2 vyc3 vyc4 vyc5
 replace Gx:=Gx.below hx
 replace Gy:=Gy.below hx
 replace K1:=K1.below hx
 replace R0:=R0.below hx
 replace Vx:=Vx.below hx
 replace Vy:=Vy.below hx
 replace hb0:=bel_tr hb0 hx
 replace hsz:=Nat.le_trans hsz (Below.size hx)
 have Vp:=var2_new w5 (.bool f1) (.slice c1 n1 k1) 25
 clear hx
 obtain ⟨vxc0,vxc1,vxc2,vxc3,vxc4,vxc5⟩:=id Vx
 obtain ⟨vyc0,vyc1,vyc2,vyc3,vyc4,vyc5⟩:=id Vy
 go_wp2_with fail
 generalize w5.alloc (.cells #[.bool f1,.slice c1 n1 k1] 25)=w6 at *
 refine (rmulT _ (Gy.1.ti.le (R:=S+R) (by omega)) (Gx.2.ti.le (by omega)) (by omega)).mono ?_
 rintro e w7 ⟨f2,c2,n2,k2,rfl,K2,hx⟩
 replace K2:=K2.mono (B':=w.heap.size+3) hsz
 clear vxc0 vxc1 vxc2 vxc3 vxc4 vxc5 vyc0 vyc1 vyc2 vyc3 vyc4 vyc5
 replace Gx:=Gx.below hx
 replace Gy:=Gy.below hx
 replace K1:=K1.below hx
 replace R0:=R0.below hx
 replace Vx:=Vx.below hx
 replace Vy:=Vy.below hx
 replace Vp:=Vp.below hx
 replace hb0:=bel_tr hb0 hx
 replace hsz:=Nat.le_trans hsz (Below.size hx)
 clear hx
 replace K2:=K2.shrink LB
 obtain ⟨vpc0,vpc1,vpc2,vpc3⟩:=id Vp
 have hx:=bel_d0 w7 (.cells #[.bool f2,.slice c2 n2 k2] 25)
 clear vpc0 vpc1 vpc2 vpc3
 replace Gx:=Gx.below hx
 replace Gy:=Gy.below hx
 replace K1:=K1.below hx
 replace K2:=K2.below hx
 replace R0:=R0.below hx
 replace Vx:=Vx.below hx
 replace Vy:=Vy.below hx
 replace Vp:=Vp.below hx
 replace hb0:=bel_tr hb0 hx
 replace hsz:=Nat.le_trans hsz (Below.size hx)
 have Vq:=var2_new w7 (.bool f2) (.slice c2 n2 k2) 25
 clear hx
 obtain ⟨vpc0,vpc1,vpc2,vpc3⟩:=id Vp
 obtain ⟨vqc0,vqc1,vqc2,vqc3⟩:=id Vq
 go_wp2_with fail
 generalize w7.alloc (.cells #[.bool f2,.slice c2 n2 k2] 25)=w8 at *
 refine (raddT _ K1.ti K2.ti (by omega)).mono ?_
 rintro e w9 ⟨f3,c3,n3,k3,rfl,K3,hx⟩
 replace K3:=K3.mono (B':=w.heap.size+3) hsz
 clear vpc0 vpc1 vpc2 vpc3 vqc0 vqc1 vqc2 vqc3
 replace Gx:=Gx.below hx
 replace Gy:=Gy.below hx
 replace K1:=K1.below hx
 replace K2:=K2.below hx
 replace R0:=R0.below hx
 replace Vx:=Vx.below hx
 replace Vy:=Vy.below hx
 replace Vp:=Vp.below hx
 replace Vq:=Vq.below hx
 replace hb0:=bel_tr hb0 hx
 replace hsz:=Nat.le_trans hsz (Below.size hx)
 clear hx
 replace K3:=K3.shrink LC
 obtain ⟨vxc0,vxc1,vxc2,vxc3,vxc4,vxc5⟩:=id Vx
 obtain ⟨vyc0,vyc1,vyc2,vyc3,vyc4,vyc5⟩:=id Vy
 clear K1
 clear K2
 clear Vp
 clear Vq
 have hx:=bel_d0 w9 (.cells #[.bool f3,.slice c3 n3 k3] 25)
 clear vxc0 vxc1 vxc2 vxc3 vxc4 vxc5 vyc0 vyc1 vyc2 vyc3 vyc4 vyc5
 replace Gx:=Gx.below hx
 replace Gy:=Gy.below hx
 replace K3:=K3.below hx
 replace R0:=R0.below hx
 replace Vx:=Vx.below hx
 replace Vy:=Vy.below hx
 replace hb0:=bel_tr hb0 hx
 replace hsz:=Nat.le_trans hsz (Below.size hx)
 have Vn:=var2_new w9 (.bool f3) (.slice c3 n3 k3) 25
 clear hx
 obtain ⟨vxc0,vxc1,vxc2,vxc3,vxc4,vxc5⟩:=id Vx
 obtain ⟨vyc0,vyc1,vyc2,vyc3,vyc4,vyc5⟩:=id Vy
 go_wp2_with fail
 generalize w9.alloc (.cells #[.bool f3,.slice c3 n3 k3] 25)=w10 at *
 refine (rmulV _ (Gx.2.num.up (R:=S+R) (by omega)) (Gy.2.num.up (by omega)) (by omega)).mono ?_
 rintro e w11 ⟨c4,n4,k4,rfl,G4,hx⟩
 replace G4:=G4.mono (B':=w.heap.size+3) hsz
 clear vxc0 vxc1 vxc2 vxc3 vxc4 vxc5 vyc0 vyc1 vyc2 vyc3 vyc4 vyc5
 replace Gx:=Gx.below hx
 replace Gy:=Gy.below hx
 replace K3:=K3.below hx
 replace R0:=R0.below hx
 replace Vx:=Vx.below hx
 replace Vy:=Vy.below hx
 replace Vn:=Vn.below hx
 replace hb0:=bel_tr hb0 hx
 replace hsz:=Nat.le_trans hsz (Below.size hx)
 clear hx
 replace G4:=G4.shrink (dd_lt DX DY)
 obtain ⟨vnc0,vnc1,vnc2,vnc3⟩:=id Vn
 have hF:TR w11 f3 c3 n3 k3 c4 n4 k4 (r+s) (S+R+1):=⟨_,_,K3.ti,G4.num.up (by omega),q_add r s⟩
 clear K3
 clear G4
 clear Gx
 clear Gy
 clear Vx
 clear Vy
 clear LX LY DX DY LA LB LC
 go_wp2_with fail
 refine (normD _ hF (by omega) (by omega)).mono ?_
 rintro e w12 ⟨f5,c5,n5,k5,d5,m5,l5,rfl,G5,hx⟩
 replace G5:=G5.mono (B':=w.heap.size+3) hsz
 clear vnc0 vnc1 vnc2 vnc3
 replace hF:=hF.below hx
 replace R0:=R0.below hx
 replace Vn:=Vn.below hx
 replace hb0:=bel_tr hb0 hx
 replace hsz:=Nat.le_trans hsz (Below.size hx)
 clear hx
 clear hF
 clear Vn
 obtain ⟨r0c0,r0c1,r0c2,r0c3,r0c4,r0c5⟩:=id R0
 obtain ⟨V,OO⟩:=R0.set (.bool f5) (.slice c5 n5 k5) (.slice d5 m5 l5)
 have hw:=hb0.trans (OO.below (B:=w.heap.size) (by omega))
 have GF:=G5.off OO (by omega)
 clear G5
 clear R0 OO hb0
 go_wp2
 refine bodyPost_ret (v:=.agg #[.bool f5,.slice c5 n5 k5,.slice d5 m5 l5]) (by simp [results,Tryz.results69,go_sem,V.c0,V.c1,V.c2]) rfl ⟨_,_,_,_,_,_,_,rfl,GF.mono (by omega),hw⟩
set_option maxHeartbeats 4000000 in
theorem subD {p q:Bool} {a b:Option Addr} {na nb ca cb:Nat} {d e0:Option Addr} {nd ne cd ce:Nat} {r s:Rat} {S R:Nat} (w:World) (hr:TR w p a na ca d nd cd r S) (hs:TR w q b nb cb e0 ne ce s R) (hSR:S+R≤6000000) (hS1:1≤S) (hR1:1≤R) :
  Calls Tryz.prog 52 #[.agg #[.bool p,.slice a na ca,.slice d nd cd],.agg #[.bool q,.slice b nb cb,.slice e0 ne ce]] w fun e w'=>∃ f c n k c' n' k',e = .returned (.agg #[.bool f,.slice c n k,.slice c' n' k'])∧GR w' w.heap.size f c n k c' n' k' (r-s) (S+R+1)∧Below w.heap.size w w':=by
 obtain ⟨P0,P1,R0,hb0,hsz⟩:=box_rrr w (.bool p) (.slice a na ca) (.slice d nd cd) (.bool q) (.slice b nb cb) (.slice e0 ne ce) (.bool false) (.slice none 0 0) (.slice none 0 0) 27
 replace hr:=hr.below hb0
 replace hs:=hs.below hb0
 go_enter Tryz.func52,Tryz.ntmps52
 go_wp2_with fail
 generalize ((w.alloc (.cells #[.bool p,.slice a na ca,.slice d nd cd] 27)).alloc (.cells #[.bool q,.slice b nb cb,.slice e0 ne ce] 27)).alloc (.cells #[.bool false,.slice none 0 0,.slice none 0 0] 27)=W0 at *
 replace hsz:=Nat.le_of_eq hsz.symm
 obtain ⟨p1c0,p1c1,p1c2,p1c3,p1c4,p1c5⟩:=id P1
 refine (negD _ hs (by omega) hR1).mono ?_
 rintro e w1 ⟨fy,cy,ny,ky,dy,my,ly,rfl,Gy,hx⟩
 replace Gy:=Gy.mono (B':=w.heap.size+3) hsz
 clear p1c0 p1c1 p1c2 p1c3 p1c4 p1c5
 replace hr:=hr.below hx
 replace hs:=hs.below hx
 replace P0:=P0.below hx
 replace P1:=P1.below hx
 replace R0:=R0.below hx
 replace hb0:=bel_tr hb0 hx
 replace hsz:=Nat.le_trans hsz (Below.size hx)
 clear hx
 obtain ⟨p0c0,p0c1,p0c2,p0c3,p0c4,p0c5⟩:=id P0
 clear P1
 clear hs
 have hx:=bel_d0 w1 (.cells #[.bool fy,.slice cy ny ky,.slice dy my ly] 27)
 clear p0c0 p0c1 p0c2 p0c3 p0c4 p0c5
 replace hr:=hr.below hx
 replace Gy:=Gy.below hx
 replace P0:=P0.below hx
 replace R0:=R0.below hx
 replace hb0:=bel_tr hb0 hx
 replace hsz:=Nat.le_trans hsz (Below.size hx)
 have Vy:=var3_new w1 (.bool fy) (.slice cy ny ky) (.slice dy my ly) 27
 clear hx
 obtain ⟨p0c0,p0c1,p0c2,p0c3,p0c4,p0c5⟩:=id P0
 obtain ⟨vyc0,vyc1,vyc2,vyc3,vyc4,vyc5⟩:=id Vy
 go_wp2_with fail
 generalize w1.alloc (.cells #[.bool fy,.slice cy ny ky,.slice dy my ly] 27)=w2 at *
 refine (addD _ hr Gy.tr (by omega) (by omega) (by omega)).mono ?_
 rintro e w3 ⟨f5,c5,n5,k5,d5,m5,l5,rfl,G5,hx⟩
 replace G5:=G5.mono (B':=w.heap.size+3) hsz
 clear p0c0 p0c1 p0c2 p0c3 p0c4 p0c5 vyc0 vyc1 vyc2 vyc3 vyc4 vyc5
 replace hr:=hr.below hx
 replace Gy:=Gy.below hx
 replace P0:=P0.below hx
 replace R0:=R0.below hx
 replace Vy:=Vy.below hx
 replace hb0:=bel_tr hb0 hx
 replace hsz:=Nat.le_trans hsz (Below.size hx)
 clear hx
 clear hr
 clear Gy
 clear P0
 clear Vy
 obtain ⟨r0c0,r0c1,r0c2,r0c3,r0c4,r0c5⟩:=id R0
 obtain ⟨V,OO⟩:=R0.set (.bool f5) (.slice c5 n5 k5) (.slice d5 m5 l5)
 have hw:=hb0.trans (OO.below (B:=w.heap.size) (by omega))
 have GF:=(G5.val ((Rat.sub_eq_add_neg r s).symm)).off OO (by omega)
 clear G5
 clear R0 OO hb0
 go_wp2
 refine bodyPost_ret (v:=.agg #[.bool f5,.slice c5 n5 k5,.slice d5 m5 l5]) (by simp [results,Tryz.results52,go_sem,V.c0,V.c1,V.c2]) rfl ⟨_,_,_,_,_,_,_,rfl,GF.mono (by omega),hw⟩
theorem signB (t:Int) {p:Bool} {a:Option Addr} {na ca:Nat} {d:Option Addr} {nd cd:Nat} {r:Rat} {S:Nat} (w:World) (hr:TR w p a na ca d nd cd r S) (hS:S≤7000000) (hS1:1≤S) (ht:t=r.num.sign) :
  Calls Tryz.prog 53 #[.agg #[.bool p,.slice a na ca,.slice d nd cd]] w fun e w'=>e = .returned (.int .i64 t)∧Below w.heap.size w w':=by
 rw [ht];exact signD w hr hS hS1
set_option maxHeartbeats 4000000 in
theorem cmpD (t:Int) {p q:Bool} {a b:Option Addr} {na nb ca cb:Nat} {d e0:Option Addr} {nd ne cd ce:Nat} {r s:Rat} {S R:Nat} (w:World) (hr:TR w p a na ca d nd cd r S) (hs:TR w q b nb cb e0 ne ce s R) (hSR:S+R≤6000000) (hS1:1≤S) (hR1:1≤R) (ht:t=cs r s) :
  Calls Tryz.prog 38 #[.agg #[.bool p,.slice a na ca,.slice d nd cd],.agg #[.bool q,.slice b nb cb,.slice e0 ne ce]] w fun e w'=>e = .returned (.int .i64 t)∧Below w.heap.size w w':=by
 obtain ⟨P0,P1,hb0,hsz⟩:=box_rr w (.bool p) (.slice a na ca) (.slice d nd cd) (.bool q) (.slice b nb cb) (.slice e0 ne ce) 27
 replace hr:=hr.below hb0
 replace hs:=hs.below hb0
 go_enter Tryz.func38,Tryz.ntmps38
 go_wp2_with fail
 generalize (w.alloc (.cells #[.bool p,.slice a na ca,.slice d nd cd] 27)).alloc (.cells #[.bool q,.slice b nb cb,.slice e0 ne ce] 27)=W0 at *
 replace hsz:=Nat.le_of_eq hsz.symm
 obtain ⟨p0c0,p0c1,p0c2,p0c3,p0c4,p0c5⟩:=id P0
 obtain ⟨p1c0,p1c1,p1c2,p1c3,p1c4,p1c5⟩:=id P1
 refine (subD _ hr hs (by omega) hS1 hR1).mono ?_
 rintro e w1 ⟨fx,cx,nx,kx,dX,mx,lx,rfl,Gx,hx⟩
 replace Gx:=Gx.mono (B':=w.heap.size+2) hsz
 clear p0c0 p0c1 p0c2 p0c3 p0c4 p0c5 p1c0 p1c1 p1c2 p1c3 p1c4 p1c5
 replace hr:=hr.below hx
 replace hs:=hs.below hx
 replace P0:=P0.below hx
 replace P1:=P1.below hx
 replace hb0:=bel_tr hb0 hx
 replace hsz:=Nat.le_trans hsz (Below.size hx)
 clear hx
 clear P0
 clear P1
 clear hr
 clear hs
 have hx:=bel_d0 w1 (.cells #[.bool fx,.slice cx nx kx,.slice dX mx lx] 27)
 replace Gx:=Gx.below hx
 replace hb0:=bel_tr hb0 hx
 replace hsz:=Nat.le_trans hsz (Below.size hx)
 have Vx:=var3_new w1 (.bool fx) (.slice cx nx kx) (.slice dX mx lx) 27
 clear hx
 obtain ⟨vxc0,vxc1,vxc2,vxc3,vxc4,vxc5⟩:=id Vx
 go_wp2_with fail
 generalize w1.alloc (.cells #[.bool fx,.slice cx nx kx,.slice dX mx lx] 27)=w2 at *
 refine (signB t _ Gx.tr (by omega) (by omega) (by rw [ht,cs_sub])).mono ?_
 rintro e w3 ⟨rfl,hx⟩
 clear vxc0 vxc1 vxc2 vxc3 vxc4 vxc5
 replace Gx:=Gx.below hx
 replace Vx:=Vx.below hx
 replace hb0:=bel_tr hb0 hx
 replace hsz:=Nat.le_trans hsz (Below.size hx)
 clear hx
 go_wp2
 go_ret
 exact ⟨by first|rfl|(rw [ht];rfl),hb0⟩
end Go.Proofs.YtceigfafmalfgaaGreatDoor
