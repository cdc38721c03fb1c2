import Derived.Test.YtmeimjakdheidaaGreatDoorShR0All
namespace Go.Proofs.YtmeimjakdheidaaGreatDoor
open Go.RowKit
def awV:PV:={ nm:=⟨#[]⟩,obj:=((1:Int):Rat),hlo:=false,lo:=0,hhi:=true,hi:=((5:Int):Rat),whole:=false }
def awR:PW:={ nm:=⟨#[]⟩,nt:=1,t:=fun _=>⟨0,((1:Int):Rat)⟩,hlo:=true,lo:=((-1:Int):Rat),hhi:=true,hi:=((3:Int):Rat) }
def awP (va ra:Option Addr):Prob :=
 { mx:=true,nm:=⟨#[]⟩,p:=false,a:=none,na:=0,ca:=0,d:=none,nd:=0,cd:=0,va:=va,vn:=1,vc:=1,ra:=ra,rn:=1,rc:=1,k:=0,V:=fun _=>awV,ZV:=fun _=>1,R:=fun _=>awR,ZR:=fun _=>3,S:=1,K:=9 }
theorem zV (v:Int) (h:(v.natAbs:Int)<18446744073709551616):SzR (v:Rat) 1:=by
 have e:pw 1=18446744073709551616:=rfl
 exact ⟨by rw [e];exact h,by rw [e];show ((1:Nat):Int)<_;decide⟩
theorem aw_row {va ra:Option Addr} {Q:Prob} (h:Tid (awP va ra) Q):(Q.R 0).nt=1∧(Q.R 0).t 0=⟨0,((1:Int):Rat)⟩∧(Q.R 0).hlo=true∧(Q.R 0).lo=((-1:Int):Rat)∧(Q.R 0).hhi=true∧(Q.R 0).hi=((3:Int):Rat):=by
 obtain ⟨_,h1,h2,h3,h4,g⟩:=h.R 0 (show 0<1 by decide)
 have hg:dW (fun _=>(⟨0,((1:Int):Rat)⟩:PT)) 1 0=((1:Int):Rat):=by
  show (0:Rat)+(if (0:Int)=0 then ((1:Int):Rat) else 0)=_
  rw [if_pos rfl,Rat.zero_add]
 obtain ⟨i,hi,hv⟩:=g.all 0 (by decide) (show (0:Int)<((1:Nat):Int) by decide) (by
  show dW (fun _=>(⟨0,((1:Int):Rat)⟩:PT)) 1 0≠0
  rw [hg]
  decide)
 have hz:∀ k,k<(Q.R 0).nt→((Q.R 0).t k).var=0:=fun k hk=>by
  have:=g.lt k hk
  have e:((awP va ra).vn:Int)=1:=rfl
  omega
 have hm:(Q.R 0).nt=1:=by
  rcases (by omega:(Q.R 0).nt=1∨1<(Q.R 0).nt) with e|e
  ·exact e
  ·have h5:=g.up 0 1 (by decide) e
   rw [hz 0 (by omega),hz 1 e] at h5
   omega
 have hc:=(g.co 0 (by omega)).1
 have hv0:=hz 0 (by omega)
 rw [hv0] at hc
 refine ⟨hm,?_,h1,h2,h3,h4⟩
 have hc2:((Q.R 0).t 0).coef=((1:Int):Rat):=hc.trans hg
 cases e:(Q.R 0).t 0 with
 | mk v c =>
  rw [e] at hv0 hc2
  simp only at hv0 hc2
  rw [hv0,hc2]
theorem aw_V {va ra:Option Addr} {Q:Prob} (h:Tid (awP va ra) Q) (j:Nat):Q.V j=awV:=by
 rw [h.V j]
 rfl
theorem aw_eqs {va ra:Option Addr} {Q:Prob} (h:Tid (awP va ra) Q):bM Q=([⟨[⟨0,-((1:Int):Rat)⟩,⟨1,-1⟩],((-6:Int):Rat)⟩,⟨[⟨1,1⟩,⟨2,1⟩],((4:Int):Rat)⟩],3):=by
 have hV:Q.V=fun _=>awV:=funext (aw_V h)
 obtain ⟨h1,h2,h3,h4,h5,h6⟩:=aw_row h
 have hvn:Q.vn=1:=h.vn
 have hrn:Q.rn=1:=h.rn
 have hst:cv (Q.R 0) (fun j=>vbs (Q.V j)) Q.vn=((5:Int):Rat):=by
  unfold cv
  rw [h1,hvn]
  show (0:Rat)+tv (Q.R 0) _ 1 0=_
  unfold tv
  rw [h2,if_pos (by decide),hV]
  kernel_rfl
 have hT:rowT Q.V (Q.R 0).t 1=[⟨0,-((1:Int):Rat)⟩]:=by
  show []++spl (Q.V ((Q.R 0).t 0).var.toNat) (clm Q.V ((Q.R 0).t 0).var.toNat) ((Q.R 0).t 0).coef=_
  rw [h2,hV]
  rfl
 have hE:dD Q.V (Q.R 0) ((5:Int):Rat) 1=([⟨[⟨0,-((1:Int):Rat)⟩,⟨1,-1⟩],((-6:Int):Rat)⟩,⟨[⟨1,1⟩,⟨2,1⟩],((4:Int):Rat)⟩],3):=by
  unfold dD
  rw [h3,h5,h1,hT,h4,h6]
  simp only [if_true]
  rw [show ((-1:Int):Rat)-((5:Int):Rat)=((-6:Int):Rat) by kernel_rfl,show ((3:Int):Rat)-((5:Int):Rat)=((-2:Int):Rat) by kernel_rfl,if_neg (fun e=>absurd (Rat.intCast_inj.1 e) (by decide)),show ((-2:Int):Rat)-((-6:Int):Rat)=((4:Int):Rat) by kernel_rfl]
  rfl
 unfold bM
 rw [hvn] at hst
 rw [hvn,hrn]
 show (if (Q.V 0).hlo && (Q.V 0).hhi then _ else bC _ _ _ _ _)=_
 rw [aw_V h 0]
 show ([]++(dD Q.V (Q.R 0) (cv (Q.R 0) (fun j=>vbs (Q.V j)) 1) (clm Q.V 1)).1,(dD Q.V (Q.R 0) (cv (Q.R 0) (fun j=>vbs (Q.V j)) 1) (clm Q.V 1)).2)=_
 rw [hst,show clm Q.V 1=1 by rw [hV];rfl,hE]
 rfl
theorem aw_cost {va ra:Option Addr} {Q:Prob} (h:Tid (awP va ra) Q):bV (cstQ Q) 0=((1:Int):Rat)∧kQ Q=((-5:Int):Rat)∧∀ Y,ptv (Q.V 0) (clm Q.V 0) Y=((5:Int):Rat)-Y 0:=by
 have hV:Q.V=fun _=>awV:=funext (aw_V h)
 have hvn:Q.vn=1:=h.vn
 have hmx:Q.mx=true:=h.mx
 have hk:Q.k=0:=h.k
 refine ⟨?_,?_,fun Y=>?_⟩
 ·unfold cstQ
  rw [hV,hvn,hmx]
  decide
 ·unfold kQ
  rw [hV,hvn,hmx,hk]
  kernel_rfl
 ·rw [hV]
  rfl
set_option maxRecDepth 100000 in
set_option maxHeartbeats 32000000 in
theorem awake10 (w:World) (hT:TB w):Calls Tryz.prog 5 #[] w fun e w'=>e = .returned (.bool true)∧Below w.heap.size w w':=by
 go_enter Tryz.func5,Tryz.ntmps5
 go_wp2_with fail
 refine (jI (1) w (by decide) (by decide)).mono ?_
 rintro e w1 ⟨f1,c1,n1,k1,d1,m1,l1,rfl,G1,hx⟩
 replace G1:=G1.mono (B':=0) (Nat.zero_le _)
 have hb:=hx
 have hsz1:=hx.size
 clear hx
 go_wp2_with fail
 refine (jI (5) w1 (by decide) (by decide)).mono ?_
 rintro e w2 ⟨f2,c2,n2,k2,d2,m2,l2,rfl,G2,hx⟩
 replace G2:=G2.mono (B':=0) (Nat.zero_le _)
 replace hb:=aF hb hx
 have hsz2:=hx.size
 replace G1:=G1.below hx
 clear hx
 go_wp2_with fail
 have hx:=aI w2 (.cells #[.string ⟨#[]⟩,.bool f1,.slice c1 n1 k1,.slice d1 m1 l1,.bool false,.bool false,.slice none 0 0,.slice none 0 0,.bool true,.bool f2,.slice c2 n2 k2,.slice d2 m2 l2,.bool false] 50)
 have BV:=aQ w2 #[.string ⟨#[]⟩,.bool f1,.slice c1 n1 k1,.slice d1 m1 l1,.bool false,.bool false,.slice none 0 0,.slice none 0 0,.bool true,.bool f2,.slice c2 n2 k2,.slice d2 m2 l2,.bool false] 50
 have hsBV:(w2.alloc (.cells #[.string ⟨#[]⟩,.bool f1,.slice c1 n1 k1,.slice d1 m1 l1,.bool false,.bool false,.slice none 0 0,.slice none 0 0,.bool true,.bool f2,.slice c2 n2 k2,.slice d2 m2 l2,.bool false] 50)).heap.size=w2.heap.size+1:=by simp
 replace hb:=aF hb hx
 replace G1:=G1.below hx
 replace G2:=G2.below hx
 clear hx
 generalize w2.alloc (.cells #[.string ⟨#[]⟩,.bool f1,.slice c1 n1 k1,.slice d1 m1 l1,.bool false,.bool false,.slice none 0 0,.slice none 0 0,.bool true,.bool f2,.slice c2 n2 k2,.slice d2 m2 l2,.bool false] 50)=wV at *
 refine (jI (1) wV (by decide) (by decide)).mono ?_
 rintro e w3 ⟨f3,c3,n3,k3,d3,m3,l3,rfl,G3,hx⟩
 replace G3:=G3.mono (B':=0) (Nat.zero_le _)
 replace hb:=aF hb hx
 have hsz3:=hx.size
 replace G1:=G1.below hx
 replace G2:=G2.below hx
 replace BV:=BV.below hx
 clear hx
 go_wp2_with fail
 have hx:=aI w3 (.cells #[.int .i64 0,.bool f3,.slice c3 n3 k3,.slice d3 m3 l3] 52)
 have BT:=aQ w3 #[.int .i64 0,.bool f3,.slice c3 n3 k3,.slice d3 m3 l3] 52
 have hsBT:(w3.alloc (.cells #[.int .i64 0,.bool f3,.slice c3 n3 k3,.slice d3 m3 l3] 52)).heap.size=w3.heap.size+1:=by simp
 replace hb:=aF hb hx
 replace G1:=G1.below hx
 replace G2:=G2.below hx
 replace BV:=BV.below hx
 replace G3:=G3.below hx
 clear hx
 generalize w3.alloc (.cells #[.int .i64 0,.bool f3,.slice c3 n3 k3,.slice d3 m3 l3] 52)=wT at *
 refine (jI (-1) wT (by decide) (by decide)).mono ?_
 rintro e w4 ⟨f4,c4,n4,k4,d4,m4,l4,rfl,G4,hx⟩
 replace G4:=G4.mono (B':=0) (Nat.zero_le _)
 replace hb:=aF hb hx
 have hsz4:=hx.size
 replace G1:=G1.below hx
 replace G2:=G2.below hx
 replace BV:=BV.below hx
 replace G3:=G3.below hx
 replace BT:=BT.below hx
 clear hx
 go_wp2_with fail
 refine (jI (3) w4 (by decide) (by decide)).mono ?_
 rintro e w5 ⟨f5,c5,n5,k5,d5,m5,l5,rfl,G5,hx⟩
 replace G5:=G5.mono (B':=0) (Nat.zero_le _)
 replace hb:=aF hb hx
 have hsz5:=hx.size
 replace G1:=G1.below hx
 replace G2:=G2.below hx
 replace BV:=BV.below hx
 replace G3:=G3.below hx
 replace BT:=BT.below hx
 replace G4:=G4.below hx
 clear hx
 go_wp2_with fail
 have hx:=aI w5 (.cells #[.string ⟨#[]⟩,.slice (some ⟨w3.heap.size,0,none⟩) 1 1,.bool true,.bool f4,.slice c4 n4 k4,.slice d4 m4 l4,.bool true,.bool f5,.slice c5 n5 k5,.slice d5 m5 l5] 55)
 have BR:=aQ w5 #[.string ⟨#[]⟩,.slice (some ⟨w3.heap.size,0,none⟩) 1 1,.bool true,.bool f4,.slice c4 n4 k4,.slice d4 m4 l4,.bool true,.bool f5,.slice c5 n5 k5,.slice d5 m5 l5] 55
 have hsBR:(w5.alloc (.cells #[.string ⟨#[]⟩,.slice (some ⟨w3.heap.size,0,none⟩) 1 1,.bool true,.bool f4,.slice c4 n4 k4,.slice d4 m4 l4,.bool true,.bool f5,.slice c5 n5 k5,.slice d5 m5 l5] 55)).heap.size=w5.heap.size+1:=by simp
 replace hb:=aF hb hx
 replace G1:=G1.below hx
 replace G2:=G2.below hx
 replace BV:=BV.below hx
 replace G3:=G3.below hx
 replace BT:=BT.below hx
 replace G4:=G4.below hx
 replace G5:=G5.below hx
 clear hx
 generalize w5.alloc (.cells #[.string ⟨#[]⟩,.slice (some ⟨w3.heap.size,0,none⟩) 1 1,.bool true,.bool f4,.slice c4 n4 k4,.slice d4 m4 l4,.bool true,.bool f5,.slice c5 n5 k5,.slice d5 m5 l5] 55)=wR at *
 have PQR:PQ wR (awP (some ⟨w2.heap.size,0,none⟩) (some ⟨w5.heap.size,0,none⟩)):=by
  refine ⟨tr_nil wR,Nat.le_refl _,kE (Nat.le_refl _),.inr ⟨w2.heap.size,0,rfl,fun j hj=>?_⟩,.inr ⟨w5.heap.size,0,rfl,fun j hj=>?_⟩,by show 1+3+5+(⟨#[]⟩:ByteArray).size≤9;decide,Nat.le_refl _,Nat.le_refl _⟩
  ·obtain rfl:j=0:=by show j=0;have:j<1:=hj;omega
   exact ⟨BV 0 _ rfl,⟨_,_,_,_,_,_,_,BV 1 _ rfl,BV 2 _ rfl,BV 3 _ rfl,G1.tr⟩,BV 4 _ rfl,⟨_,_,_,_,_,_,_,BV 5 _ rfl,BV 6 _ rfl,BV 7 _ rfl,tr_nil wR⟩,BV 8 _ rfl,⟨_,_,_,_,_,_,_,BV 9 _ rfl,BV 10 _ rfl,BV 11 _ rfl,G2.tr⟩,BV 12 _ rfl,Nat.le_refl _,zV 1 (by decide),kE (Nat.le_refl _),zV 5 (by decide),(show 0≤1 by decide)⟩
  ·obtain rfl:j=0:=by show j=0;have:j<1:=hj;omega
   refine ⟨BR 0 _ rfl,⟨some ⟨w3.heap.size,0,none⟩,1,fun _=>1,BR 1 _ rfl,.inr ⟨w3.heap.size,0,rfl,fun q hq=>?_⟩,by show 3≤3;decide,Nat.le_refl _⟩,BR 2 _ rfl,⟨_,_,_,_,_,_,_,BR 3 _ rfl,BR 4 _ rfl,BR 5 _ rfl,G4.tr.up (show 1≤3 by decide)⟩,BR 6 _ rfl,⟨_,_,_,_,_,_,_,BR 7 _ rfl,BR 8 _ rfl,BR 9 _ rfl,G5.tr.up (show 1≤3 by decide)⟩,(show 1≤3 by decide),(zV (-1) (by decide)).le (show 1≤3 by decide),(zV 3 (by decide)).le (show 1≤3 by decide),(show 0≤3 by decide)⟩
   obtain rfl:q=0:=by show q=0;have:q<1:=hq;omega
   exact ⟨BT 0 _ rfl,⟨_,_,_,_,_,_,_,BT 1 _ rfl,BT 2 _ rfl,BT 3 _ rfl,G3.tr⟩,Nat.le_refl _,zV 1 (by decide),(show (-9223372036854775808:Int)≤0 by decide),(show (0:Int)≤9223372036854775807 by decide)⟩
 have hx:=aI wR (.cells #[.bool true,.string ⟨#[]⟩,.bool false,.slice none 0 0,.slice none 0 0,.slice (some ⟨w2.heap.size,0,none⟩) 1 1,.slice (some ⟨w5.heap.size,0,none⟩) 1 1] 31)
 have PQP:=PQR.below hx
 have hbP:=aF hb hx
 have BP:=aQ wR #[.bool true,.string ⟨#[]⟩,.bool false,.slice none 0 0,.slice none 0 0,.slice (some ⟨w2.heap.size,0,none⟩) 1 1,.slice (some ⟨w5.heap.size,0,none⟩) 1 1] 31
 have y0:=BP 0 _ rfl;have y1:=BP 1 _ rfl;have y2:=BP 2 _ rfl;have y3:=BP 3 _ rfl;have y4:=BP 4 _ rfl;have y5:=BP 5 _ rfl;have y6:=BP 6 _ rfl
 go_wp2_with fail
 clear y0 y1 y2 y3 y4 y5 y6 BP hx hb PQR G1 G2 G3 G4 G5 BV BT BR
 generalize wR.alloc (.cells #[.bool true,.string ⟨#[]⟩,.bool false,.slice none 0 0,.slice none 0 0,.slice (some ⟨w2.heap.size,0,none⟩) 1 1,.slice (some ⟨w5.heap.size,0,none⟩) 1 1] 31)=wP at *
 obtain ⟨va,eva⟩:∃ v,v=(some ⟨w2.heap.size,0,none⟩:Option Addr):=⟨_,rfl⟩
 obtain ⟨ra,era⟩:∃ v,v=(some ⟨w5.heap.size,0,none⟩:Option Addr):=⟨_,rfl⟩
 rw [← eva,← era] at PQP ⊢
 clear eva era
 have HMK:=shapeQ (awP va ra) wP PQP (by show 9≤1048576;decide) (hT.below hbP)
 refine HMK.mono ?_
 clear HMK
 rintro e s3 ⟨R,rfl,Q,TID,PQ3,SH3,h3⟩
 have hb3:=aF hbP h3
 have hKQ:Q.K=9:=TID.K
 have hKQ1:Q.K≤1048576:=by omega
 have hvn:Q.vn=1:=TID.vn
 have HEQ:=aw_eqs TID
 obtain ⟨HC1,HK1,HP1⟩:=aw_cost TID
 have HST:=zH s3 SH3 PQ3 hKQ1 TID.eqs (hT.below hb3)
 rw [HEQ,hKQ,HK1] at HST
 have HPT:∀ w4,Below s3.heap.size s3 w4→∀ (xa:Option Addr) (xc:Nat) (X:Nat→Rat),LQ w4 xa 3 X (fun _=>1)→Calls Tryz.prog 9 #[.pointer (some ⟨R,0,none⟩),.slice xa 3 xc] w4 fun e w'=>∃ a cap,e = .returned (.slice a 1 cap)∧RL w' w4.heap.size (.slice a 1 cap) 1 (fun _=>((5:Int):Rat)-X 0) 24∧Below w4.heap.size w4 w':=fun w4 h xa xc X hx=>by
  refine (ptShape (xc:=xc) (T:=1) w4 (SH3.below h) (PQ3.below h) hKQ1 hx (by decide) (by decide) (hT.below (aF hb3 h))).mono ?_
  rintro e w' ⟨a,cap,rfl,L,hb⟩
  rw [hvn,hKQ] at L
  refine ⟨a,cap,by rw [hvn],L.congr (fun i hi=>?_),hb⟩
  obtain rfl:i=0:=by omega
  rw [HP1]
  rfl
 have HC1':Hid (bV (cstQ Q) 0=((1:Int):Rat)):=HC1
 clear HEQ HK1 HP1 HC1 TID PQ3 SH3 PQP hbP h3 hvn hKQ hKQ1
 go_wp2_with fail
 refine HST.mono ?_
 clear HST
 rintro e s4 ⟨aA,cA,aB,cB,gC,fK,cK,nK,kK,dK,mK,lK,rfl,AL4,BL4,RC4,GK4,h4⟩
 obtain ⟨EA,SLA,hAL⟩:=AL4
 rcases SLA.cell with h0|⟨gA,hgA,hcA⟩
 ·exact absurd h0 (by decide)
 obtain ⟨g0,e0,_,RL0⟩:=hAL 0 _ rfl
 obtain ⟨g1,e1,_,RL1⟩:=hAL 1 _ rfl
 have A0:=hcA 0 (by decide) 0 (.slice (some ⟨g0,0,none⟩) 3 3) (by rw [e0];rfl)
 have A1:=hcA 1 (by decide) 0 (.slice (some ⟨g1,0,none⟩) 3 3) (by rw [e1];rfl)
 obtain ⟨g0',pa,aa,na,ca,da,nda,cda,eg0,a0,a1,a2,GA⟩:=RL0.at (i:=0) (by decide)
 obtain rfl:g0=g0':=by simpa using eg0
 obtain ⟨gB,pb,ab,nb,cb,db,ndb,cdb,egB,b0,b1,b2,GB⟩:=BL4.at (i:=0) (by decide)
 obtain ⟨gB',pe,ae,ne,ce,de,nde,cde,egB',b3,b4,b5,GE⟩:=BL4.at (i:=1) (by decide)
 obtain rfl:gB=gB':=by rw [egB] at egB';simpa using egB'
 obtain ⟨gC',pc,ac,nc,cc,dc,ndc,cdc,egC,c0,c1,c2,GC⟩:=RC4.at (i:=0) (by decide)
 obtain rfl:gC=gC':=by simpa using egC
 subst hgA egB
 have hb4:=aF hb3 h4
 have hb34:Below s3.heap.size s3 s4:=h4
 have hx:=aI s4 (.cells #[.slice (some ⟨gA,0,none⟩) 2 cA,.slice (some ⟨gB,0,none⟩) 2 cB,.slice (some ⟨gC,0,none⟩) 3 3,.bool fK,.slice cK nK kK,.slice dK mK lK] 39)
 have BD:=aQ s4 #[.slice (some ⟨gA,0,none⟩) 2 cA,.slice (some ⟨gB,0,none⟩) 2 cB,.slice (some ⟨gC,0,none⟩) 3 3,.bool fK,.slice cK nK kK,.slice dK mK lK] 39
 have hsD:(s4.alloc (.cells #[.slice (some ⟨gA,0,none⟩) 2 cA,.slice (some ⟨gB,0,none⟩) 2 cB,.slice (some ⟨gC,0,none⟩) 3 3,.bool fK,.slice cK nK kK,.slice dK mK lK] 39)).heap.size=s4.heap.size+1:=by simp
 replace A0:=aG hx A0
 replace A1:=aG hx A1
 replace a0:=aG hx a0
 replace a1:=aG hx a1
 replace a2:=aG hx a2
 replace b0:=aG hx b0
 replace b1:=aG hx b1
 replace b2:=aG hx b2
 replace b3:=aG hx b3
 replace b4:=aG hx b4
 replace b5:=aG hx b5
 replace c0:=aG hx c0
 replace c1:=aG hx c1
 replace c2:=aG hx c2
 replace GA:=GA.below hx
 replace GB:=GB.below hx
 replace GE:=GE.below hx
 replace GC:=GC.below hx
 replace GK4:=GK4.below hx
 have hb5:=aF hb4 hx
 have hb35:=aF hb34 hx
 have y0:=BD 0 _ rfl;have y1:=BD 1 _ rfl;have y2:=BD 2 _ rfl;have y3:=BD 3 _ rfl;have y4:=BD 4 _ rfl;have y5:=BD 5 _ rfl
 simp only [Nat.zero_mul,Nat.zero_add,Nat.one_mul,Nat.reduceAdd] at A0 A1 a0 a1 a2 b0 b1 b2 b3 b4 b5 c0 c1 c2
 have HAv:Hid (bV [⟨0,-((1:Int):Rat)⟩,⟨1,-1⟩] 0=((-1:Int):Rat)):=by show bV _ _=_;decide
 clear hb4 hb34 hx EA SLA hAL hcA e0 e1 RL0 RL1 BL4 RC4 eg0 egB' egC h4
 go_wp2_with fail
 clear A1
 generalize s4.alloc (.cells #[.slice (some ⟨gA,0,none⟩) 2 cA,.slice (some ⟨gB,0,none⟩) 2 cB,.slice (some ⟨gC,0,none⟩) 3 3,.bool fK,.slice cK nK kK,.slice dK mK lK] 39)=s5 at *
 have HQA:Hid ((0:Int)=cs (bV [⟨0,-((1:Int):Rat)⟩,⟨1,-1⟩] 0) ((-1:Int):Rat)):=by show (0:Int)=_;rw [HAv.out];exact (jQ.2 rfl).symm
 have HQB:Hid ((0:Int)=cs ((-6:Int):Rat) ((-6:Int):Rat)):=(jQ.2 rfl).symm
 have HQE:Hid ((0:Int)=cs ((4:Int):Rat) ((4:Int):Rat)):=(jQ.2 rfl).symm
 have HQC:Hid ((0:Int)=cs (bV (cstQ Q) 0) ((1:Int):Rat)):=by show (0:Int)=_;rw [HC1'.out];exact (jQ.2 rfl).symm
 have HQK:Hid ((0:Int)=cs ((-5:Int):Rat) ((-5:Int):Rat)):=(jQ.2 rfl).symm
 have HBX:∀ w',Below s5.heap.size s5 w'→(w'.cell? ⟨s4.heap.size,0,none⟩=some (.slice (some ⟨gA,0,none⟩) 2 cA)∧w'.cell? ⟨s4.heap.size,1,none⟩=some (.slice (some ⟨gB,0,none⟩) 2 cB)∧w'.cell? ⟨gA,0,none⟩=some (.slice (some ⟨g0,0,none⟩) 3 3)∧w'.cell? ⟨g0,0,none⟩=some (.bool pa)∧w'.cell? ⟨g0,1,none⟩=some (.slice aa na ca)∧w'.cell? ⟨g0,2,none⟩=some (.slice da nda cda)∧w'.cell? ⟨gB,0,none⟩=some (.bool pb)∧w'.cell? ⟨gB,1,none⟩=some (.slice ab nb cb)∧w'.cell? ⟨gB,2,none⟩=some (.slice db ndb cdb)∧w'.cell? ⟨gB,3,none⟩=some (.bool pe)∧w'.cell? ⟨gB,4,none⟩=some (.slice ae ne ce)∧w'.cell? ⟨gB,5,none⟩=some (.slice de nde cde)):=fun w' h=>⟨(BD.below h) 0 _ rfl,(BD.below h) 1 _ rfl,aG h A0,aG h a0,aG h a1,aG h a2,aG h b0,aG h b1,aG h b2,aG h b3,aG h b4,aG h b5⟩
 refine wp_region_noPanic (bU HBX (by as_aux_lemma=>kernel_rfl) ?_)
 have hc0:Below s5.heap.size s5 s5.drew:=aK _
 generalize s5.drew=z0 at *
 refine wpAnyG.tA 0 (v:=.pointer (some ⟨s4.heap.size,0,none⟩)) (by decide) 27 (by as_aux_lemma=>kernel_rfl) (by rfl) ?y0 (HBX _ hc0) ?_
 case y0 =>
  rintro w' ⟨q0,q1,q2,q3,q4,q5,q6,q7,q8,q9,q10,q11⟩
  simp only [lgA,lgZ]
  go_simp
 simp only [lgA,lgZ,Act.put,lsA,lsZ,lsS]
 refine wpAnyG.tA 1 (v:=.slice (some ⟨gA,0,none⟩) 2 cA) (by decide) 27 (by as_aux_lemma=>kernel_rfl) (by rfl) ?y1 (HBX _ hc0) ?_
 case y1 =>
  rintro w' ⟨q0,q1,q2,q3,q4,q5,q6,q7,q8,q9,q10,q11⟩
  simp only [lgA,lgZ,lgS]
  go_simp
 simp only [lgA,lgZ,lgS,Act.put,lsA,lsZ,lsS]
 refine wpAnyG.tA 2 (v:=.pointer (some ⟨gA,0,none⟩)) (by decide) 27 (by as_aux_lemma=>kernel_rfl) (by rfl) ?y2 (HBX _ hc0) ?_
 case y2 =>
  rintro w' ⟨q0,q1,q2,q3,q4,q5,q6,q7,q8,q9,q10,q11⟩
  simp only [lgA,lgZ,lgS]
  go_simp
 simp only [lgA,lgZ,lgS,Act.put,lsA,lsZ,lsS]
 refine wpAnyG.tA 3 (v:=.slice (some ⟨g0,0,none⟩) 3 3) (by decide) 27 (by as_aux_lemma=>kernel_rfl) (by rfl) ?y3 (HBX _ hc0) ?_
 case y3 =>
  rintro w' ⟨q0,q1,q2,q3,q4,q5,q6,q7,q8,q9,q10,q11⟩
  simp only [lgA,lgZ,lgS]
  go_simp
 simp only [lgA,lgZ,lgS,Act.put,lsA,lsZ,lsS]
 refine wpAnyG.tA 4 (v:=.pointer (some ⟨g0,0,none⟩)) (by decide) 27 (by as_aux_lemma=>kernel_rfl) (by rfl) ?y4 (HBX _ hc0) ?_
 case y4 =>
  rintro w' ⟨q0,q1,q2,q3,q4,q5,q6,q7,q8,q9,q10,q11⟩
  simp only [lgA,lgZ,lgS]
  go_simp
 simp only [lgA,lgZ,lgS,Act.put,lsA,lsZ,lsS]
 refine wpAnyG.tA 5 (v:=.agg #[.bool pa,.slice aa na ca,.slice da nda cda]) (by decide) 27 (by as_aux_lemma=>kernel_rfl) (by rfl) ?y5 (HBX _ hc0) ?_
 case y5 =>
  rintro w' ⟨q0,q1,q2,q3,q4,q5,q6,q7,q8,q9,q10,q11⟩
  simp only [lgA,lgZ,lgS]
  go_simp
 simp only [lgA,lgZ,lgS,Act.put,lsA,lsZ,lsS]
 refine wpAnyG.one 6 (by as_aux_lemma=>kernel_rfl) (by decide) (by rfl) (fun K hK=>?_)
 simp only [lgA,lgZ,lgS]
 go_simp
 refine (jI (-1) z0 (by decide) (by decide)).mono ?_
 rintro e z1 ⟨f11,c11,n11,k11,d11,m11,l11,rfl,G11,hk1⟩
 have hc1:Below s5.heap.size s5 z1:=aF hc0 hk1
 dsimp only
 refine hK _ _ (HBX _ hc1) ?_
 clear hK K
 refine wpAnyG.one 7 (by as_aux_lemma=>kernel_rfl) (by decide) (by rfl) (fun K hK=>?_)
 simp only [lgA,lgZ,lgS]
 go_simp
 refine (cmpD 0 z1 (GA.tr.below hc1) G11.tr (by omega) (by omega) (by omega) HQA.out).mono ?_
 rintro e z2 ⟨rfl,hk2⟩
 have hc2:Below s5.heap.size s5 z2:=aF hc1 hk2
 dsimp only
 refine hK _ _ (HBX _ hc2) ?_
 clear hK K
 refine wpAnyG.tA 8 (v:=.bool true) (by decide) 27 (by as_aux_lemma=>kernel_rfl) (by rfl) ?y8 (HBX _ hc2) ?_
 case y8 =>
  rintro w' ⟨q0,q1,q2,q3,q4,q5,q6,q7,q8,q9,q10,q11⟩
  simp only [lgA,lgZ,lgS]
  go_simp
 simp only [lgA,lgZ,lgS,Act.put,lsA,lsZ,lsS]
 refine wpAnyG.tA 9 (v:=.bool true) (by decide) 27 (by as_aux_lemma=>kernel_rfl) (by rfl) ?y9 (HBX _ hc2) ?_
 case y9 =>
  rintro w' ⟨q0,q1,q2,q3,q4,q5,q6,q7,q8,q9,q10,q11⟩
  simp only [lgA,lgZ,lgS]
  go_simp
 simp only [lgA,lgZ,lgS,Act.put,lsA,lsZ,lsS]
 refine wpAnyG.tA 10 (v:=.pointer (some ⟨s4.heap.size,1,none⟩)) (by decide) 27 (by as_aux_lemma=>kernel_rfl) (by rfl) ?y10 (HBX _ hc2) ?_
 case y10 =>
  rintro w' ⟨q0,q1,q2,q3,q4,q5,q6,q7,q8,q9,q10,q11⟩
  simp only [lgA,lgZ,lgS]
  go_simp
 simp only [lgA,lgZ,lgS,Act.put,lsA,lsZ,lsS]
 refine wpAnyG.tA 11 (v:=.slice (some ⟨gB,0,none⟩) 2 cB) (by decide) 27 (by as_aux_lemma=>kernel_rfl) (by rfl) ?y11 (HBX _ hc2) ?_
 case y11 =>
  rintro w' ⟨q0,q1,q2,q3,q4,q5,q6,q7,q8,q9,q10,q11⟩
  simp only [lgA,lgZ,lgS]
  go_simp
 simp only [lgA,lgZ,lgS,Act.put,lsA,lsZ,lsS]
 refine wpAnyG.tA 12 (v:=.pointer (some ⟨gB,0,none⟩)) (by decide) 27 (by as_aux_lemma=>kernel_rfl) (by rfl) ?y12 (HBX _ hc2) ?_
 case y12 =>
  rintro w' ⟨q0,q1,q2,q3,q4,q5,q6,q7,q8,q9,q10,q11⟩
  simp only [lgA,lgZ,lgS]
  go_simp
 simp only [lgA,lgZ,lgS,Act.put,lsA,lsZ,lsS]
 refine wpAnyG.tA 13 (v:=.agg #[.bool pb,.slice ab nb cb,.slice db ndb cdb]) (by decide) 27 (by as_aux_lemma=>kernel_rfl) (by rfl) ?y13 (HBX _ hc2) ?_
 case y13 =>
  rintro w' ⟨q0,q1,q2,q3,q4,q5,q6,q7,q8,q9,q10,q11⟩
  simp only [lgA,lgZ,lgS]
  go_simp
 simp only [lgA,lgZ,lgS,Act.put,lsA,lsZ,lsS]
 refine wpAnyG.one 14 (by as_aux_lemma=>kernel_rfl) (by decide) (by rfl) (fun K hK=>?_)
 simp only [lgA,lgZ,lgS]
 go_simp
 refine (jI (-6) z2 (by decide) (by decide)).mono ?_
 rintro e z3 ⟨f12,c12,n12,k12,d12,m12,l12,rfl,G12,hk3⟩
 have hc3:Below s5.heap.size s5 z3:=aF hc2 hk3
 dsimp only
 refine hK _ _ (HBX _ hc3) ?_
 clear hK K
 refine wpAnyG.one 15 (by as_aux_lemma=>kernel_rfl) (by decide) (by rfl) (fun K hK=>?_)
 simp only [lgA,lgZ,lgS]
 go_simp
 refine (cmpD 0 z3 (GB.tr.below hc3) G12.tr (by omega) (by omega) (by omega) HQB.out).mono ?_
 rintro e z4 ⟨rfl,hk4⟩
 have hc4:Below s5.heap.size s5 z4:=aF hc3 hk4
 dsimp only
 refine hK _ _ (HBX _ hc4) ?_
 clear hK K
 refine wpAnyG.tA 16 (v:=.bool true) (by decide) 27 (by as_aux_lemma=>kernel_rfl) (by rfl) ?y16 (HBX _ hc4) ?_
 case y16 =>
  rintro w' ⟨q0,q1,q2,q3,q4,q5,q6,q7,q8,q9,q10,q11⟩
  simp only [lgA,lgZ,lgS]
  go_simp
 simp only [lgA,lgZ,lgS,Act.put,lsA,lsZ,lsS]
 refine wpAnyG.tA 17 (v:=.bool true) (by decide) 27 (by as_aux_lemma=>kernel_rfl) (by rfl) ?y17 (HBX _ hc4) ?_
 case y17 =>
  rintro w' ⟨q0,q1,q2,q3,q4,q5,q6,q7,q8,q9,q10,q11⟩
  simp only [lgA,lgZ,lgS]
  go_simp
 simp only [lgA,lgZ,lgS,Act.put,lsA,lsZ,lsS]
 refine wpAnyG.tA 18 (v:=.bool true) (by decide) 27 (by as_aux_lemma=>kernel_rfl) (by rfl) ?y18 (HBX _ hc4) ?_
 case y18 =>
  rintro w' ⟨q0,q1,q2,q3,q4,q5,q6,q7,q8,q9,q10,q11⟩
  simp only [lgA,lgZ,lgS]
  go_simp
 simp only [lgA,lgZ,lgS,Act.put,lsA,lsZ,lsS]
 refine wpAnyG.tA 19 (v:=.pointer (some ⟨s4.heap.size,1,none⟩)) (by decide) 27 (by as_aux_lemma=>kernel_rfl) (by rfl) ?y19 (HBX _ hc4) ?_
 case y19 =>
  rintro w' ⟨q0,q1,q2,q3,q4,q5,q6,q7,q8,q9,q10,q11⟩
  simp only [lgA,lgZ,lgS]
  go_simp
 simp only [lgA,lgZ,lgS,Act.put,lsA,lsZ,lsS]
 refine wpAnyG.tA 20 (v:=.slice (some ⟨gB,0,none⟩) 2 cB) (by decide) 27 (by as_aux_lemma=>kernel_rfl) (by rfl) ?y20 (HBX _ hc4) ?_
 case y20 =>
  rintro w' ⟨q0,q1,q2,q3,q4,q5,q6,q7,q8,q9,q10,q11⟩
  simp only [lgA,lgZ,lgS]
  go_simp
 simp only [lgA,lgZ,lgS,Act.put,lsA,lsZ,lsS]
 refine wpAnyG.tA 21 (v:=.pointer (some ⟨gB,3,none⟩)) (by decide) 27 (by as_aux_lemma=>kernel_rfl) (by rfl) ?y21 (HBX _ hc4) ?_
 case y21 =>
  rintro w' ⟨q0,q1,q2,q3,q4,q5,q6,q7,q8,q9,q10,q11⟩
  simp only [lgA,lgZ,lgS]
  go_simp
 simp only [lgA,lgZ,lgS,Act.put,lsA,lsZ,lsS]
 refine wpAnyG.tA 22 (v:=.agg #[.bool pe,.slice ae ne ce,.slice de nde cde]) (by decide) 27 (by as_aux_lemma=>kernel_rfl) (by rfl) ?y22 (HBX _ hc4) ?_
 case y22 =>
  rintro w' ⟨q0,q1,q2,q3,q4,q5,q6,q7,q8,q9,q10,q11⟩
  simp only [lgA,lgZ,lgS]
  go_simp
 simp only [lgA,lgZ,lgS,Act.put,lsA,lsZ,lsS]
 refine wpAnyG.one 23 (by as_aux_lemma=>kernel_rfl) (by decide) (by rfl) (fun K hK=>?_)
 simp only [lgA,lgZ,lgS]
 go_simp
 refine (jI (4) z4 (by decide) (by decide)).mono ?_
 rintro e z5 ⟨f13,c13,n13,k13,d13,m13,l13,rfl,G13,hk5⟩
 have hc5:Below s5.heap.size s5 z5:=aF hc4 hk5
 dsimp only
 refine hK _ _ (HBX _ hc5) ?_
 clear hK K
 refine wpAnyG.one 24 (by as_aux_lemma=>kernel_rfl) (by decide) (by rfl) (fun K hK=>?_)
 simp only [lgA,lgZ,lgS]
 go_simp
 refine (cmpD 0 z5 (GE.tr.below hc5) G13.tr (by omega) (by omega) (by omega) HQE.out).mono ?_
 rintro e z6 ⟨rfl,hk6⟩
 have hc6:Below s5.heap.size s5 z6:=aF hc5 hk6
 dsimp only
 refine hK _ _ (HBX _ hc6) ?_
 clear hK K
 refine wpAnyG.tA 25 (v:=.bool true) (by decide) 27 (by as_aux_lemma=>kernel_rfl) (by rfl) ?y25 (HBX _ hc6) ?_
 case y25 =>
  rintro w' ⟨q0,q1,q2,q3,q4,q5,q6,q7,q8,q9,q10,q11⟩
  simp only [lgA,lgZ,lgS]
  go_simp
 simp only [lgA,lgZ,lgS,Act.put,lsA,lsZ,lsS]
 refine wpAnyG.tA 26 (v:=.bool true) (by decide) 27 (by as_aux_lemma=>kernel_rfl) (by rfl) ?y26 (HBX _ hc6) ?_
 case y26 =>
  rintro w' ⟨q0,q1,q2,q3,q4,q5,q6,q7,q8,q9,q10,q11⟩
  simp only [lgA,lgZ,lgS]
  go_simp
 simp only [lgA,lgZ,lgS,Act.put,lsA,lsZ,lsS]
 refine wpAnyG.one 27 (by as_aux_lemma=>kernel_rfl) (by decide) (by rfl) (fun K hK=>?_)
 simp only [lgA,lgZ,lgS]
 go_simp
 refine hK _ _ (HBX _ hc6) ?_
 clear hK K
 refine wpAnyG.done (by as_aux_lemma=>kernel_rfl) (NoPanic.normal ?_)
 have hb6:=aF hb5 hc6
 have hb36:=aF hb35 hc6
 replace BD:=BD.below hc6
 replace c0:=aG hc6 c0;replace c1:=aG hc6 c1;replace c2:=aG hc6 c2
 replace GC:=GC.below hc6
 replace GK4:=GK4.below hc6
 clear HBX hc0 hc1 hc2 hc3 hc4 hc5 hc6 hk1 hk2 hk3 hk4 hk5 hk6 G11 G12 G13 A0 a0 a1 a2 b0 b1 b2 b3 b4 b5 GA GB GE hb5 hb35
 go_wp2_with fail
 obtain ⟨s6,es6⟩:∃ x,x=z6:=⟨_,rfl⟩
 subst es6
 have HBX:∀ w',Below s6.heap.size s6 w'→(w'.cell? ⟨s4.heap.size,2,none⟩=some (.slice (some ⟨gC,0,none⟩) 3 3)∧w'.cell? ⟨gC,0,none⟩=some (.bool pc)∧w'.cell? ⟨gC,1,none⟩=some (.slice ac nc cc)∧w'.cell? ⟨gC,2,none⟩=some (.slice dc ndc cdc)∧w'.cell? ⟨s4.heap.size,3,none⟩=some (.bool fK)∧w'.cell? ⟨s4.heap.size,4,none⟩=some (.slice cK nK kK)∧w'.cell? ⟨s4.heap.size,5,none⟩=some (.slice dK mK lK)):=fun w' h=>⟨(BD.below h) 2 _ rfl,aG h c0,aG h c1,aG h c2,(BD.below h) 3 _ rfl,(BD.below h) 4 _ rfl,(BD.below h) 5 _ rfl⟩
 refine wp_region_noPanic (bU HBX (by as_aux_lemma=>kernel_rfl) ?_)
 have hc0:Below s6.heap.size s6 s6.drew:=aK _
 generalize s6.drew=z0 at *
 refine wpAnyG.tA 0 (v:=.pointer (some ⟨s4.heap.size,2,none⟩)) (by decide) 14 (by as_aux_lemma=>kernel_rfl) (by rfl) ?y0 (HBX _ hc0) ?_
 case y0 =>
  rintro w' ⟨q0,q1,q2,q3,q4,q5,q6⟩
  simp only [lgA,lgZ]
  go_simp
 simp only [lgA,lgZ,Act.put,lsA,lsZ,lsS]
 refine wpAnyG.tA 1 (v:=.slice (some ⟨gC,0,none⟩) 3 3) (by decide) 14 (by as_aux_lemma=>kernel_rfl) (by rfl) ?y1 (HBX _ hc0) ?_
 case y1 =>
  rintro w' ⟨q0,q1,q2,q3,q4,q5,q6⟩
  simp only [lgA,lgZ,lgS]
  go_simp
 simp only [lgA,lgZ,lgS,Act.put,lsA,lsZ,lsS]
 refine wpAnyG.tA 2 (v:=.pointer (some ⟨gC,0,none⟩)) (by decide) 14 (by as_aux_lemma=>kernel_rfl) (by rfl) ?y2 (HBX _ hc0) ?_
 case y2 =>
  rintro w' ⟨q0,q1,q2,q3,q4,q5,q6⟩
  simp only [lgA,lgZ,lgS]
  go_simp
 simp only [lgA,lgZ,lgS,Act.put,lsA,lsZ,lsS]
 refine wpAnyG.tA 3 (v:=.agg #[.bool pc,.slice ac nc cc,.slice dc ndc cdc]) (by decide) 14 (by as_aux_lemma=>kernel_rfl) (by rfl) ?y3 (HBX _ hc0) ?_
 case y3 =>
  rintro w' ⟨q0,q1,q2,q3,q4,q5,q6⟩
  simp only [lgA,lgZ,lgS]
  go_simp
 simp only [lgA,lgZ,lgS,Act.put,lsA,lsZ,lsS]
 refine wpAnyG.one 4 (by as_aux_lemma=>kernel_rfl) (by decide) (by rfl) (fun K hK=>?_)
 simp only [lgA,lgZ,lgS]
 go_simp
 refine (jI (1) z0 (by decide) (by decide)).mono ?_
 rintro e z1 ⟨f11,c11,n11,k11,d11,m11,l11,rfl,G11,hk1⟩
 have hc1:Below s6.heap.size s6 z1:=aF hc0 hk1
 dsimp only
 refine hK _ _ (HBX _ hc1) ?_
 clear hK K
 refine wpAnyG.one 5 (by as_aux_lemma=>kernel_rfl) (by decide) (by rfl) (fun K hK=>?_)
 simp only [lgA,lgZ,lgS]
 go_simp
 refine (cmpD 0 z1 (GC.tr.below hc1) G11.tr (by omega) (by omega) (by omega) HQC.out).mono ?_
 rintro e z2 ⟨rfl,hk2⟩
 have hc2:Below s6.heap.size s6 z2:=aF hc1 hk2
 dsimp only
 refine hK _ _ (HBX _ hc2) ?_
 clear hK K
 refine wpAnyG.tA 6 (v:=.bool true) (by decide) 14 (by as_aux_lemma=>kernel_rfl) (by rfl) ?y6 (HBX _ hc2) ?_
 case y6 =>
  rintro w' ⟨q0,q1,q2,q3,q4,q5,q6⟩
  simp only [lgA,lgZ,lgS]
  go_simp
 simp only [lgA,lgZ,lgS,Act.put,lsA,lsZ,lsS]
 refine wpAnyG.tA 7 (v:=.bool true) (by decide) 14 (by as_aux_lemma=>kernel_rfl) (by rfl) ?y7 (HBX _ hc2) ?_
 case y7 =>
  rintro w' ⟨q0,q1,q2,q3,q4,q5,q6⟩
  simp only [lgA,lgZ,lgS]
  go_simp
 simp only [lgA,lgZ,lgS,Act.put,lsA,lsZ,lsS]
 refine wpAnyG.tA 8 (v:=.pointer (some ⟨s4.heap.size,3,none⟩)) (by decide) 14 (by as_aux_lemma=>kernel_rfl) (by rfl) ?y8 (HBX _ hc2) ?_
 case y8 =>
  rintro w' ⟨q0,q1,q2,q3,q4,q5,q6⟩
  simp only [lgA,lgZ,lgS]
  go_simp
 simp only [lgA,lgZ,lgS,Act.put,lsA,lsZ,lsS]
 refine wpAnyG.tA 9 (v:=.agg #[.bool fK,.slice cK nK kK,.slice dK mK lK]) (by decide) 14 (by as_aux_lemma=>kernel_rfl) (by rfl) ?y9 (HBX _ hc2) ?_
 case y9 =>
  rintro w' ⟨q0,q1,q2,q3,q4,q5,q6⟩
  simp only [lgA,lgZ,lgS]
  go_simp
 simp only [lgA,lgZ,lgS,Act.put,lsA,lsZ,lsS]
 refine wpAnyG.one 10 (by as_aux_lemma=>kernel_rfl) (by decide) (by rfl) (fun K hK=>?_)
 simp only [lgA,lgZ,lgS]
 go_simp
 refine (jI (-5) z2 (by decide) (by decide)).mono ?_
 rintro e z3 ⟨f12,c12,n12,k12,d12,m12,l12,rfl,G12,hk3⟩
 have hc3:Below s6.heap.size s6 z3:=aF hc2 hk3
 dsimp only
 refine hK _ _ (HBX _ hc3) ?_
 clear hK K
 refine wpAnyG.one 11 (by as_aux_lemma=>kernel_rfl) (by decide) (by rfl) (fun K hK=>?_)
 simp only [lgA,lgZ,lgS]
 go_simp
 refine (cmpD 0 z3 (GK4.tr.below hc3) G12.tr (by omega) (by omega) (by omega) HQK.out).mono ?_
 rintro e z4 ⟨rfl,hk4⟩
 have hc4:Below s6.heap.size s6 z4:=aF hc3 hk4
 dsimp only
 refine hK _ _ (HBX _ hc4) ?_
 clear hK K
 refine wpAnyG.tA 12 (v:=.bool true) (by decide) 14 (by as_aux_lemma=>kernel_rfl) (by rfl) ?y12 (HBX _ hc4) ?_
 case y12 =>
  rintro w' ⟨q0,q1,q2,q3,q4,q5,q6⟩
  simp only [lgA,lgZ,lgS]
  go_simp
 simp only [lgA,lgZ,lgS,Act.put,lsA,lsZ,lsS]
 refine wpAnyG.tA 13 (v:=.bool true) (by decide) 14 (by as_aux_lemma=>kernel_rfl) (by rfl) ?y13 (HBX _ hc4) ?_
 case y13 =>
  rintro w' ⟨q0,q1,q2,q3,q4,q5,q6⟩
  simp only [lgA,lgZ,lgS]
  go_simp
 simp only [lgA,lgZ,lgS,Act.put,lsA,lsZ,lsS]
 refine wpAnyG.one 14 (by as_aux_lemma=>kernel_rfl) (by decide) (by rfl) (fun K hK=>?_)
 simp only [lgA,lgZ,lgS]
 go_simp
 refine hK _ _ (HBX _ hc4) ?_
 clear hK K
 refine wpAnyG.done (by as_aux_lemma=>kernel_rfl) (NoPanic.normal ?_)
 have hb7:=aF hb6 hc4
 have hb37:=aF hb36 hc4
 clear HBX hc0 hc1 hc2 hc3 hc4 hk1 hk2 hk3 hk4 G11 G12 c0 c1 c2 GC GK4 BD hb6 hb36
 go_wp2_with fail
 obtain ⟨s7,es7⟩:∃ x,x=z4:=⟨_,rfl⟩
 subst es7
 refine (jI 2 s7 (by decide) (by decide)).mono ?_
 rintro e s8 ⟨f1,c1,n1,k1,d1,m1,l1,rfl,G1,h8⟩
 go_wp2_with fail
 refine (jI 2 s8 (by decide) (by decide)).mono ?_
 rintro e s9 ⟨f2,c2,n2,k2,d2,m2,l2,rfl,G2,h9⟩
 go_wp2_with fail
 refine (jI 2 s9 (by decide) (by decide)).mono ?_
 rintro e s10 ⟨f3,c3,n3,k3,d3,m3,l3,rfl,G3,h10⟩
 have hx:=aI s10 (.cells #[.bool f1,.slice c1 n1 k1,.slice d1 m1 l1,.bool f2,.slice c2 n2 k2,.slice d2 m2 l2,.bool f3,.slice c3 n3 k3,.slice d3 m3 l3] 27)
 have BX:=aQ s10 #[.bool f1,.slice c1 n1 k1,.slice d1 m1 l1,.bool f2,.slice c2 n2 k2,.slice d2 m2 l2,.bool f3,.slice c3 n3 k3,.slice d3 m3 l3] 27
 have hb11:=aF (aF (aF (aF hb7 h8) h9) h10) hx
 have hb311:=aF (aF (aF (aF hb37 h8) h9) h10) hx
 have LX:LQ (s10.alloc (.cells #[.bool f1,.slice c1 n1 k1,.slice d1 m1 l1,.bool f2,.slice c2 n2 k2,.slice d2 m2 l2,.bool f3,.slice c3 n3 k3,.slice d3 m3 l3] 27)) (some ⟨s10.heap.size,0,none⟩) 3 (fun _=>((2:Int):Rat)) (fun _=>1):=by
  refine .inr ⟨s10.heap.size,0,rfl,fun i hi=>?_⟩
  rcases (by omega:i=0∨i=1∨i=2) with rfl|rfl|rfl
  ·exact ⟨_,_,_,_,_,_,_,BX 0 _ rfl,BX 1 _ rfl,BX 2 _ rfl,((G1.below h9).below h10).tr.below hx⟩
  ·exact ⟨_,_,_,_,_,_,_,BX 3 _ rfl,BX 4 _ rfl,BX 5 _ rfl,(G2.below h10).tr.below hx⟩
  ·exact ⟨_,_,_,_,_,_,_,BX 6 _ rfl,BX 7 _ rfl,BX 8 _ rfl,G3.tr.below hx⟩
 go_wp2_with fail
 clear BX hx h8 h9 h10 G1 G2 G3 hb7 hb37
 generalize s10.alloc (.cells #[.bool f1,.slice c1 n1 k1,.slice d1 m1 l1,.bool f2,.slice c2 n2 k2,.slice d2 m2 l2,.bool f3,.slice c3 n3 k3,.slice d3 m3 l3] 27)=s11 at *
 refine (HPT s11 hb311 _ _ _ LX).mono ?_
 rintro e s12 ⟨xb,xcap,rfl,L12,h12⟩
 have hb12:=aF hb11 h12
 obtain ⟨gx,px,ax,nx,cx,dx,ndx,cdx,egx,x0,x1,x2,GX⟩:=L12.at (i:=0) (by decide)
 subst egx
 simp only [Nat.zero_mul,Nat.zero_add] at x0 x1 x2
 have HQX:Hid ((0:Int)=cs (((5:Int):Rat)-((2:Int):Rat)) ((3:Int):Rat)):=by show (0:Int)=_;rw [show ((5:Int):Rat)-((2:Int):Rat)=((3:Int):Rat) by kernel_rfl];exact (jQ.2 rfl).symm
 clear LX L12 hb11 hb311 h12 HPT
 go_wp2_with fail
 have HBX:∀ w',Below s12.heap.size s12 w'→(w'.cell? ⟨gx,0,none⟩=some (.bool px)∧w'.cell? ⟨gx,1,none⟩=some (.slice ax nx cx)∧w'.cell? ⟨gx,2,none⟩=some (.slice dx ndx cdx)):=fun w' h=>⟨aG h x0,aG h x1,aG h x2⟩
 refine wp_region_noPanic (bU HBX (by as_aux_lemma=>kernel_rfl) ?_)
 have hc0:Below s12.heap.size s12 s12.drew:=aK _
 generalize s12.drew=z0 at *
 refine wpAnyG.tA 0 (v:=.bool true) (by decide) 17 (by as_aux_lemma=>kernel_rfl) (by rfl) ?y0 (HBX _ hc0) ?_
 case y0 =>
  rintro w' ⟨q0,q1,q2⟩
  simp only [lgA,lgZ]
  go_simp
 simp only [lgA,lgZ,Act.put,lsA,lsZ,lsS]
 refine wpAnyG.tA 1 (v:=.bool true) (by decide) 17 (by as_aux_lemma=>kernel_rfl) (by rfl) ?y1 (HBX _ hc0) ?_
 case y1 =>
  rintro w' ⟨q0,q1,q2⟩
  simp only [lgA,lgZ,lgS]
  go_simp
 simp only [lgA,lgZ,lgS,Act.put,lsA,lsZ,lsS]
 refine wpAnyG.tA 2 (v:=.bool true) (by decide) 17 (by as_aux_lemma=>kernel_rfl) (by rfl) ?y2 (HBX _ hc0) ?_
 case y2 =>
  rintro w' ⟨q0,q1,q2⟩
  simp only [lgA,lgZ,lgS]
  go_simp
 simp only [lgA,lgZ,lgS,Act.put,lsA,lsZ,lsS]
 refine wpAnyG.tA 3 (v:=.bool true) (by decide) 17 (by as_aux_lemma=>kernel_rfl) (by rfl) ?y3 (HBX _ hc0) ?_
 case y3 =>
  rintro w' ⟨q0,q1,q2⟩
  simp only [lgA,lgZ,lgS]
  go_simp
 simp only [lgA,lgZ,lgS,Act.put,lsA,lsZ,lsS]
 refine wpAnyG.tA 4 (v:=.bool true) (by decide) 17 (by as_aux_lemma=>kernel_rfl) (by rfl) ?y4 (HBX _ hc0) ?_
 case y4 =>
  rintro w' ⟨q0,q1,q2⟩
  simp only [lgA,lgZ,lgS]
  go_simp
 simp only [lgA,lgZ,lgS,Act.put,lsA,lsZ,lsS]
 refine wpAnyG.tA 5 (v:=.slice (some ⟨gx,0,none⟩) 1 xcap) (by decide) 17 (by as_aux_lemma=>kernel_rfl) (by rfl) ?y5 (HBX _ hc0) ?_
 case y5 =>
  rintro w' ⟨q0,q1,q2⟩
  simp only [lgA,lgZ,lgS]
  go_simp
 simp only [lgA,lgZ,lgS,Act.put,lsA,lsZ,lsS]
 refine wpAnyG.tA 6 (v:=.int .i64 1) (by decide) 17 (by as_aux_lemma=>kernel_rfl) (by rfl) ?y6 (HBX _ hc0) ?_
 case y6 =>
  rintro w' ⟨q0,q1,q2⟩
  simp only [lgA,lgZ,lgS]
  go_simp
 simp only [lgA,lgZ,lgS,Act.put,lsA,lsZ,lsS]
 refine wpAnyG.tA 7 (v:=.bool true) (by decide) 17 (by as_aux_lemma=>kernel_rfl) (by rfl) ?y7 (HBX _ hc0) ?_
 case y7 =>
  rintro w' ⟨q0,q1,q2⟩
  simp only [lgA,lgZ,lgS]
  go_simp
 simp only [lgA,lgZ,lgS,Act.put,lsA,lsZ,lsS]
 refine wpAnyG.tA 8 (v:=.bool true) (by decide) 17 (by as_aux_lemma=>kernel_rfl) (by rfl) ?y8 (HBX _ hc0) ?_
 case y8 =>
  rintro w' ⟨q0,q1,q2⟩
  simp only [lgA,lgZ,lgS]
  go_simp
 simp only [lgA,lgZ,lgS,Act.put,lsA,lsZ,lsS]
 refine wpAnyG.tA 9 (v:=.bool true) (by decide) 17 (by as_aux_lemma=>kernel_rfl) (by rfl) ?y9 (HBX _ hc0) ?_
 case y9 =>
  rintro w' ⟨q0,q1,q2⟩
  simp only [lgA,lgZ,lgS]
  go_simp
 simp only [lgA,lgZ,lgS,Act.put,lsA,lsZ,lsS]
 refine wpAnyG.tA 10 (v:=.slice (some ⟨gx,0,none⟩) 1 xcap) (by decide) 17 (by as_aux_lemma=>kernel_rfl) (by rfl) ?y10 (HBX _ hc0) ?_
 case y10 =>
  rintro w' ⟨q0,q1,q2⟩
  simp only [lgA,lgZ,lgS]
  go_simp
 simp only [lgA,lgZ,lgS,Act.put,lsA,lsZ,lsS]
 refine wpAnyG.tA 11 (v:=.pointer (some ⟨gx,0,none⟩)) (by decide) 17 (by as_aux_lemma=>kernel_rfl) (by rfl) ?y11 (HBX _ hc0) ?_
 case y11 =>
  rintro w' ⟨q0,q1,q2⟩
  simp only [lgA,lgZ,lgS]
  go_simp
 simp only [lgA,lgZ,lgS,Act.put,lsA,lsZ,lsS]
 refine wpAnyG.tA 12 (v:=.agg #[.bool px,.slice ax nx cx,.slice dx ndx cdx]) (by decide) 17 (by as_aux_lemma=>kernel_rfl) (by rfl) ?y12 (HBX _ hc0) ?_
 case y12 =>
  rintro w' ⟨q0,q1,q2⟩
  simp only [lgA,lgZ,lgS]
  go_simp
 simp only [lgA,lgZ,lgS,Act.put,lsA,lsZ,lsS]
 refine wpAnyG.one 13 (by as_aux_lemma=>kernel_rfl) (by decide) (by rfl) (fun K hK=>?_)
 simp only [lgA,lgZ,lgS]
 go_simp
 refine (jI (3) z0 (by decide) (by decide)).mono ?_
 rintro e z1 ⟨f11,c11,n11,k11,d11,m11,l11,rfl,G11,hk1⟩
 have hc1:Below s12.heap.size s12 z1:=aF hc0 hk1
 dsimp only
 refine hK _ _ (HBX _ hc1) ?_
 clear hK K
 refine wpAnyG.one 14 (by as_aux_lemma=>kernel_rfl) (by decide) (by rfl) (fun K hK=>?_)
 simp only [lgA,lgZ,lgS]
 go_simp
 refine (cmpD 0 z1 (GX.tr.below hc1) G11.tr (by omega) (by omega) (by omega) HQX.out).mono ?_
 rintro e z2 ⟨rfl,hk2⟩
 have hc2:Below s12.heap.size s12 z2:=aF hc1 hk2
 dsimp only
 refine hK _ _ (HBX _ hc2) ?_
 clear hK K
 refine wpAnyG.tA 15 (v:=.bool true) (by decide) 17 (by as_aux_lemma=>kernel_rfl) (by rfl) ?y15 (HBX _ hc2) ?_
 case y15 =>
  rintro w' ⟨q0,q1,q2⟩
  simp only [lgA,lgZ,lgS]
  go_simp
 simp only [lgA,lgZ,lgS,Act.put,lsA,lsZ,lsS]
 refine wpAnyG.tA 16 (v:=.bool true) (by decide) 17 (by as_aux_lemma=>kernel_rfl) (by rfl) ?y16 (HBX _ hc2) ?_
 case y16 =>
  rintro w' ⟨q0,q1,q2⟩
  simp only [lgA,lgZ,lgS]
  go_simp
 simp only [lgA,lgZ,lgS,Act.put,lsA,lsZ,lsS]
 refine wpAnyG.one 17 (by as_aux_lemma=>kernel_rfl) (by decide) (by rfl) (fun K hK=>?_)
 simp only [lgA,lgZ,lgS]
 go_simp
 refine hK _ _ (HBX _ hc2) ?_
 clear hK K
 refine wpAnyG.done (by as_aux_lemma=>kernel_rfl) (NoPanic.normal ?_)
 have hbF:=aF hb12 hc2
 go_wp2
 go_ret
 exact ⟨rfl,hbF⟩
end Go.Proofs.YtmeimjakdheidaaGreatDoor
