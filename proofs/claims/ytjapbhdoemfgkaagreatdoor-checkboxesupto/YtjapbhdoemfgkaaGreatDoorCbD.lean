import Derived.Test.YtjapbhdoemfgkaaGreatDoorCbC
namespace Go.Proofs.YtjapbhdoemfgkaaGreatDoor
open Go.RowKit
theorem TX.off2 {w w':World} {A B g:Nat} {v:Value} {n:Nat} {X:Nat→Rat} {Z:Nat→Nat} (h:TX w A B v n X Z) (o:Off g w w') (hA:A≤g) (hne:v.ownBlock ≠ some g):TX w' A B v n X Z:=by
 obtain ⟨vs,h1,h2⟩:=h
 refine ⟨vs,⟨h1.1,?_⟩,fun i hi=>?_⟩
 ·rcases h1.2 with hn | ⟨g',cap,cur,e1,e2,hgb,rest⟩
  ·exact .inl hn
  ·exact .inr ⟨g',cap,cur,e1,e2,(o.block g' (fun e=>hne (by rw [e1,e];rfl))).trans hgb,rest⟩
 ·obtain ⟨p,a,na,ca,d,nd,cd,g1,g2,g3,g4⟩:=h2 i hi
  exact ⟨p,a,na,ca,d,nd,cd,g1,g2,g3,fun w2 k=>g4 w2 ((o.below hA).trans k)⟩
theorem Got.neR {w:World} {B:Nat} {v:Value} {x:Int} {S:Nat} (h:Got w B v x S) {g:Nat} {cs:Array Value} (hg:Rw 28 w g cs):v.ownBlock ≠ some g:=by
 obtain ⟨xs,h1,h2⟩:=h
 intro e
 rcases h1.2 with ⟨e1,_⟩ | ⟨g1,c1,cur1,e1,_,f1,_⟩
 ·subst e1;simp [Value.ownBlock] at e
 ·subst e1
  simp [Value.ownBlock] at e
  subst e
  unfold Rw at hg
  rw [f1] at hg
  simp at hg
theorem RL.off2 {w w':World} {B g:Nat} {v:Value} {n:Nat} {X:Nat→Rat} {S:Nat} (h:RL w B v n X S) (o:Off g w w') {cs:Array Value} (hg:Rw 28 w g cs) (hne:v.ownBlock ≠ some g):RL w' B v n X S:=by
 obtain ⟨vs,h1,h2⟩:=h
 refine ⟨vs,⟨h1.1,?_⟩,fun i hi=>?_⟩
 ·rcases h1.2 with hn | ⟨g',cap,cur,e1,e2,hgb,rest⟩
  ·exact .inl hn
  ·exact .inr ⟨g',cap,cur,e1,e2,(o.block g' (fun e=>hne (by rw [e1,e];rfl))).trans hgb,rest⟩
 ·obtain ⟨p,a,na,ca,d,nd,cd,g1,g2,g3,g4⟩:=h2 i hi
  exact ⟨p,a,na,ca,d,nd,cd,g1,g2,g3,(GX.off ⟨g4,g4.1.got.neR hg,g4.2.neR hg⟩ o).1⟩
structure BI (mx:Bool) (V:Nat→PV) (ZV:Nat→Nat) (n:Nat) (w w1:World) (prb:List Value) (j:Nat) (sX sZ:Value) (wr:World):Prop where
 le:j≤n
 rc:Rw 35 wr (w1.heap.size + 1) #[.int .i64 (vdj mx V j),.bool false,.slice none 0 0,.slice none 0 0,sX,.slice none 0 0,sZ]
 tx:TX wr w1.heap.size (w1.heap.size + 2) sX j (fun i=>bx mx (V i)) ZV
 rl:RL wr (w1.heap.size + 2) sZ j (fun i=>((bz mx (V i):Int):Rat)) 1
 ne:NE sX sZ
 pb:BoxC wr w1.heap.size prb
 bel:Below w.heap.size w wr
 sz:w1.heap.size + 2≤wr.heap.size
 nc:∀ i,i < j→¬ crv (V i)
def BS (mx:Bool) (V:Nat→PV) (ZV:Nat→Nat) (n:Nat) (w w1:World) (prb:List Value) (j:Nat) (wr:World):Prop:=∃ sX sZ,BI mx V ZV n w w1 prb j sX sZ wr
theorem rat_p1 (r:Rat):r ≠ r + ((1:Int):Rat):=by rw [q1];grind
theorem rat3 (r:Rat):r < 0∨r = 0∨0 < r:=by grind
theorem rat_nn {r:Rat} (h:r = 0∨0 < r):¬ r < 0:=by grind
theorem rat_np {r:Rat} (h:r < 0∨r = 0):¬ 0 < r:=by grind
section
variable {mx:Bool} {v:PV}
theorem bx_hi1 (h1:true = v.hhi) (h:msn mx v.obj < 0):bx mx v = v.hi:=by unfold bx;rw [← h1,if_pos ⟨rfl,.inl h⟩]
theorem bx_hi2 (h1:true = v.hhi) (h2:false = v.hlo):bx mx v = v.hi:=by unfold bx;rw [← h1,← h2,if_pos ⟨rfl,.inr (by decide)⟩]
theorem bx_lo1 (h1:false = v.hhi) (h2:true = v.hlo):bx mx v = v.lo:=by unfold bx;rw [← h1,← h2,if_neg (fun h=>absurd h.1 (by decide)),if_pos rfl]
theorem bx_lo2 (h1:true = v.hhi) (h2:true = v.hlo) (h:¬ msn mx v.obj < 0):bx mx v = v.lo:=by unfold bx;rw [← h1,← h2,if_neg (fun k=>by rcases k.2 with k | k;exact h k;exact k rfl),if_pos rfl]
theorem bx_0 (h1:false = v.hhi) (h2:false = v.hlo):bx mx v = 0:=by unfold bx;rw [← h1,← h2,if_neg (fun h=>absurd h.1 (by decide)),if_neg (by decide)]
theorem bz_p (h1:false = v.hhi) (h:msn mx v.obj < 0):bz mx v = 1:=by unfold bz;rw [← h1,if_pos ⟨h,by decide⟩]
theorem bz_m (h2:false = v.hlo) (h:0 < msn mx v.obj):bz mx v = -1:=by unfold bz;rw [← h2,if_neg (fun k=>rat_np (.inl k.1) h),if_pos ⟨h,by decide⟩]
theorem bz_01 (h1:true = v.hhi) (h2:true = v.hlo):bz mx v = 0:=by unfold bz;rw [← h1,← h2,if_neg (fun k=>k.2 rfl),if_neg (fun k=>k.2 rfl)]
theorem bz_0m (h:msn mx v.obj = 0):bz mx v = 0:=by unfold bz;rw [if_neg (fun k=>rat_nn (.inl h) k.1),if_neg (fun k=>rat_np (.inr h) k.1)]
theorem bz_0n (h1:true = v.hhi) (h:msn mx v.obj < 0):bz mx v = 0:=by unfold bz;rw [← h1,if_neg (fun k=>k.2 rfl),if_neg (fun k=>rat_np (.inl h) k.1)]
theorem bz_0p (h2:true = v.hlo) (h:0 < msn mx v.obj):bz mx v = 0:=by unfold bz;rw [← h2,if_neg (fun k=>rat_nn (.inr h) k.1),if_neg (fun k=>k.2 rfl)]
end
theorem wp_cutR (id:Nat) {P:Program} {ops:Array Oper} {b:Bool} {c2:Code} {Q:Exit→Act→World→Prop} {a:Act} {w:World} (J:Act→Act→World→Prop) (h1:((Code.region id ops b).seq c2).wp P (fun e a' w'=>e = .normal∧J a a' w') a w) (h2:∀ a' w',J a a' w'→Q .normal a' w'):((Code.region id ops b).seq c2).wp P Q a w:=wp_cutK J h1 h2
def J12 (w4:World) (s:Int) (a0 a':Act) (w':World):Prop:=w4 = w'∧∃ u1 u2 u3,a' = ((((a0.put (some 65) u1).put (some 66) u2).put (some 67) u3).put (some 13) (.int .i64 s))
theorem vdj_succ (mx:Bool) (V:Nat→PV) (j:Nat):vdj mx V (j + 1) = if bz mx (V j) = 0 then vdj mx V j else 3:=rfl
theorem msn_sgn {mx:Bool} {r:Rat} {s:Int} (h:s = (msn mx r).num.sign):r.num.sign = if mx = true then -s else s:=by
 subst h
 unfold msn
 cases mx
 ·rfl
 ·rw [if_pos rfl,if_pos rfl,Rat.neg_num,Int.sign_neg,Int.neg_neg]
set_option maxRecDepth 100000 in
set_option maxHeartbeats 64000000 in
theorem boxes_walk (mx:Bool) {va:Option Addr} {n vc:Nat} {V:Nat→PV} {ZV:Nat→Nat} {p:Bool} {a:Option Addr} {na ca:Nat} {d:Option Addr} {nd cd:Nat} {k:Rat} {Sk:Nat} (w:World) (hv:LV w va n V ZV) (hvc:n≤vc) (hk:TR w p a na ca d nd cd k Sk) (hk1:1≤Sk) (hK:Sk + tot ZV n + 1≤1048572) (hT:TB w) {eS eP eR eD:Value} {pV pB:Addr} (EH:EE w eS eP (.iface 131 (.pointer (some pV))) (.iface 131 (.pointer (some pB))) eR eD) :
  Calls Tryz.prog 3 #[.bool mx,.slice va n vc,.agg #[.bool p,.slice a na ca,.slice d nd cd]] w fun e w'=>e = .returned (.bool true)∧Below w.heap.size w w':=by
 have hP:PQ w (bxP mx p a na ca d nd cd va n vc k V ZV Sk):=bxP_q hk hk1 hv hvc
 have HINF:=fun w1 (hb:Below w.heap.size w w1)=>chk2 (bxP mx p a na ca d nd cd va n vc k V ZV Sk) bxI w1 rfl (hP.below hb) (bxI_q w1) (show Sk + tot ZV n + 1 + 4≤1048576 by omega) (hT.below hb) (EH.below hb)
 have HP:Hid (PQ w (bxP mx p a na ca d nd cd va n vc k V ZV Sk)):=hP
 have htl:=tot_len ZV n
 have hn6:n≤1048576:=by omega
 have Kb:=box_new w #[.bool p,.slice a na ca,.slice d nd cd] 28
 have hb0:=bel_d0 w (.cells #[.bool p,.slice a na ca,.slice d nd cd] 28)
 go_enter Tryz.func3,Tryz.ntmps3
 go_wp2_with fail
 generalize w.alloc (.cells #[.bool p,.slice a na ca,.slice d nd cd] 28) = W0 at *
 refine (awake14 W0 (hT.below hb0) (EH.below hb0)).mono ?_
 rintro e w1 ⟨rfl,h1⟩
 replace Kb:=Kb.below h1
 replace hb0:=bel_tr hb0 h1
 have hsz1:=hb0.size
 have k0:=Kb 0 _ rfl
 have k1:=Kb 1 _ rfl
 have k2:=Kb 2 _ rfl
 have Pb:=box_new w1 #[.bool mx,.string ⟨#[]⟩,.bool p,.slice a na ca,.slice d nd cd,.slice va n vc,.slice none 0 0] 32
 have hx1:=bel_d0 w1 (.cells #[.bool mx,.string ⟨#[]⟩,.bool p,.slice a na ca,.slice d nd cd,.slice va n vc,.slice none 0 0] 32)
 have hs1:(w1.alloc (.cells #[.bool mx,.string ⟨#[]⟩,.bool p,.slice a na ca,.slice d nd cd,.slice va n vc,.slice none 0 0] 32)).heap.size = w1.heap.size + 1:=by simp
 have Rc:=Rw.new 35 (w1.alloc (.cells #[.bool mx,.string ⟨#[]⟩,.bool p,.slice a na ca,.slice d nd cd,.slice va n vc,.slice none 0 0] 32)) #[.int .i64 1,.bool false,.slice none 0 0,.slice none 0 0,.slice none 0 0,.slice none 0 0,.slice none 0 0]
 have hx2:=bel_d0 (w1.alloc (.cells #[.bool mx,.string ⟨#[]⟩,.bool p,.slice a na ca,.slice d nd cd,.slice va n vc,.slice none 0 0] 32)) (.cells #[.int .i64 1,.bool false,.slice none 0 0,.slice none 0 0,.slice none 0 0,.slice none 0 0,.slice none 0 0] 35)
 have hs2:((w1.alloc (.cells #[.bool mx,.string ⟨#[]⟩,.bool p,.slice a na ca,.slice d nd cd,.slice va n vc,.slice none 0 0] 32)).alloc (.cells #[.int .i64 1,.bool false,.slice none 0 0,.slice none 0 0,.slice none 0 0,.slice none 0 0,.slice none 0 0] 35)).heap.size = w1.heap.size + 2:=by simp
 rw [hs1] at Rc
 replace Pb:=Pb.below hx2
 have hbL:=bel_tr hb0 (bel_tr hx1 hx2)
 clear h1 hx1 hx2 hs1 Kb hk hb0
 go_wp2
 clear k0 k1 k2
 generalize (w1.alloc (.cells #[.bool mx,.string ⟨#[]⟩,.bool p,.slice a na ca,.slice d nd cd,.slice va n vc,.slice none 0 0] 32)).alloc (.cells #[.int .i64 1,.bool false,.slice none 0 0,.slice none 0 0,.slice none 0 0,.slice none 0 0,.slice none 0 0] 35) = WL at *
 have hBI:BI mx V ZV n w w1 ([.bool mx,.string ⟨#[]⟩,.bool p,.slice a na ca,.slice d nd cd,.slice va n vc,.slice none 0 0]:List Value) 0 (.slice none 0 0) (.slice none 0 0) WL:=⟨Nat.zero_le _,Rc,TX.nil _ _ _ _ _,RL.nil _ _ _ _,NE.nil _,Pb,hbL,Nat.le_of_eq hs2.symm,fun i hi=>absurd hi (Nat.not_lt_zero _)⟩
 clear Rc Pb hbL hs2
 go_loopw [10] (fun s10 wr=>∃ (j:Nat),s10 = .int .i64 j∧BS mx V ZV n w w1 ([.bool mx,.string ⟨#[]⟩,.bool p,.slice a na ca,.slice d nd cd,.slice va n vc,.slice none 0 0]:List Value) j wr) (fun s10 _=>n - (intOf s10).toNat)
 case atStart=>exact ⟨0,rfl,_,_,hBI⟩
 case round =>
  clear hBI
  obtain ⟨j,rfl,sX,sZ,I⟩:=hrel
  have hjn:=I.le
  by_cases hlt:j < n
  ·have hkI:(j:Int) < (n:Int):=by omega
   have hkI13:(j:Int) * 13 = ((j * 13:Nat):Int):=by omega
   rcases hv with h0 | ⟨vb,vo,rfl,hev⟩
   ·omega
   have hV:=hev j hlt
   have hZ1:=hV.s1
   have hZj:ZV j≤1048576:=by have:=tot_le (Z:=ZV) hlt;omega
   obtain ⟨nmV,enm⟩:∃ nmV,nmV = (V j).nm:=⟨_,rfl⟩
   obtain ⟨hl,ehl⟩:∃ hl,hl = (V j).hlo:=⟨_,rfl⟩
   obtain ⟨hh,ehh⟩:∃ hh,hh = (V j).hhi:=⟨_,rfl⟩
   obtain ⟨wh,ewh⟩:∃ wh,wh = (V j).whole:=⟨_,rfl⟩
   have r0:=hV.nm
   obtain ⟨pO,aO,nO,cO,dO,mO,lO,r1,r2,r3,tO⟩:=hV.obj
   have r4:=hV.hlo
   obtain ⟨pl,al,nl,cl,dl,ml,ll,r5,r6,r7,tl⟩:=hV.lo
   have r8:=hV.hhi
   obtain ⟨ph,ah,nh,ch,dh,mh,lh,r9,r10,r11,th⟩:=hV.hi
   have r12:=hV.whole
   rw [← enm] at r0
   rw [← ehl] at r4
   rw [← ehh] at r8
   rw [← ewh] at r12
   replace r0:=kept_c I.bel r0;replace r1:=kept_c I.bel r1;replace r2:=kept_c I.bel r2;replace r3:=kept_c I.bel r3;replace r4:=kept_c I.bel r4;replace r5:=kept_c I.bel r5;replace r6:=kept_c I.bel r6;replace r7:=kept_c I.bel r7;replace r8:=kept_c I.bel r8;replace r9:=kept_c I.bel r9;replace r10:=kept_c I.bel r10;replace r11:=kept_c I.bel r11;replace r12:=kept_c I.bel r12
   have HE:Hid (hl = (V j).hlo∧hh = (V j).hhi):=⟨ehl,ehh⟩
   clear hev hV enm ehl ehh ewh
   have hsI:=I.sz
   cases hl <;> cases hh
   ·have VD:=box_new wr #[.string nmV,.bool pO,.slice aO nO cO,.slice dO mO lO,.bool false,.bool pl,.slice al nl cl,.slice dl ml ll,.bool false,.bool ph,.slice ah nh ch,.slice dh mh lh,.bool wh] 39
    have hz:=bel_d0 wr (.cells #[.string nmV,.bool pO,.slice aO nO cO,.slice dO mO lO,.bool false,.bool pl,.slice al nl cl,.slice dl ml ll,.bool false,.bool ph,.slice ah nh ch,.slice dh mh lh,.bool wh] 39)
    have hsD:(wr.alloc (.cells #[.string nmV,.bool pO,.slice aO nO cO,.slice dO mO lO,.bool false,.bool pl,.slice al nl cl,.slice dl ml ll,.bool false,.bool ph,.slice ah nh ch,.slice dh mh lh,.bool wh] 39)).heap.size = wr.heap.size + 1:=by simp
    have v0:=VD 0 _ rfl;have v1:=VD 1 _ rfl;have v2:=VD 2 _ rfl;have v3:=VD 3 _ rfl;have v4:=VD 4 _ rfl;have v5:=VD 5 _ rfl;have v6:=VD 6 _ rfl;have v7:=VD 7 _ rfl;have v8:=VD 8 _ rfl;have v9:=VD 9 _ rfl;have v10:=VD 10 _ rfl;have v11:=VD 11 _ rfl;have v12:=VD 12 _ rfl
    go_wp2_with fail
    obtain ⟨RV,hRV⟩:∃ R,R = wr.heap.size:=⟨_,rfl⟩
    have hRV2:w1.heap.size + 2≤RV:=by omega
    try rw [← hRV]
    rw [← hRV] at hsD VD
    clear v0 v1 v2 v3 v4 v5 v6 v7 v8 v9 v10 v11 v12 r0 r1 r2 r3 r4 r5 r6 r7 r8 r9 r10 r11 r12
    have Rc:=I.rc.below hz
    have hTX:=I.tx.below (by omega) hz
    have hRL:=I.rl.below hz
    have hNE:=I.ne
    have hXV:sX.ownBlock ≠ some RV:=fun e=>by have:=I.tx.lt _ e;omega
    have Pb:=I.pb.below hz
    have hbw:=bel_tr I.bel hz
    have HNC:Hid (∀ i,i < j→¬ crv (V i)):=I.nc
    clear I hz hRV hsI
    generalize wr.alloc (.cells #[.string nmV,.bool pO,.slice aO nO cO,.slice dO mO lO,.bool false,.bool pl,.slice al nl cl,.slice dl ml ll,.bool false,.bool ph,.slice ah nh ch,.slice dh mh lh,.bool wh] 39) = w2 at *
    have HCV:Hid (¬ crv (V j)):=fun h=>by have h1:=h.1;rw [← HE.out.1] at h1;cases h1
    rcases rat3 (msn mx (V j).obj) with hsn | hsn | hsn
    ·have HSG:Hid ((V j).obj.num.sign = if mx = true then -(-1) else (-1)):=msn_sgn (sgn_neg hsn)
     have HBX:Hid (bx mx (V j) = 0):=bx_0 HE.out.2 HE.out.1
     have HBZ:Hid (bz mx (V j) = 1):=bz_p HE.out.2 hsn
     have HVD:Hid (vdj mx V (j + 1) = 3):=by
      show vdj mx V (j + 1) = _
      rw [vdj_succ,HBZ.out,if_neg (by decide)]
     clear hsn
     refine (signD w2 (tO.below hbw) (by omega) hZ1).mono ?_
     rintro e w4 ⟨rfl,h4⟩
     obtain ⟨s0,es0⟩:∃ s0,s0 = (V j).obj.num.sign:=⟨_,rfl⟩
     rw [← es0]
     have HS0:Hid (s0 = if mx = true then -(-1) else (-1)):=es0.trans HSG.out
     clear es0
     replace Rc:=Rc.below h4
     replace hTX:=hTX.below (by omega) h4
     replace hRL:=hRL.below h4
     replace Pb:=Pb.below h4
     replace VD:=VD.below h4
     replace hbw:=bel_tr hbw h4
     have hs4:=h4.size
     clear h4 HSG
     have hbA:=bel_d0 w4 (.cells #[.bool false,.slice none 0 0,.slice none 0 0] 28)
     have VDa:=VD.below hbA
     have hbB:=bel_d0 w4 (.cells #[.bool false,.slice none 0 0,.slice none 0 0] 28)
     have VX:=var3_new w4 (.bool false) (.slice none 0 0) (.slice none 0 0) 28
     have Rcb:=Rc.below hbB
     have c4:=(Rcb.cell 4).trans (show _ = some sX from rfl)
     have v4:=VDa 4 _ rfl;have v5:=VDa 5 _ rfl;have v6:=VDa 6 _ rfl;have v7:=VDa 7 _ rfl;have v8:=VDa 8 _ rfl;have v9:=VDa 9 _ rfl;have v10:=VDa 10 _ rfl;have v11:=VDa 11 _ rfl
     have x0:=VX.c0;have x1:=VX.c1;have x2:=VX.c2
     have hTXb:=hTX.below (by omega) hbB
     have hRLb:=hRL.below hbB
     have hsb:(w4.alloc (.cells #[.bool false,.slice none 0 0,.slice none 0 0] 28)).heap.size = w4.heap.size + 1:=by simp
     have hbwb:=bel_tr hbw hbB
     have hcc:=bel_d0 (w4.alloc (.cells #[.bool false,.slice none 0 0,.slice none 0 0] 28)) (.cells #[.bool false,.slice none 0 0,.slice none 0 0] 28)
     have hXG:∀ w',Below w1.heap.size ((w4.alloc (.cells #[.bool false,.slice none 0 0,.slice none 0 0] 28)).alloc (.cells #[.bool false,.slice none 0 0,.slice none 0 0] 28)) w'→TR w' false none 0 0 none 0 0 (bx mx (V j)) (ZV j):=fun w' q=>by
      rw [HBX.out]
      exact (tr_o14 w').up hZ1
     obtain ⟨xf,xe⟩:∃ f:Nat→Rat,f = fun i=>bx mx (V i):=⟨_,rfl⟩
     have HGX:Hid (∀ w',Below w1.heap.size ((w4.alloc (.cells #[.bool false,.slice none 0 0,.slice none 0 0] 28)).alloc (.cells #[.bool false,.slice none 0 0,.slice none 0 0] 28)) w'→TR w' false none 0 0 none 0 0 (xf j) (ZV j)):=by rw [xe];exact hXG
     rw [← xe] at hTX hTXb
     have HXE:Hid (xf = fun i=>bx mx (V i)):=xe
     obtain ⟨zf,ze⟩:∃ f:Nat→Rat,f = fun i=>((bz mx (V i):Int):Rat):=⟨_,rfl⟩
     rw [← ze] at hRL hRLb
     have HZE:Hid (zf = fun i=>((bz mx (V i):Int):Rat)):=ze
     have HZV:Hid (zf j = ((1:Int):Rat)):=by show zf j = _;rw [ze];show ((bz mx (V j):Int):Rat) = _;rw [HBZ.out]
     have HFIN:Hid (∀ (sX2 sZ2:Value) (w9:World),Rw 35 w9 (w1.heap.size + 1) #[.int .i64 3,.bool false,.slice none 0 0,.slice none 0 0,sX2,.slice none 0 0,sZ2]→TX w9 w1.heap.size (w1.heap.size + 2) sX2 (j + 1) xf ZV→RL w9 (w1.heap.size + 2) sZ2 (j + 1) zf 1→NE sX2 sZ2→BoxC w9 w1.heap.size ([.bool mx,.string ⟨#[]⟩,.bool p,.slice a na ca,.slice d nd cd,.slice (some ⟨vb,vo,none⟩) n vc,.slice none 0 0]:List Value)→Below w.heap.size w w9→w1.heap.size + 2≤w9.heap.size→BS mx V ZV n w w1 ([.bool mx,.string ⟨#[]⟩,.bool p,.slice a na ca,.slice d nd cd,.slice (some ⟨vb,vo,none⟩) n vc,.slice none 0 0]:List Value) (j + 1) w9):=fun sX2 sZ2 w9 g1 g2 g3 g4 g5 g6 g7=>⟨sX2,sZ2,hlt,by rw [HVD.out];exact g1,by rw [HXE.out] at g2;exact g2,by rw [HZE.out] at g3;exact g3,g4,g5,g6,g7,fun i hi=>by
      rcases (by omega:i < j∨i = j) with hi | rfl
      ·exact HNC.out i hi
      ·exact HCV.out⟩
     clear hbA VDa VX hXG xe ze HXE HZE HVD HBX HBZ HNC HCV hTX hRL hcc
     obtain ⟨vd0,evd⟩:∃ v,v = vdj mx V j:=⟨_,rfl⟩
     rw [← evd] at Rc Rcb
     clear evd
     simp only []
     iterate 8 go_step
     refine wp_cutR 12 (J12 w4 (-1)) ?_ ?_
     ·have hs0:=HS0.out
      cases mx
      ·obtain rfl:s0 = -1:=hs0.trans (if_neg (by decide))
       clear hs0 HS0
       go_wp2_with fail
       first | exact ⟨rfl,rfl,_,_,_,rfl⟩ | (unfold J12;exact ⟨rfl,_,_,_,rfl⟩)
      ·obtain rfl:s0 = -(-1):=hs0.trans (if_pos rfl)
       clear hs0 HS0
       go_wp2_with fail
       first | exact ⟨rfl,rfl,_,_,_,rfl⟩ | (unfold J12;exact ⟨rfl,_,_,_,rfl⟩)
     clear HS0
     rintro a' w' ⟨rfl,u1,u2,u3,rfl⟩
     simp only [Act.put,List.setIfInBounds_toArray,List.set_cons_zero,List.set_cons_succ]
     go_wp2_with (at_builtin;refine wpList_appendTX _ rfl _ _ rfl w1.heap.size (w1.heap.size + 2) sX j xf ZV rfl (hTXb.below (by omega) (bel_d0 _ _)) (w4.heap.size + 1) _ rfl false none 0 0 none 0 0 (cell_new3 (by simp)) HGX.out (by omega) (by omega) (by simp;omega) (w4.heap.size + 2) (by simp) ?_)
     intro gN capN w5 SN hg hat hlt5
     clear c4 x0 x1 x2 v4 v5 v6 v7 v8 v9 v10 v11 HGX
     have hcc:=bel_d0 (w4.alloc (.cells #[.bool false,.slice none 0 0,.slice none 0 0] 28)) (.cells #[.bool false,.slice none 0 0,.slice none 0 0] 28)
     have hrow:∀ g,sX.ownBlock = some g→w1.heap.size + 2≤g∧g < w4.heap.size + 1:=fun g e=>by have:=hTXb.lt g e;omega
     have Rc5:=(Rcb.below hcc).grown hg (fun e=>by have:=hrow _ e;omega)
     have hRL5:=(hRLb.below hcc).growT (hTXb.below (by omega) hcc) hNE.symm hg
     have hNE5:NE (.slice (some ⟨gN,0,none⟩) (j + 1) capN) sZ:=hNE.grown (H:=w4.heap.size + 2) (fun g e=>by have:=(hRLb.below hcc).lt g e;simp at this;omega) hat (Nat.le_refl _)
     have Pb5:=(((Pb.below hbB).below hcc)).grown hg (fun e=>by have:=hrow _ e;omega)
     have VD5:=(((VD.below hbB).below hcc)).grown hg hXV
     have hbw5:Below w.heap.size w w5:=(bel_tr hbwb hcc).trans (grown_below hg (by simp;omega) (fun g e=>by have:=hrow g e;omega))
     have hs5:w4.heap.size + 2≤w5.heap.size:=by have:=hg.size;simp at this;omega
     clear Rc Rcb hTXb hRLb hbwb hcc hg hat hbB Pb VD hbw hNE
     have c4:=(Rc5.cell 4).trans (show _ = some sX from rfl)
     have f4:=Rc5.frozen 4
     go_wp2_with fail
     clear c4 f4
     obtain ⟨Rc6,O⟩:=Rc5.set 4 (.slice (some ⟨gN,0,none⟩) (j + 1) capN)
     have hTX6:=SN.off O (by omega) (by omega)
     have hRL6:=hRL5.off O (by omega)
     have Pb6:=Pb5.off O (by omega)
     have VD6:=VD5.off O (by omega)
     have hbw6:=hbw5.trans (O.below (by omega))
     have hs6:w5.heap.size≤(w5.setCell ⟨w1.heap.size + 1,4,none⟩ (.slice (some ⟨gN,0,none⟩) (j + 1) capN)).heap.size:=by simp
     clear Rc5 SN hRL5 Pb5 VD5 hbw5 O hrow
     generalize w5.setCell ⟨w1.heap.size + 1,4,none⟩ (.slice (some ⟨gN,0,none⟩) (j + 1) capN) = w6 at *
     refine (nQ14 0 w6 (by decide) (by decide)).mono ?_
     rintro e w7 ⟨f7,c7,n7,k7,d7,m7,l7,rfl,G7,h7⟩
     have hs7:=h7.size
     have hz7:=bel_d0 w7 (.cells #[.bool f7,.slice c7 n7 k7,.slice d7 m7 l7] 28)
     have hs8:(w7.alloc (.cells #[.bool f7,.slice c7 n7 k7,.slice d7 m7 l7] 28)).heap.size = w7.heap.size + 1:=by simp
     have Rc8:=(Rc6.below h7).below hz7
     have hTX8:=(hTX6.below (by omega) h7).below (by omega) hz7
     have hRL8:=(hRL6.below h7).below hz7
     have Pb8:=(Pb6.below h7).below hz7
     have VD8:=(VD6.below h7).below hz7
     have hXR:(Value.slice (some ⟨gN,0,none⟩) (j + 1) capN).ownBlock ≠ some w7.heap.size:=fun e=>by have:=(hTX6.below (by omega) h7).lt _ e;omega
     have hZR:sZ.ownBlock ≠ some w7.heap.size:=fun e=>by have:=(hRL6.below h7).lt _ e;omega
     have RZ8:=Rw.new 28 w7 #[.bool f7,.slice c7 n7 k7,.slice d7 m7 l7]
     have VZ8:=var3_new w7 (.bool f7) (.slice c7 n7 k7) (.slice d7 m7 l7) 28
     have hbw8:=bel_tr (bel_tr hbw6 h7) hz7
     have G8:=G7.below hz7
     have v4:=VD8 4 _ rfl;have v8:=VD8 8 _ rfl
     obtain ⟨z0,z1,z2,z3,z4,z5⟩:=id VZ8
     clear Rc6 hTX6 hRL6 Pb6 VD6 hbw6 h7 hz7 G7
     go_wp2_with fail
     clear v4 v8 z0 z1 z2 z3 z4 z5
     obtain ⟨RZ,hRZ⟩:∃ R,R = w7.heap.size:=⟨_,rfl⟩
     rw [← hRZ] at VZ8 hs8 hXR hZR RZ8 ⊢
     have hRZ2:w5.heap.size≤RZ:=by omega
     clear hRZ hs7
     generalize w7.alloc (.cells #[.bool f7,.slice c7 n7 k7,.slice d7 m7 l7] 28) = w8 at *
     refine (nQ14 (1) w8 (by decide) (by decide)).mono ?_
     rintro e w9 ⟨f9,c9,n9,k9,d9,m9,l9,rfl,G9,h9⟩
     have hs9:=h9.size
     replace Rc8:=Rc8.below h9
     replace hTX8:=hTX8.below (by omega) h9
     replace hRL8:=hRL8.below h9
     replace Pb8:=Pb8.below h9
     replace VD8:=VD8.below h9
     replace VZ8:=VZ8.below h9
     replace RZ8:=RZ8.below h9
     replace hbw8:=bel_tr hbw8 h9
     obtain ⟨VZ,O⟩:=VZ8.set (.bool f9) (.slice c9 n9 k9) (.slice d9 m9 l9)
     have GZ:=(G9.gx (R:=RZ) (.inl (by omega))).off O
     have VDn:=VD8.off O (by omega)
     obtain ⟨z0,z1,z2,z3,z4,z5⟩:=id VZ8
     have y0:=VZ.c0;have y1:=VZ.c1;have y2:=VZ.c2
     have v4:=VDn 4 _ rfl;have v8:=VDn 8 _ rfl
     have RcN:=Rc8.off O (by omega)
     have TXN:=hTX8.off2 O (by omega) hXR
     have RLN:=hRL8.off2 O RZ8 hZR
     have PbN:=Pb8.off O (by omega)
     have hbwN:=hbw8.trans (O.below (by omega))
     have hsN:w9.heap.size≤(((w9.setCell ⟨RZ,0,none⟩ (.bool f9)).setCell ⟨RZ,1,none⟩ (.slice c9 n9 k9)).setCell ⟨RZ,2,none⟩ (.slice d9 m9 l9)).heap.size:=by simp
     clear h9 Rc8 hTX8 hRL8 Pb8 VD8 VZ8 hbw8 O G8 G9
     go_wp2_with fail
     clear z0 z1 z2 z3 z4 z5 y0 y1 y2 v4 v8
     generalize ((w9.setCell ⟨RZ,0,none⟩ (.bool f9)).setCell ⟨RZ,1,none⟩ (.slice c9 n9 k9)).setCell ⟨RZ,2,none⟩ (.slice d9 m9 l9) = w10 at *
     have G10:=GZ.1
     refine (signD w10 G10.tr (by omega) (by omega)).mono ?_
     rintro e w11 ⟨rfl,h11⟩
     rw [show (((1:Int):Rat)).num.sign = 1 from rfl]
     have hs11:=h11.size
     replace RcN:=RcN.below h11
     replace TXN:=TXN.below (by omega) h11
     replace RLN:=RLN.below h11
     replace PbN:=PbN.below h11
     replace VZ:=VZ.below h11
     replace hbwN:=bel_tr hbwN h11
     replace G10:=G10.below h11
     clear h11 VDn
     obtain ⟨RcM,O⟩:=RcN.set 0 (.int .i64 3)
     have c0:=(RcN.cell 0).trans (show _ = some (Value.int .i64 vd0) from rfl)
     have f0:=RcN.frozen 0
     have TXM:=TXN.off O (by omega) (by omega)
     have RLM:=RLN.off O (by omega)
     have PbM:=PbN.off O (by omega)
     have VZM:=VZ.off O (by omega)
     have hbwM:=hbwN.trans (O.below (by omega))
     have GM:=G10.off O (by omega)
     have hsM:(w11.setCell ⟨w1.heap.size + 1,0,none⟩ (.int .i64 3)).heap.size = w11.heap.size:=by simp
     clear RcN TXN RLN PbN VZ hbwN G10
     have c6:=(RcM.cell 6).trans (show _ = some sZ from rfl)
     have y0:=VZM.c0;have y1:=VZM.c1;have y2:=VZM.c2
     have GB:GR ((w11.setCell ⟨w1.heap.size + 1,0,none⟩ (.int .i64 3)).alloc (.cells #[.bool f9,.slice c9 n9 k9,.slice d9 m9 l9] 28)) (w1.heap.size + 2) f9 c9 n9 k9 d9 m9 l9 (zf j) 1:=((GM.mono (by omega)).below (bel_d0 _ _)).val HZV.out.symm
     go_wp2_with (at_builtin;refine wpList_appendR _ rfl _ _ rfl (w1.heap.size + 2) sZ j zf 1 rfl (RLM.below (bel_d0 _ _)) w11.heap.size _ rfl f9 c9 n9 k9 d9 m9 l9 (cell_new3 (by simp)) GB (by omega) (by simp;omega) (w11.heap.size + 1) (by simp) ?_)
     intro gM capM w13 SM hg hat hlt13
     clear c6 y0 y1 y2 c0 f0
     have hcc:=bel_d0 (w11.setCell ⟨w1.heap.size + 1,0,none⟩ (.int .i64 3)) (.cells #[.bool f9,.slice c9 n9 k9,.slice d9 m9 l9] 28)
     have hrow:∀ g,sZ.ownBlock = some g→w1.heap.size + 2≤g∧g < w11.heap.size:=fun g e=>by have:=RLM.lt g e;omega
     have hrow2:∀ g,(Value.slice (some ⟨gN,0,none⟩) (j + 1) capN).ownBlock = some g→g < w11.heap.size:=fun g e=>by have:=TXM.lt g e;omega
     have Rc14:=(RcM.below hcc).grown hg (fun e=>by have:=hrow _ e;omega)
     have TX14:=(TXM.below (by omega) hcc).growR (by omega) (by simp;omega) (RLM.below hcc) hNE5 hg
     have NE14:NE (.slice (some ⟨gN,0,none⟩) (j + 1) capN) (.slice (some ⟨gM,0,none⟩) (j + 1) capM):=(hNE5.symm.grown (H:=w11.heap.size + 1) (fun g e=>by have:=hrow2 g e;omega) hat (Nat.le_refl _)).symm
     have Pb14:=(PbM.below hcc).grown hg (fun e=>by have:=hrow _ e;omega)
     have hbw14:Below w.heap.size w w13:=(bel_tr hbwM hcc).trans (grown_below hg (by simp;omega) (fun g e=>by have:=hrow g e;omega))
     have hs14:w11.heap.size + 1≤w13.heap.size:=by have:=hg.size;simp at this;omega
     clear RcM TXM RLM PbM VZM hbwM GM GB hcc hg hat
     obtain ⟨Rc15,O⟩:=Rc14.set 6 (.slice (some ⟨gM,0,none⟩) (j + 1) capM)
     have TX15:=TX14.off O (by omega) (by omega)
     have RL15:=SM.off O (by omega)
     have Pb15:=Pb14.off O (by omega)
     have hbw15:=hbw14.trans (O.below (by omega))
     have hs15:w1.heap.size + 2≤(w13.setCell ⟨w1.heap.size + 1,6,none⟩ (.slice (some ⟨gM,0,none⟩) (j + 1) capM)).heap.size:=by simp;omega
     have hBS:=HFIN.out _ _ _ Rc15 TX15 RL15 NE14 Pb15 hbw15 hs15
     have c6:=(Rc14.cell 6).trans (show _ = some sZ from rfl)
     have f6:=Rc14.frozen 6
     clear Rc14 TX14 SM Pb14 hbw14 O Rc15 TX15 RL15 NE14 Pb15 hbw15 hs15 HFIN HZV hrow hrow2
     go_wp2
     go_roundw
     case rel=>first | exact ⟨j + 1,by go_num,hBS⟩ | ((repeat apply Exists.intro);refine ⟨?_,rfl⟩;exact ⟨j + 1,by go_num,hBS⟩)
     case measure=>simp [intOf];omega
    ·have HSG:Hid ((V j).obj.num.sign = if mx = true then -(0) else (0)):=msn_sgn (sgn_nil hsn)
     have HBX:Hid (bx mx (V j) = 0):=bx_0 HE.out.2 HE.out.1
     have HBZ:Hid (bz mx (V j) = 0):=bz_0m hsn
     have HVD:Hid (vdj mx V (j + 1) = vdj mx V j):=by
      show vdj mx V (j + 1) = _
      rw [vdj_succ,HBZ.out,if_pos rfl]
     clear hsn
     refine (signD w2 (tO.below hbw) (by omega) hZ1).mono ?_
     rintro e w4 ⟨rfl,h4⟩
     obtain ⟨s0,es0⟩:∃ s0,s0 = (V j).obj.num.sign:=⟨_,rfl⟩
     rw [← es0]
     have HS0:Hid (s0 = if mx = true then -(0) else (0)):=es0.trans HSG.out
     clear es0
     replace Rc:=Rc.below h4
     replace hTX:=hTX.below (by omega) h4
     replace hRL:=hRL.below h4
     replace Pb:=Pb.below h4
     replace VD:=VD.below h4
     replace hbw:=bel_tr hbw h4
     have hs4:=h4.size
     clear h4 HSG
     have hbA:=bel_d0 w4 (.cells #[.bool false,.slice none 0 0,.slice none 0 0] 28)
     have VDa:=VD.below hbA
     have hbB:=bel_d0 w4 (.cells #[.bool false,.slice none 0 0,.slice none 0 0] 28)
     have VX:=var3_new w4 (.bool false) (.slice none 0 0) (.slice none 0 0) 28
     have Rcb:=Rc.below hbB
     have c4:=(Rcb.cell 4).trans (show _ = some sX from rfl)
     have v4:=VDa 4 _ rfl;have v5:=VDa 5 _ rfl;have v6:=VDa 6 _ rfl;have v7:=VDa 7 _ rfl;have v8:=VDa 8 _ rfl;have v9:=VDa 9 _ rfl;have v10:=VDa 10 _ rfl;have v11:=VDa 11 _ rfl
     have x0:=VX.c0;have x1:=VX.c1;have x2:=VX.c2
     have hTXb:=hTX.below (by omega) hbB
     have hRLb:=hRL.below hbB
     have hsb:(w4.alloc (.cells #[.bool false,.slice none 0 0,.slice none 0 0] 28)).heap.size = w4.heap.size + 1:=by simp
     have hbwb:=bel_tr hbw hbB
     have hcc:=bel_d0 (w4.alloc (.cells #[.bool false,.slice none 0 0,.slice none 0 0] 28)) (.cells #[.bool false,.slice none 0 0,.slice none 0 0] 28)
     have hXG:∀ w',Below w1.heap.size ((w4.alloc (.cells #[.bool false,.slice none 0 0,.slice none 0 0] 28)).alloc (.cells #[.bool false,.slice none 0 0,.slice none 0 0] 28)) w'→TR w' false none 0 0 none 0 0 (bx mx (V j)) (ZV j):=fun w' q=>by
      rw [HBX.out]
      exact (tr_o14 w').up hZ1
     obtain ⟨xf,xe⟩:∃ f:Nat→Rat,f = fun i=>bx mx (V i):=⟨_,rfl⟩
     have HGX:Hid (∀ w',Below w1.heap.size ((w4.alloc (.cells #[.bool false,.slice none 0 0,.slice none 0 0] 28)).alloc (.cells #[.bool false,.slice none 0 0,.slice none 0 0] 28)) w'→TR w' false none 0 0 none 0 0 (xf j) (ZV j)):=by rw [xe];exact hXG
     rw [← xe] at hTX hTXb
     have HXE:Hid (xf = fun i=>bx mx (V i)):=xe
     obtain ⟨zf,ze⟩:∃ f:Nat→Rat,f = fun i=>((bz mx (V i):Int):Rat):=⟨_,rfl⟩
     rw [← ze] at hRL hRLb
     have HZE:Hid (zf = fun i=>((bz mx (V i):Int):Rat)):=ze
     have HZV:Hid (zf j = ((0:Int):Rat)):=by show zf j = _;rw [ze];show ((bz mx (V j):Int):Rat) = _;rw [HBZ.out]
     have HFIN:Hid (∀ (sX2 sZ2:Value) (w9:World),Rw 35 w9 (w1.heap.size + 1) #[.int .i64 (vdj mx V j),.bool false,.slice none 0 0,.slice none 0 0,sX2,.slice none 0 0,sZ2]→TX w9 w1.heap.size (w1.heap.size + 2) sX2 (j + 1) xf ZV→RL w9 (w1.heap.size + 2) sZ2 (j + 1) zf 1→NE sX2 sZ2→BoxC w9 w1.heap.size ([.bool mx,.string ⟨#[]⟩,.bool p,.slice a na ca,.slice d nd cd,.slice (some ⟨vb,vo,none⟩) n vc,.slice none 0 0]:List Value)→Below w.heap.size w w9→w1.heap.size + 2≤w9.heap.size→BS mx V ZV n w w1 ([.bool mx,.string ⟨#[]⟩,.bool p,.slice a na ca,.slice d nd cd,.slice (some ⟨vb,vo,none⟩) n vc,.slice none 0 0]:List Value) (j + 1) w9):=fun sX2 sZ2 w9 g1 g2 g3 g4 g5 g6 g7=>⟨sX2,sZ2,hlt,by rw [HVD.out];exact g1,by rw [HXE.out] at g2;exact g2,by rw [HZE.out] at g3;exact g3,g4,g5,g6,g7,fun i hi=>by
      rcases (by omega:i < j∨i = j) with hi | rfl
      ·exact HNC.out i hi
      ·exact HCV.out⟩
     clear hbA VDa VX hXG xe ze HXE HZE HVD HBX HBZ HNC HCV hTX hRL hcc
     obtain ⟨vd0,evd⟩:∃ v,v = vdj mx V j:=⟨_,rfl⟩
     rw [← evd] at Rc Rcb HFIN
     clear evd
     simp only []
     iterate 8 go_step
     refine wp_cutR 12 (J12 w4 (0)) ?_ ?_
     ·have hs0:=HS0.out
      cases mx
      ·obtain rfl:s0 = 0:=hs0.trans (if_neg (by decide))
       clear hs0 HS0
       go_wp2_with fail
       first | exact ⟨rfl,rfl,_,_,_,rfl⟩ | (unfold J12;exact ⟨rfl,_,_,_,rfl⟩)
      ·obtain rfl:s0 = -(0):=hs0.trans (if_pos rfl)
       clear hs0 HS0
       go_wp2_with fail
       first | exact ⟨rfl,rfl,_,_,_,rfl⟩ | (unfold J12;exact ⟨rfl,_,_,_,rfl⟩)
     clear HS0
     rintro a' w' ⟨rfl,u1,u2,u3,rfl⟩
     simp only [Act.put,List.setIfInBounds_toArray,List.set_cons_zero,List.set_cons_succ]
     go_wp2_with (at_builtin;refine wpList_appendTX _ rfl _ _ rfl w1.heap.size (w1.heap.size + 2) sX j xf ZV rfl (hTXb.below (by omega) (bel_d0 _ _)) (w4.heap.size + 1) _ rfl false none 0 0 none 0 0 (cell_new3 (by simp)) HGX.out (by omega) (by omega) (by simp;omega) (w4.heap.size + 2) (by simp) ?_)
     intro gN capN w5 SN hg hat hlt5
     clear c4 x0 x1 x2 v4 v5 v6 v7 v8 v9 v10 v11 HGX
     have hcc:=bel_d0 (w4.alloc (.cells #[.bool false,.slice none 0 0,.slice none 0 0] 28)) (.cells #[.bool false,.slice none 0 0,.slice none 0 0] 28)
     have hrow:∀ g,sX.ownBlock = some g→w1.heap.size + 2≤g∧g < w4.heap.size + 1:=fun g e=>by have:=hTXb.lt g e;omega
     have Rc5:=(Rcb.below hcc).grown hg (fun e=>by have:=hrow _ e;omega)
     have hRL5:=(hRLb.below hcc).growT (hTXb.below (by omega) hcc) hNE.symm hg
     have hNE5:NE (.slice (some ⟨gN,0,none⟩) (j + 1) capN) sZ:=hNE.grown (H:=w4.heap.size + 2) (fun g e=>by have:=(hRLb.below hcc).lt g e;simp at this;omega) hat (Nat.le_refl _)
     have Pb5:=(((Pb.below hbB).below hcc)).grown hg (fun e=>by have:=hrow _ e;omega)
     have VD5:=(((VD.below hbB).below hcc)).grown hg hXV
     have hbw5:Below w.heap.size w w5:=(bel_tr hbwb hcc).trans (grown_below hg (by simp;omega) (fun g e=>by have:=hrow g e;omega))
     have hs5:w4.heap.size + 2≤w5.heap.size:=by have:=hg.size;simp at this;omega
     clear Rc Rcb hTXb hRLb hbwb hcc hg hat hbB Pb VD hbw hNE
     have c4:=(Rc5.cell 4).trans (show _ = some sX from rfl)
     have f4:=Rc5.frozen 4
     go_wp2_with fail
     clear c4 f4
     obtain ⟨Rc6,O⟩:=Rc5.set 4 (.slice (some ⟨gN,0,none⟩) (j + 1) capN)
     have hTX6:=SN.off O (by omega) (by omega)
     have hRL6:=hRL5.off O (by omega)
     have Pb6:=Pb5.off O (by omega)
     have VD6:=VD5.off O (by omega)
     have hbw6:=hbw5.trans (O.below (by omega))
     have hs6:w5.heap.size≤(w5.setCell ⟨w1.heap.size + 1,4,none⟩ (.slice (some ⟨gN,0,none⟩) (j + 1) capN)).heap.size:=by simp
     clear Rc5 SN hRL5 Pb5 VD5 hbw5 O hrow
     generalize w5.setCell ⟨w1.heap.size + 1,4,none⟩ (.slice (some ⟨gN,0,none⟩) (j + 1) capN) = w6 at *
     refine (nQ14 0 w6 (by decide) (by decide)).mono ?_
     rintro e w7 ⟨f7,c7,n7,k7,d7,m7,l7,rfl,G7,h7⟩
     have hs7:=h7.size
     have hz7:=bel_d0 w7 (.cells #[.bool f7,.slice c7 n7 k7,.slice d7 m7 l7] 28)
     have hs8:(w7.alloc (.cells #[.bool f7,.slice c7 n7 k7,.slice d7 m7 l7] 28)).heap.size = w7.heap.size + 1:=by simp
     have Rc8:=(Rc6.below h7).below hz7
     have hTX8:=(hTX6.below (by omega) h7).below (by omega) hz7
     have hRL8:=(hRL6.below h7).below hz7
     have Pb8:=(Pb6.below h7).below hz7
     have VD8:=(VD6.below h7).below hz7
     have VZ8:=var3_new w7 (.bool f7) (.slice c7 n7 k7) (.slice d7 m7 l7) 28
     have hbw8:=bel_tr (bel_tr hbw6 h7) hz7
     have G8:=G7.below hz7
     have v4:=VD8 4 _ rfl;have v8:=VD8 8 _ rfl
     obtain ⟨z0,z1,z2,z3,z4,z5⟩:=id VZ8
     clear Rc6 hTX6 hRL6 Pb6 VD6 hbw6 h7 hz7 G7
     go_wp2_with fail
     clear v4 v8 z0 z1 z2 z3 z4 z5
     obtain ⟨RZ,hRZ⟩:∃ R,R = w7.heap.size:=⟨_,rfl⟩
     rw [← hRZ] at VZ8 hs8 ⊢
     have hRZ2:w5.heap.size≤RZ:=by omega
     clear hRZ hs7
     generalize w7.alloc (.cells #[.bool f7,.slice c7 n7 k7,.slice d7 m7 l7] 28) = w8 at *
     have Rc10:=Rc8
     have RcN:=Rc8
     have TXN:=hTX8
     have RLN:=hRL8
     have PbN:=Pb8
     have hbwN:=hbw8
     have VZ:=VZ8
     have VDn:=VD8
     have G10:=G8
     have hsN:=Nat.le_refl w8.heap.size
     clear Rc8 hTX8 hRL8 Pb8 hbw8 VZ8 VD8 G8 Rc10
     refine (signD w8 G10.tr (by omega) (by omega)).mono ?_
     rintro e w11 ⟨rfl,h11⟩
     rw [show (((0:Int):Rat)).num.sign = 0 from rfl]
     have hs11:=h11.size
     replace RcN:=RcN.below h11
     replace TXN:=TXN.below (by omega) h11
     replace RLN:=RLN.below h11
     replace PbN:=PbN.below h11
     replace VZ:=VZ.below h11
     replace hbwN:=bel_tr hbwN h11
     replace G10:=G10.below h11
     clear h11 VDn
     have RcM:=RcN
     have TXM:=TXN
     have RLM:=RLN
     have PbM:=PbN
     have VZM:=VZ
     have hbwM:=hbwN
     have GM:=G10
     have hsM:=Eq.refl w11.heap.size
     clear RcN TXN RLN PbN VZ hbwN G10
     have c6:=(RcM.cell 6).trans (show _ = some sZ from rfl)
     have y0:=VZM.c0;have y1:=VZM.c1;have y2:=VZM.c2
     have GB:GR (w11.alloc (.cells #[.bool f7,.slice c7 n7 k7,.slice d7 m7 l7] 28)) (w1.heap.size + 2) f7 c7 n7 k7 d7 m7 l7 (zf j) 1:=((GM.mono (by omega)).below (bel_d0 _ _)).val HZV.out.symm
     go_wp2_with (at_builtin;refine wpList_appendR _ rfl _ _ rfl (w1.heap.size + 2) sZ j zf 1 rfl (RLM.below (bel_d0 _ _)) w11.heap.size _ rfl f7 c7 n7 k7 d7 m7 l7 (cell_new3 (by simp)) GB (by omega) (by simp;omega) (w11.heap.size + 1) (by simp) ?_)
     intro gM capM w13 SM hg hat hlt13
     clear c6 y0 y1 y2 
     have hcc:=bel_d0 w11 (.cells #[.bool f7,.slice c7 n7 k7,.slice d7 m7 l7] 28)
     have hrow:∀ g,sZ.ownBlock = some g→w1.heap.size + 2≤g∧g < w11.heap.size:=fun g e=>by have:=RLM.lt g e;omega
     have hrow2:∀ g,(Value.slice (some ⟨gN,0,none⟩) (j + 1) capN).ownBlock = some g→g < w11.heap.size:=fun g e=>by have:=TXM.lt g e;omega
     have Rc14:=(RcM.below hcc).grown hg (fun e=>by have:=hrow _ e;omega)
     have TX14:=(TXM.below (by omega) hcc).growR (by omega) (by simp;omega) (RLM.below hcc) hNE5 hg
     have NE14:NE (.slice (some ⟨gN,0,none⟩) (j + 1) capN) (.slice (some ⟨gM,0,none⟩) (j + 1) capM):=(hNE5.symm.grown (H:=w11.heap.size + 1) (fun g e=>by have:=hrow2 g e;omega) hat (Nat.le_refl _)).symm
     have Pb14:=(PbM.below hcc).grown hg (fun e=>by have:=hrow _ e;omega)
     have hbw14:Below w.heap.size w w13:=(bel_tr hbwM hcc).trans (grown_below hg (by simp;omega) (fun g e=>by have:=hrow g e;omega))
     have hs14:w11.heap.size + 1≤w13.heap.size:=by have:=hg.size;simp at this;omega
     clear RcM TXM RLM PbM VZM hbwM GM GB hcc hg hat
     obtain ⟨Rc15,O⟩:=Rc14.set 6 (.slice (some ⟨gM,0,none⟩) (j + 1) capM)
     have TX15:=TX14.off O (by omega) (by omega)
     have RL15:=SM.off O (by omega)
     have Pb15:=Pb14.off O (by omega)
     have hbw15:=hbw14.trans (O.below (by omega))
     have hs15:w1.heap.size + 2≤(w13.setCell ⟨w1.heap.size + 1,6,none⟩ (.slice (some ⟨gM,0,none⟩) (j + 1) capM)).heap.size:=by simp;omega
     have hBS:=HFIN.out _ _ _ Rc15 TX15 RL15 NE14 Pb15 hbw15 hs15
     have c6:=(Rc14.cell 6).trans (show _ = some sZ from rfl)
     have f6:=Rc14.frozen 6
     clear Rc14 TX14 SM Pb14 hbw14 O Rc15 TX15 RL15 NE14 Pb15 hbw15 hs15 HFIN HZV hrow hrow2
     go_wp2
     go_roundw
     case rel=>first | exact ⟨j + 1,by go_num,hBS⟩ | ((repeat apply Exists.intro);refine ⟨?_,rfl⟩;exact ⟨j + 1,by go_num,hBS⟩)
     case measure=>simp [intOf];omega
    ·have HSG:Hid ((V j).obj.num.sign = if mx = true then -(1) else (1)):=msn_sgn (sgn_pos hsn)
     have HBX:Hid (bx mx (V j) = 0):=bx_0 HE.out.2 HE.out.1
     have HBZ:Hid (bz mx (V j) = -1):=bz_m HE.out.1 hsn
     have HVD:Hid (vdj mx V (j + 1) = 3):=by
      show vdj mx V (j + 1) = _
      rw [vdj_succ,HBZ.out,if_neg (by decide)]
     clear hsn
     refine (signD w2 (tO.below hbw) (by omega) hZ1).mono ?_
     rintro e w4 ⟨rfl,h4⟩
     obtain ⟨s0,es0⟩:∃ s0,s0 = (V j).obj.num.sign:=⟨_,rfl⟩
     rw [← es0]
     have HS0:Hid (s0 = if mx = true then -(1) else (1)):=es0.trans HSG.out
     clear es0
     replace Rc:=Rc.below h4
     replace hTX:=hTX.below (by omega) h4
     replace hRL:=hRL.below h4
     replace Pb:=Pb.below h4
     replace VD:=VD.below h4
     replace hbw:=bel_tr hbw h4
     have hs4:=h4.size
     clear h4 HSG
     have hbA:=bel_d0 w4 (.cells #[.bool false,.slice none 0 0,.slice none 0 0] 28)
     have VDa:=VD.below hbA
     have hbB:=bel_d0 w4 (.cells #[.bool false,.slice none 0 0,.slice none 0 0] 28)
     have VX:=var3_new w4 (.bool false) (.slice none 0 0) (.slice none 0 0) 28
     have Rcb:=Rc.below hbB
     have c4:=(Rcb.cell 4).trans (show _ = some sX from rfl)
     have v4:=VDa 4 _ rfl;have v5:=VDa 5 _ rfl;have v6:=VDa 6 _ rfl;have v7:=VDa 7 _ rfl;have v8:=VDa 8 _ rfl;have v9:=VDa 9 _ rfl;have v10:=VDa 10 _ rfl;have v11:=VDa 11 _ rfl
     have x0:=VX.c0;have x1:=VX.c1;have x2:=VX.c2
     have hTXb:=hTX.below (by omega) hbB
     have hRLb:=hRL.below hbB
     have hsb:(w4.alloc (.cells #[.bool false,.slice none 0 0,.slice none 0 0] 28)).heap.size = w4.heap.size + 1:=by simp
     have hbwb:=bel_tr hbw hbB
     have hcc:=bel_d0 (w4.alloc (.cells #[.bool false,.slice none 0 0,.slice none 0 0] 28)) (.cells #[.bool false,.slice none 0 0,.slice none 0 0] 28)
     have hXG:∀ w',Below w1.heap.size ((w4.alloc (.cells #[.bool false,.slice none 0 0,.slice none 0 0] 28)).alloc (.cells #[.bool false,.slice none 0 0,.slice none 0 0] 28)) w'→TR w' false none 0 0 none 0 0 (bx mx (V j)) (ZV j):=fun w' q=>by
      rw [HBX.out]
      exact (tr_o14 w').up hZ1
     obtain ⟨xf,xe⟩:∃ f:Nat→Rat,f = fun i=>bx mx (V i):=⟨_,rfl⟩
     have HGX:Hid (∀ w',Below w1.heap.size ((w4.alloc (.cells #[.bool false,.slice none 0 0,.slice none 0 0] 28)).alloc (.cells #[.bool false,.slice none 0 0,.slice none 0 0] 28)) w'→TR w' false none 0 0 none 0 0 (xf j) (ZV j)):=by rw [xe];exact hXG
     rw [← xe] at hTX hTXb
     have HXE:Hid (xf = fun i=>bx mx (V i)):=xe
     obtain ⟨zf,ze⟩:∃ f:Nat→Rat,f = fun i=>((bz mx (V i):Int):Rat):=⟨_,rfl⟩
     rw [← ze] at hRL hRLb
     have HZE:Hid (zf = fun i=>((bz mx (V i):Int):Rat)):=ze
     have HZV:Hid (zf j = ((-1:Int):Rat)):=by show zf j = _;rw [ze];show ((bz mx (V j):Int):Rat) = _;rw [HBZ.out]
     have HFIN:Hid (∀ (sX2 sZ2:Value) (w9:World),Rw 35 w9 (w1.heap.size + 1) #[.int .i64 3,.bool false,.slice none 0 0,.slice none 0 0,sX2,.slice none 0 0,sZ2]→TX w9 w1.heap.size (w1.heap.size + 2) sX2 (j + 1) xf ZV→RL w9 (w1.heap.size + 2) sZ2 (j + 1) zf 1→NE sX2 sZ2→BoxC w9 w1.heap.size ([.bool mx,.string ⟨#[]⟩,.bool p,.slice a na ca,.slice d nd cd,.slice (some ⟨vb,vo,none⟩) n vc,.slice none 0 0]:List Value)→Below w.heap.size w w9→w1.heap.size + 2≤w9.heap.size→BS mx V ZV n w w1 ([.bool mx,.string ⟨#[]⟩,.bool p,.slice a na ca,.slice d nd cd,.slice (some ⟨vb,vo,none⟩) n vc,.slice none 0 0]:List Value) (j + 1) w9):=fun sX2 sZ2 w9 g1 g2 g3 g4 g5 g6 g7=>⟨sX2,sZ2,hlt,by rw [HVD.out];exact g1,by rw [HXE.out] at g2;exact g2,by rw [HZE.out] at g3;exact g3,g4,g5,g6,g7,fun i hi=>by
      rcases (by omega:i < j∨i = j) with hi | rfl
      ·exact HNC.out i hi
      ·exact HCV.out⟩
     clear hbA VDa VX hXG xe ze HXE HZE HVD HBX HBZ HNC HCV hTX hRL hcc
     obtain ⟨vd0,evd⟩:∃ v,v = vdj mx V j:=⟨_,rfl⟩
     rw [← evd] at Rc Rcb
     clear evd
     simp only []
     iterate 8 go_step
     refine wp_cutR 12 (J12 w4 (1)) ?_ ?_
     ·have hs0:=HS0.out
      cases mx
      ·obtain rfl:s0 = 1:=hs0.trans (if_neg (by decide))
       clear hs0 HS0
       go_wp2_with fail
       first | exact ⟨rfl,rfl,_,_,_,rfl⟩ | (unfold J12;exact ⟨rfl,_,_,_,rfl⟩)
      ·obtain rfl:s0 = -(1):=hs0.trans (if_pos rfl)
       clear hs0 HS0
       go_wp2_with fail
       first | exact ⟨rfl,rfl,_,_,_,rfl⟩ | (unfold J12;exact ⟨rfl,_,_,_,rfl⟩)
     clear HS0
     rintro a' w' ⟨rfl,u1,u2,u3,rfl⟩
     simp only [Act.put,List.setIfInBounds_toArray,List.set_cons_zero,List.set_cons_succ]
     go_wp2_with (at_builtin;refine wpList_appendTX _ rfl _ _ rfl w1.heap.size (w1.heap.size + 2) sX j xf ZV rfl (hTXb.below (by omega) (bel_d0 _ _)) (w4.heap.size + 1) _ rfl false none 0 0 none 0 0 (cell_new3 (by simp)) HGX.out (by omega) (by omega) (by simp;omega) (w4.heap.size + 2) (by simp) ?_)
     intro gN capN w5 SN hg hat hlt5
     clear c4 x0 x1 x2 v4 v5 v6 v7 v8 v9 v10 v11 HGX
     have hcc:=bel_d0 (w4.alloc (.cells #[.bool false,.slice none 0 0,.slice none 0 0] 28)) (.cells #[.bool false,.slice none 0 0,.slice none 0 0] 28)
     have hrow:∀ g,sX.ownBlock = some g→w1.heap.size + 2≤g∧g < w4.heap.size + 1:=fun g e=>by have:=hTXb.lt g e;omega
     have Rc5:=(Rcb.below hcc).grown hg (fun e=>by have:=hrow _ e;omega)
     have hRL5:=(hRLb.below hcc).growT (hTXb.below (by omega) hcc) hNE.symm hg
     have hNE5:NE (.slice (some ⟨gN,0,none⟩) (j + 1) capN) sZ:=hNE.grown (H:=w4.heap.size + 2) (fun g e=>by have:=(hRLb.below hcc).lt g e;simp at this;omega) hat (Nat.le_refl _)
     have Pb5:=(((Pb.below hbB).below hcc)).grown hg (fun e=>by have:=hrow _ e;omega)
     have VD5:=(((VD.below hbB).below hcc)).grown hg hXV
     have hbw5:Below w.heap.size w w5:=(bel_tr hbwb hcc).trans (grown_below hg (by simp;omega) (fun g e=>by have:=hrow g e;omega))
     have hs5:w4.heap.size + 2≤w5.heap.size:=by have:=hg.size;simp at this;omega
     clear Rc Rcb hTXb hRLb hbwb hcc hg hat hbB Pb VD hbw hNE
     have c4:=(Rc5.cell 4).trans (show _ = some sX from rfl)
     have f4:=Rc5.frozen 4
     go_wp2_with fail
     clear c4 f4
     obtain ⟨Rc6,O⟩:=Rc5.set 4 (.slice (some ⟨gN,0,none⟩) (j + 1) capN)
     have hTX6:=SN.off O (by omega) (by omega)
     have hRL6:=hRL5.off O (by omega)
     have Pb6:=Pb5.off O (by omega)
     have VD6:=VD5.off O (by omega)
     have hbw6:=hbw5.trans (O.below (by omega))
     have hs6:w5.heap.size≤(w5.setCell ⟨w1.heap.size + 1,4,none⟩ (.slice (some ⟨gN,0,none⟩) (j + 1) capN)).heap.size:=by simp
     clear Rc5 SN hRL5 Pb5 VD5 hbw5 O hrow
     generalize w5.setCell ⟨w1.heap.size + 1,4,none⟩ (.slice (some ⟨gN,0,none⟩) (j + 1) capN) = w6 at *
     refine (nQ14 0 w6 (by decide) (by decide)).mono ?_
     rintro e w7 ⟨f7,c7,n7,k7,d7,m7,l7,rfl,G7,h7⟩
     have hs7:=h7.size
     have hz7:=bel_d0 w7 (.cells #[.bool f7,.slice c7 n7 k7,.slice d7 m7 l7] 28)
     have hs8:(w7.alloc (.cells #[.bool f7,.slice c7 n7 k7,.slice d7 m7 l7] 28)).heap.size = w7.heap.size + 1:=by simp
     have Rc8:=(Rc6.below h7).below hz7
     have hTX8:=(hTX6.below (by omega) h7).below (by omega) hz7
     have hRL8:=(hRL6.below h7).below hz7
     have Pb8:=(Pb6.below h7).below hz7
     have VD8:=(VD6.below h7).below hz7
     have hXR:(Value.slice (some ⟨gN,0,none⟩) (j + 1) capN).ownBlock ≠ some w7.heap.size:=fun e=>by have:=(hTX6.below (by omega) h7).lt _ e;omega
     have hZR:sZ.ownBlock ≠ some w7.heap.size:=fun e=>by have:=(hRL6.below h7).lt _ e;omega
     have RZ8:=Rw.new 28 w7 #[.bool f7,.slice c7 n7 k7,.slice d7 m7 l7]
     have VZ8:=var3_new w7 (.bool f7) (.slice c7 n7 k7) (.slice d7 m7 l7) 28
     have hbw8:=bel_tr (bel_tr hbw6 h7) hz7
     have G8:=G7.below hz7
     have v4:=VD8 4 _ rfl;have v8:=VD8 8 _ rfl
     obtain ⟨z0,z1,z2,z3,z4,z5⟩:=id VZ8
     clear Rc6 hTX6 hRL6 Pb6 VD6 hbw6 h7 hz7 G7
     go_wp2_with fail
     clear v4 v8 z0 z1 z2 z3 z4 z5
     obtain ⟨RZ,hRZ⟩:∃ R,R = w7.heap.size:=⟨_,rfl⟩
     rw [← hRZ] at VZ8 hs8 hXR hZR RZ8 ⊢
     have hRZ2:w5.heap.size≤RZ:=by omega
     clear hRZ hs7
     generalize w7.alloc (.cells #[.bool f7,.slice c7 n7 k7,.slice d7 m7 l7] 28) = w8 at *
     refine (nQ14 (-1) w8 (by decide) (by decide)).mono ?_
     rintro e w9 ⟨f9,c9,n9,k9,d9,m9,l9,rfl,G9,h9⟩
     have hs9:=h9.size
     replace Rc8:=Rc8.below h9
     replace hTX8:=hTX8.below (by omega) h9
     replace hRL8:=hRL8.below h9
     replace Pb8:=Pb8.below h9
     replace VD8:=VD8.below h9
     replace VZ8:=VZ8.below h9
     replace RZ8:=RZ8.below h9
     replace hbw8:=bel_tr hbw8 h9
     obtain ⟨VZ,O⟩:=VZ8.set (.bool f9) (.slice c9 n9 k9) (.slice d9 m9 l9)
     have GZ:=(G9.gx (R:=RZ) (.inl (by omega))).off O
     have VDn:=VD8.off O (by omega)
     obtain ⟨z0,z1,z2,z3,z4,z5⟩:=id VZ8
     have y0:=VZ.c0;have y1:=VZ.c1;have y2:=VZ.c2
     have v4:=VDn 4 _ rfl;have v8:=VDn 8 _ rfl
     have RcN:=Rc8.off O (by omega)
     have TXN:=hTX8.off2 O (by omega) hXR
     have RLN:=hRL8.off2 O RZ8 hZR
     have PbN:=Pb8.off O (by omega)
     have hbwN:=hbw8.trans (O.below (by omega))
     have hsN:w9.heap.size≤(((w9.setCell ⟨RZ,0,none⟩ (.bool f9)).setCell ⟨RZ,1,none⟩ (.slice c9 n9 k9)).setCell ⟨RZ,2,none⟩ (.slice d9 m9 l9)).heap.size:=by simp
     clear h9 Rc8 hTX8 hRL8 Pb8 VD8 VZ8 hbw8 O G8 G9
     go_wp2_with fail
     clear z0 z1 z2 z3 z4 z5 y0 y1 y2 v4 v8
     generalize ((w9.setCell ⟨RZ,0,none⟩ (.bool f9)).setCell ⟨RZ,1,none⟩ (.slice c9 n9 k9)).setCell ⟨RZ,2,none⟩ (.slice d9 m9 l9) = w10 at *
     have G10:=GZ.1
     refine (signD w10 G10.tr (by omega) (by omega)).mono ?_
     rintro e w11 ⟨rfl,h11⟩
     rw [show (((-1:Int):Rat)).num.sign = -1 from rfl]
     have hs11:=h11.size
     replace RcN:=RcN.below h11
     replace TXN:=TXN.below (by omega) h11
     replace RLN:=RLN.below h11
     replace PbN:=PbN.below h11
     replace VZ:=VZ.below h11
     replace hbwN:=bel_tr hbwN h11
     replace G10:=G10.below h11
     clear h11 VDn
     obtain ⟨RcM,O⟩:=RcN.set 0 (.int .i64 3)
     have c0:=(RcN.cell 0).trans (show _ = some (Value.int .i64 vd0) from rfl)
     have f0:=RcN.frozen 0
     have TXM:=TXN.off O (by omega) (by omega)
     have RLM:=RLN.off O (by omega)
     have PbM:=PbN.off O (by omega)
     have VZM:=VZ.off O (by omega)
     have hbwM:=hbwN.trans (O.below (by omega))
     have GM:=G10.off O (by omega)
     have hsM:(w11.setCell ⟨w1.heap.size + 1,0,none⟩ (.int .i64 3)).heap.size = w11.heap.size:=by simp
     clear RcN TXN RLN PbN VZ hbwN G10
     have c6:=(RcM.cell 6).trans (show _ = some sZ from rfl)
     have y0:=VZM.c0;have y1:=VZM.c1;have y2:=VZM.c2
     have GB:GR ((w11.setCell ⟨w1.heap.size + 1,0,none⟩ (.int .i64 3)).alloc (.cells #[.bool f9,.slice c9 n9 k9,.slice d9 m9 l9] 28)) (w1.heap.size + 2) f9 c9 n9 k9 d9 m9 l9 (zf j) 1:=((GM.mono (by omega)).below (bel_d0 _ _)).val HZV.out.symm
     go_wp2_with (at_builtin;refine wpList_appendR _ rfl _ _ rfl (w1.heap.size + 2) sZ j zf 1 rfl (RLM.below (bel_d0 _ _)) w11.heap.size _ rfl f9 c9 n9 k9 d9 m9 l9 (cell_new3 (by simp)) GB (by omega) (by simp;omega) (w11.heap.size + 1) (by simp) ?_)
     intro gM capM w13 SM hg hat hlt13
     clear c6 y0 y1 y2 c0 f0
     have hcc:=bel_d0 (w11.setCell ⟨w1.heap.size + 1,0,none⟩ (.int .i64 3)) (.cells #[.bool f9,.slice c9 n9 k9,.slice d9 m9 l9] 28)
     have hrow:∀ g,sZ.ownBlock = some g→w1.heap.size + 2≤g∧g < w11.heap.size:=fun g e=>by have:=RLM.lt g e;omega
     have hrow2:∀ g,(Value.slice (some ⟨gN,0,none⟩) (j + 1) capN).ownBlock = some g→g < w11.heap.size:=fun g e=>by have:=TXM.lt g e;omega
     have Rc14:=(RcM.below hcc).grown hg (fun e=>by have:=hrow _ e;omega)
     have TX14:=(TXM.below (by omega) hcc).growR (by omega) (by simp;omega) (RLM.below hcc) hNE5 hg
     have NE14:NE (.slice (some ⟨gN,0,none⟩) (j + 1) capN) (.slice (some ⟨gM,0,none⟩) (j + 1) capM):=(hNE5.symm.grown (H:=w11.heap.size + 1) (fun g e=>by have:=hrow2 g e;omega) hat (Nat.le_refl _)).symm
     have Pb14:=(PbM.below hcc).grown hg (fun e=>by have:=hrow _ e;omega)
     have hbw14:Below w.heap.size w w13:=(bel_tr hbwM hcc).trans (grown_below hg (by simp;omega) (fun g e=>by have:=hrow g e;omega))
     have hs14:w11.heap.size + 1≤w13.heap.size:=by have:=hg.size;simp at this;omega
     clear RcM TXM RLM PbM VZM hbwM GM GB hcc hg hat
     obtain ⟨Rc15,O⟩:=Rc14.set 6 (.slice (some ⟨gM,0,none⟩) (j + 1) capM)
     have TX15:=TX14.off O (by omega) (by omega)
     have RL15:=SM.off O (by omega)
     have Pb15:=Pb14.off O (by omega)
     have hbw15:=hbw14.trans (O.below (by omega))
     have hs15:w1.heap.size + 2≤(w13.setCell ⟨w1.heap.size + 1,6,none⟩ (.slice (some ⟨gM,0,none⟩) (j + 1) capM)).heap.size:=by simp;omega
     have hBS:=HFIN.out _ _ _ Rc15 TX15 RL15 NE14 Pb15 hbw15 hs15
     have c6:=(Rc14.cell 6).trans (show _ = some sZ from rfl)
     have f6:=Rc14.frozen 6
     clear Rc14 TX14 SM Pb14 hbw14 O Rc15 TX15 RL15 NE14 Pb15 hbw15 hs15 HFIN HZV hrow hrow2
     go_wp2
     go_roundw
     case rel=>first | exact ⟨j + 1,by go_num,hBS⟩ | ((repeat apply Exists.intro);refine ⟨?_,rfl⟩;exact ⟨j + 1,by go_num,hBS⟩)
     case measure=>simp [intOf];omega
   ·have VD:=box_new wr #[.string nmV,.bool pO,.slice aO nO cO,.slice dO mO lO,.bool false,.bool pl,.slice al nl cl,.slice dl ml ll,.bool true,.bool ph,.slice ah nh ch,.slice dh mh lh,.bool wh] 39
    have hz:=bel_d0 wr (.cells #[.string nmV,.bool pO,.slice aO nO cO,.slice dO mO lO,.bool false,.bool pl,.slice al nl cl,.slice dl ml ll,.bool true,.bool ph,.slice ah nh ch,.slice dh mh lh,.bool wh] 39)
    have hsD:(wr.alloc (.cells #[.string nmV,.bool pO,.slice aO nO cO,.slice dO mO lO,.bool false,.bool pl,.slice al nl cl,.slice dl ml ll,.bool true,.bool ph,.slice ah nh ch,.slice dh mh lh,.bool wh] 39)).heap.size = wr.heap.size + 1:=by simp
    have v0:=VD 0 _ rfl;have v1:=VD 1 _ rfl;have v2:=VD 2 _ rfl;have v3:=VD 3 _ rfl;have v4:=VD 4 _ rfl;have v5:=VD 5 _ rfl;have v6:=VD 6 _ rfl;have v7:=VD 7 _ rfl;have v8:=VD 8 _ rfl;have v9:=VD 9 _ rfl;have v10:=VD 10 _ rfl;have v11:=VD 11 _ rfl;have v12:=VD 12 _ rfl
    go_wp2_with fail
    obtain ⟨RV,hRV⟩:∃ R,R = wr.heap.size:=⟨_,rfl⟩
    have hRV2:w1.heap.size + 2≤RV:=by omega
    try rw [← hRV]
    rw [← hRV] at hsD VD
    clear v0 v1 v2 v3 v4 v5 v6 v7 v8 v9 v10 v11 v12 r0 r1 r2 r3 r4 r5 r6 r7 r8 r9 r10 r11 r12
    have Rc:=I.rc.below hz
    have hTX:=I.tx.below (by omega) hz
    have hRL:=I.rl.below hz
    have hNE:=I.ne
    have hXV:sX.ownBlock ≠ some RV:=fun e=>by have:=I.tx.lt _ e;omega
    have Pb:=I.pb.below hz
    have hbw:=bel_tr I.bel hz
    have HNC:Hid (∀ i,i < j→¬ crv (V i)):=I.nc
    clear I hz hRV hsI
    generalize wr.alloc (.cells #[.string nmV,.bool pO,.slice aO nO cO,.slice dO mO lO,.bool false,.bool pl,.slice al nl cl,.slice dl ml ll,.bool true,.bool ph,.slice ah nh ch,.slice dh mh lh,.bool wh] 39) = w2 at *
    have HCV:Hid (¬ crv (V j)):=fun h=>by have h1:=h.1;rw [← HE.out.1] at h1;cases h1
    rcases rat3 (msn mx (V j).obj) with hsn | hsn | hsn
    ·have HSG:Hid ((V j).obj.num.sign = if mx = true then -(-1) else (-1)):=msn_sgn (sgn_neg hsn)
     have HBX:Hid (bx mx (V j) = (V j).hi):=bx_hi1 HE.out.2 hsn
     have HBZ:Hid (bz mx (V j) = 0):=bz_0n HE.out.2 hsn
     have HVD:Hid (vdj mx V (j + 1) = vdj mx V j):=by
      show vdj mx V (j + 1) = _
      rw [vdj_succ,HBZ.out,if_pos rfl]
     clear hsn
     refine (signD w2 (tO.below hbw) (by omega) hZ1).mono ?_
     rintro e w4 ⟨rfl,h4⟩
     obtain ⟨s0,es0⟩:∃ s0,s0 = (V j).obj.num.sign:=⟨_,rfl⟩
     rw [← es0]
     have HS0:Hid (s0 = if mx = true then -(-1) else (-1)):=es0.trans HSG.out
     clear es0
     replace Rc:=Rc.below h4
     replace hTX:=hTX.below (by omega) h4
     replace hRL:=hRL.below h4
     replace Pb:=Pb.below h4
     replace VD:=VD.below h4
     replace hbw:=bel_tr hbw h4
     have hs4:=h4.size
     clear h4 HSG
     have hbA:=bel_d0 w4 (.cells #[.bool false,.slice none 0 0,.slice none 0 0] 28)
     have VDa:=VD.below hbA
     have hbB:=bel_d0 w4 (.cells #[.bool ph,.slice ah nh ch,.slice dh mh lh] 28)
     have VX:=var3_new w4 (.bool ph) (.slice ah nh ch) (.slice dh mh lh) 28
     have Rcb:=Rc.below hbB
     have c4:=(Rcb.cell 4).trans (show _ = some sX from rfl)
     have v4:=VDa 4 _ rfl;have v5:=VDa 5 _ rfl;have v6:=VDa 6 _ rfl;have v7:=VDa 7 _ rfl;have v8:=VDa 8 _ rfl;have v9:=VDa 9 _ rfl;have v10:=VDa 10 _ rfl;have v11:=VDa 11 _ rfl
     have x0:=VX.c0;have x1:=VX.c1;have x2:=VX.c2
     have hTXb:=hTX.below (by omega) hbB
     have hRLb:=hRL.below hbB
     have hsb:(w4.alloc (.cells #[.bool ph,.slice ah nh ch,.slice dh mh lh] 28)).heap.size = w4.heap.size + 1:=by simp
     have hbwb:=bel_tr hbw hbB
     have hcc:=bel_d0 (w4.alloc (.cells #[.bool ph,.slice ah nh ch,.slice dh mh lh] 28)) (.cells #[.bool ph,.slice ah nh ch,.slice dh mh lh] 28)
     have hXG:∀ w',Below w1.heap.size ((w4.alloc (.cells #[.bool ph,.slice ah nh ch,.slice dh mh lh] 28)).alloc (.cells #[.bool ph,.slice ah nh ch,.slice dh mh lh] 28)) w'→TR w' ph ah nh ch dh mh lh (bx mx (V j)) (ZV j):=fun w' q=>by
      rw [HBX.out]
      exact th.below ((bel_tr hbwb hcc).trans (q.mono (by omega)))
     obtain ⟨xf,xe⟩:∃ f:Nat→Rat,f = fun i=>bx mx (V i):=⟨_,rfl⟩
     have HGX:Hid (∀ w',Below w1.heap.size ((w4.alloc (.cells #[.bool ph,.slice ah nh ch,.slice dh mh lh] 28)).alloc (.cells #[.bool ph,.slice ah nh ch,.slice dh mh lh] 28)) w'→TR w' ph ah nh ch dh mh lh (xf j) (ZV j)):=by rw [xe];exact hXG
     rw [← xe] at hTX hTXb
     have HXE:Hid (xf = fun i=>bx mx (V i)):=xe
     obtain ⟨zf,ze⟩:∃ f:Nat→Rat,f = fun i=>((bz mx (V i):Int):Rat):=⟨_,rfl⟩
     rw [← ze] at hRL hRLb
     have HZE:Hid (zf = fun i=>((bz mx (V i):Int):Rat)):=ze
     have HZV:Hid (zf j = ((0:Int):Rat)):=by show zf j = _;rw [ze];show ((bz mx (V j):Int):Rat) = _;rw [HBZ.out]
     have HFIN:Hid (∀ (sX2 sZ2:Value) (w9:World),Rw 35 w9 (w1.heap.size + 1) #[.int .i64 (vdj mx V j),.bool false,.slice none 0 0,.slice none 0 0,sX2,.slice none 0 0,sZ2]→TX w9 w1.heap.size (w1.heap.size + 2) sX2 (j + 1) xf ZV→RL w9 (w1.heap.size + 2) sZ2 (j + 1) zf 1→NE sX2 sZ2→BoxC w9 w1.heap.size ([.bool mx,.string ⟨#[]⟩,.bool p,.slice a na ca,.slice d nd cd,.slice (some ⟨vb,vo,none⟩) n vc,.slice none 0 0]:List Value)→Below w.heap.size w w9→w1.heap.size + 2≤w9.heap.size→BS mx V ZV n w w1 ([.bool mx,.string ⟨#[]⟩,.bool p,.slice a na ca,.slice d nd cd,.slice (some ⟨vb,vo,none⟩) n vc,.slice none 0 0]:List Value) (j + 1) w9):=fun sX2 sZ2 w9 g1 g2 g3 g4 g5 g6 g7=>⟨sX2,sZ2,hlt,by rw [HVD.out];exact g1,by rw [HXE.out] at g2;exact g2,by rw [HZE.out] at g3;exact g3,g4,g5,g6,g7,fun i hi=>by
      rcases (by omega:i < j∨i = j) with hi | rfl
      ·exact HNC.out i hi
      ·exact HCV.out⟩
     clear hbA VDa VX hXG xe ze HXE HZE HVD HBX HBZ HNC HCV hTX hRL hcc
     obtain ⟨vd0,evd⟩:∃ v,v = vdj mx V j:=⟨_,rfl⟩
     rw [← evd] at Rc Rcb HFIN
     clear evd
     simp only []
     iterate 8 go_step
     refine wp_cutR 12 (J12 w4 (-1)) ?_ ?_
     ·have hs0:=HS0.out
      cases mx
      ·obtain rfl:s0 = -1:=hs0.trans (if_neg (by decide))
       clear hs0 HS0
       go_wp2_with fail
       first | exact ⟨rfl,rfl,_,_,_,rfl⟩ | (unfold J12;exact ⟨rfl,_,_,_,rfl⟩)
      ·obtain rfl:s0 = -(-1):=hs0.trans (if_pos rfl)
       clear hs0 HS0
       go_wp2_with fail
       first | exact ⟨rfl,rfl,_,_,_,rfl⟩ | (unfold J12;exact ⟨rfl,_,_,_,rfl⟩)
     clear HS0
     rintro a' w' ⟨rfl,u1,u2,u3,rfl⟩
     simp only [Act.put,List.setIfInBounds_toArray,List.set_cons_zero,List.set_cons_succ]
     go_wp2_with (at_builtin;refine wpList_appendTX _ rfl _ _ rfl w1.heap.size (w1.heap.size + 2) sX j xf ZV rfl (hTXb.below (by omega) (bel_d0 _ _)) (w4.heap.size + 1) _ rfl ph ah nh ch dh mh lh (cell_new3 (by simp)) HGX.out (by omega) (by omega) (by simp;omega) (w4.heap.size + 2) (by simp) ?_)
     intro gN capN w5 SN hg hat hlt5
     clear c4 x0 x1 x2 v4 v5 v6 v7 v8 v9 v10 v11 HGX
     have hcc:=bel_d0 (w4.alloc (.cells #[.bool ph,.slice ah nh ch,.slice dh mh lh] 28)) (.cells #[.bool ph,.slice ah nh ch,.slice dh mh lh] 28)
     have hrow:∀ g,sX.ownBlock = some g→w1.heap.size + 2≤g∧g < w4.heap.size + 1:=fun g e=>by have:=hTXb.lt g e;omega
     have Rc5:=(Rcb.below hcc).grown hg (fun e=>by have:=hrow _ e;omega)
     have hRL5:=(hRLb.below hcc).growT (hTXb.below (by omega) hcc) hNE.symm hg
     have hNE5:NE (.slice (some ⟨gN,0,none⟩) (j + 1) capN) sZ:=hNE.grown (H:=w4.heap.size + 2) (fun g e=>by have:=(hRLb.below hcc).lt g e;simp at this;omega) hat (Nat.le_refl _)
     have Pb5:=(((Pb.below hbB).below hcc)).grown hg (fun e=>by have:=hrow _ e;omega)
     have VD5:=(((VD.below hbB).below hcc)).grown hg hXV
     have hbw5:Below w.heap.size w w5:=(bel_tr hbwb hcc).trans (grown_below hg (by simp;omega) (fun g e=>by have:=hrow g e;omega))
     have hs5:w4.heap.size + 2≤w5.heap.size:=by have:=hg.size;simp at this;omega
     clear Rc Rcb hTXb hRLb hbwb hcc hg hat hbB Pb VD hbw hNE
     have c4:=(Rc5.cell 4).trans (show _ = some sX from rfl)
     have f4:=Rc5.frozen 4
     go_wp2_with fail
     clear c4 f4
     obtain ⟨Rc6,O⟩:=Rc5.set 4 (.slice (some ⟨gN,0,none⟩) (j + 1) capN)
     have hTX6:=SN.off O (by omega) (by omega)
     have hRL6:=hRL5.off O (by omega)
     have Pb6:=Pb5.off O (by omega)
     have VD6:=VD5.off O (by omega)
     have hbw6:=hbw5.trans (O.below (by omega))
     have hs6:w5.heap.size≤(w5.setCell ⟨w1.heap.size + 1,4,none⟩ (.slice (some ⟨gN,0,none⟩) (j + 1) capN)).heap.size:=by simp
     clear Rc5 SN hRL5 Pb5 VD5 hbw5 O hrow
     generalize w5.setCell ⟨w1.heap.size + 1,4,none⟩ (.slice (some ⟨gN,0,none⟩) (j + 1) capN) = w6 at *
     refine (nQ14 0 w6 (by decide) (by decide)).mono ?_
     rintro e w7 ⟨f7,c7,n7,k7,d7,m7,l7,rfl,G7,h7⟩
     have hs7:=h7.size
     have hz7:=bel_d0 w7 (.cells #[.bool f7,.slice c7 n7 k7,.slice d7 m7 l7] 28)
     have hs8:(w7.alloc (.cells #[.bool f7,.slice c7 n7 k7,.slice d7 m7 l7] 28)).heap.size = w7.heap.size + 1:=by simp
     have Rc8:=(Rc6.below h7).below hz7
     have hTX8:=(hTX6.below (by omega) h7).below (by omega) hz7
     have hRL8:=(hRL6.below h7).below hz7
     have Pb8:=(Pb6.below h7).below hz7
     have VD8:=(VD6.below h7).below hz7
     have VZ8:=var3_new w7 (.bool f7) (.slice c7 n7 k7) (.slice d7 m7 l7) 28
     have hbw8:=bel_tr (bel_tr hbw6 h7) hz7
     have G8:=G7.below hz7
     have v4:=VD8 4 _ rfl;have v8:=VD8 8 _ rfl
     obtain ⟨z0,z1,z2,z3,z4,z5⟩:=id VZ8
     clear Rc6 hTX6 hRL6 Pb6 VD6 hbw6 h7 hz7 G7
     go_wp2_with fail
     clear v4 v8 z0 z1 z2 z3 z4 z5
     obtain ⟨RZ,hRZ⟩:∃ R,R = w7.heap.size:=⟨_,rfl⟩
     rw [← hRZ] at VZ8 hs8 ⊢
     have hRZ2:w5.heap.size≤RZ:=by omega
     clear hRZ hs7
     generalize w7.alloc (.cells #[.bool f7,.slice c7 n7 k7,.slice d7 m7 l7] 28) = w8 at *
     have Rc10:=Rc8
     have RcN:=Rc8
     have TXN:=hTX8
     have RLN:=hRL8
     have PbN:=Pb8
     have hbwN:=hbw8
     have VZ:=VZ8
     have VDn:=VD8
     have G10:=G8
     have hsN:=Nat.le_refl w8.heap.size
     clear Rc8 hTX8 hRL8 Pb8 hbw8 VZ8 VD8 G8 Rc10
     refine (signD w8 G10.tr (by omega) (by omega)).mono ?_
     rintro e w11 ⟨rfl,h11⟩
     rw [show (((0:Int):Rat)).num.sign = 0 from rfl]
     have hs11:=h11.size
     replace RcN:=RcN.below h11
     replace TXN:=TXN.below (by omega) h11
     replace RLN:=RLN.below h11
     replace PbN:=PbN.below h11
     replace VZ:=VZ.below h11
     replace hbwN:=bel_tr hbwN h11
     replace G10:=G10.below h11
     clear h11 VDn
     have RcM:=RcN
     have TXM:=TXN
     have RLM:=RLN
     have PbM:=PbN
     have VZM:=VZ
     have hbwM:=hbwN
     have GM:=G10
     have hsM:=Eq.refl w11.heap.size
     clear RcN TXN RLN PbN VZ hbwN G10
     have c6:=(RcM.cell 6).trans (show _ = some sZ from rfl)
     have y0:=VZM.c0;have y1:=VZM.c1;have y2:=VZM.c2
     have GB:GR (w11.alloc (.cells #[.bool f7,.slice c7 n7 k7,.slice d7 m7 l7] 28)) (w1.heap.size + 2) f7 c7 n7 k7 d7 m7 l7 (zf j) 1:=((GM.mono (by omega)).below (bel_d0 _ _)).val HZV.out.symm
     go_wp2_with (at_builtin;refine wpList_appendR _ rfl _ _ rfl (w1.heap.size + 2) sZ j zf 1 rfl (RLM.below (bel_d0 _ _)) w11.heap.size _ rfl f7 c7 n7 k7 d7 m7 l7 (cell_new3 (by simp)) GB (by omega) (by simp;omega) (w11.heap.size + 1) (by simp) ?_)
     intro gM capM w13 SM hg hat hlt13
     clear c6 y0 y1 y2 
     have hcc:=bel_d0 w11 (.cells #[.bool f7,.slice c7 n7 k7,.slice d7 m7 l7] 28)
     have hrow:∀ g,sZ.ownBlock = some g→w1.heap.size + 2≤g∧g < w11.heap.size:=fun g e=>by have:=RLM.lt g e;omega
     have hrow2:∀ g,(Value.slice (some ⟨gN,0,none⟩) (j + 1) capN).ownBlock = some g→g < w11.heap.size:=fun g e=>by have:=TXM.lt g e;omega
     have Rc14:=(RcM.below hcc).grown hg (fun e=>by have:=hrow _ e;omega)
     have TX14:=(TXM.below (by omega) hcc).growR (by omega) (by simp;omega) (RLM.below hcc) hNE5 hg
     have NE14:NE (.slice (some ⟨gN,0,none⟩) (j + 1) capN) (.slice (some ⟨gM,0,none⟩) (j + 1) capM):=(hNE5.symm.grown (H:=w11.heap.size + 1) (fun g e=>by have:=hrow2 g e;omega) hat (Nat.le_refl _)).symm
     have Pb14:=(PbM.below hcc).grown hg (fun e=>by have:=hrow _ e;omega)
     have hbw14:Below w.heap.size w w13:=(bel_tr hbwM hcc).trans (grown_below hg (by simp;omega) (fun g e=>by have:=hrow g e;omega))
     have hs14:w11.heap.size + 1≤w13.heap.size:=by have:=hg.size;simp at this;omega
     clear RcM TXM RLM PbM VZM hbwM GM GB hcc hg hat
     obtain ⟨Rc15,O⟩:=Rc14.set 6 (.slice (some ⟨gM,0,none⟩) (j + 1) capM)
     have TX15:=TX14.off O (by omega) (by omega)
     have RL15:=SM.off O (by omega)
     have Pb15:=Pb14.off O (by omega)
     have hbw15:=hbw14.trans (O.below (by omega))
     have hs15:w1.heap.size + 2≤(w13.setCell ⟨w1.heap.size + 1,6,none⟩ (.slice (some ⟨gM,0,none⟩) (j + 1) capM)).heap.size:=by simp;omega
     have hBS:=HFIN.out _ _ _ Rc15 TX15 RL15 NE14 Pb15 hbw15 hs15
     have c6:=(Rc14.cell 6).trans (show _ = some sZ from rfl)
     have f6:=Rc14.frozen 6
     clear Rc14 TX14 SM Pb14 hbw14 O Rc15 TX15 RL15 NE14 Pb15 hbw15 hs15 HFIN HZV hrow hrow2
     go_wp2
     go_roundw
     case rel=>first | exact ⟨j + 1,by go_num,hBS⟩ | ((repeat apply Exists.intro);refine ⟨?_,rfl⟩;exact ⟨j + 1,by go_num,hBS⟩)
     case measure=>simp [intOf];omega
    ·have HSG:Hid ((V j).obj.num.sign = if mx = true then -(0) else (0)):=msn_sgn (sgn_nil hsn)
     have HBX:Hid (bx mx (V j) = (V j).hi):=bx_hi2 HE.out.2 HE.out.1
     have HBZ:Hid (bz mx (V j) = 0):=bz_0m hsn
     have HVD:Hid (vdj mx V (j + 1) = vdj mx V j):=by
      show vdj mx V (j + 1) = _
      rw [vdj_succ,HBZ.out,if_pos rfl]
     clear hsn
     refine (signD w2 (tO.below hbw) (by omega) hZ1).mono ?_
     rintro e w4 ⟨rfl,h4⟩
     obtain ⟨s0,es0⟩:∃ s0,s0 = (V j).obj.num.sign:=⟨_,rfl⟩
     rw [← es0]
     have HS0:Hid (s0 = if mx = true then -(0) else (0)):=es0.trans HSG.out
     clear es0
     replace Rc:=Rc.below h4
     replace hTX:=hTX.below (by omega) h4
     replace hRL:=hRL.below h4
     replace Pb:=Pb.below h4
     replace VD:=VD.below h4
     replace hbw:=bel_tr hbw h4
     have hs4:=h4.size
     clear h4 HSG
     have hbA:=bel_d0 w4 (.cells #[.bool false,.slice none 0 0,.slice none 0 0] 28)
     have VDa:=VD.below hbA
     have hbB:=bel_d0 w4 (.cells #[.bool ph,.slice ah nh ch,.slice dh mh lh] 28)
     have VX:=var3_new w4 (.bool ph) (.slice ah nh ch) (.slice dh mh lh) 28
     have Rcb:=Rc.below hbB
     have c4:=(Rcb.cell 4).trans (show _ = some sX from rfl)
     have v4:=VDa 4 _ rfl;have v5:=VDa 5 _ rfl;have v6:=VDa 6 _ rfl;have v7:=VDa 7 _ rfl;have v8:=VDa 8 _ rfl;have v9:=VDa 9 _ rfl;have v10:=VDa 10 _ rfl;have v11:=VDa 11 _ rfl
     have x0:=VX.c0;have x1:=VX.c1;have x2:=VX.c2
     have hTXb:=hTX.below (by omega) hbB
     have hRLb:=hRL.below hbB
     have hsb:(w4.alloc (.cells #[.bool ph,.slice ah nh ch,.slice dh mh lh] 28)).heap.size = w4.heap.size + 1:=by simp
     have hbwb:=bel_tr hbw hbB
     have hcc:=bel_d0 (w4.alloc (.cells #[.bool ph,.slice ah nh ch,.slice dh mh lh] 28)) (.cells #[.bool ph,.slice ah nh ch,.slice dh mh lh] 28)
     have hXG:∀ w',Below w1.heap.size ((w4.alloc (.cells #[.bool ph,.slice ah nh ch,.slice dh mh lh] 28)).alloc (.cells #[.bool ph,.slice ah nh ch,.slice dh mh lh] 28)) w'→TR w' ph ah nh ch dh mh lh (bx mx (V j)) (ZV j):=fun w' q=>by
      rw [HBX.out]
      exact th.below ((bel_tr hbwb hcc).trans (q.mono (by omega)))
     obtain ⟨xf,xe⟩:∃ f:Nat→Rat,f = fun i=>bx mx (V i):=⟨_,rfl⟩
     have HGX:Hid (∀ w',Below w1.heap.size ((w4.alloc (.cells #[.bool ph,.slice ah nh ch,.slice dh mh lh] 28)).alloc (.cells #[.bool ph,.slice ah nh ch,.slice dh mh lh] 28)) w'→TR w' ph ah nh ch dh mh lh (xf j) (ZV j)):=by rw [xe];exact hXG
     rw [← xe] at hTX hTXb
     have HXE:Hid (xf = fun i=>bx mx (V i)):=xe
     obtain ⟨zf,ze⟩:∃ f:Nat→Rat,f = fun i=>((bz mx (V i):Int):Rat):=⟨_,rfl⟩
     rw [← ze] at hRL hRLb
     have HZE:Hid (zf = fun i=>((bz mx (V i):Int):Rat)):=ze
     have HZV:Hid (zf j = ((0:Int):Rat)):=by show zf j = _;rw [ze];show ((bz mx (V j):Int):Rat) = _;rw [HBZ.out]
     have HFIN:Hid (∀ (sX2 sZ2:Value) (w9:World),Rw 35 w9 (w1.heap.size + 1) #[.int .i64 (vdj mx V j),.bool false,.slice none 0 0,.slice none 0 0,sX2,.slice none 0 0,sZ2]→TX w9 w1.heap.size (w1.heap.size + 2) sX2 (j + 1) xf ZV→RL w9 (w1.heap.size + 2) sZ2 (j + 1) zf 1→NE sX2 sZ2→BoxC w9 w1.heap.size ([.bool mx,.string ⟨#[]⟩,.bool p,.slice a na ca,.slice d nd cd,.slice (some ⟨vb,vo,none⟩) n vc,.slice none 0 0]:List Value)→Below w.heap.size w w9→w1.heap.size + 2≤w9.heap.size→BS mx V ZV n w w1 ([.bool mx,.string ⟨#[]⟩,.bool p,.slice a na ca,.slice d nd cd,.slice (some ⟨vb,vo,none⟩) n vc,.slice none 0 0]:List Value) (j + 1) w9):=fun sX2 sZ2 w9 g1 g2 g3 g4 g5 g6 g7=>⟨sX2,sZ2,hlt,by rw [HVD.out];exact g1,by rw [HXE.out] at g2;exact g2,by rw [HZE.out] at g3;exact g3,g4,g5,g6,g7,fun i hi=>by
      rcases (by omega:i < j∨i = j) with hi | rfl
      ·exact HNC.out i hi
      ·exact HCV.out⟩
     clear hbA VDa VX hXG xe ze HXE HZE HVD HBX HBZ HNC HCV hTX hRL hcc
     obtain ⟨vd0,evd⟩:∃ v,v = vdj mx V j:=⟨_,rfl⟩
     rw [← evd] at Rc Rcb HFIN
     clear evd
     simp only []
     iterate 8 go_step
     refine wp_cutR 12 (J12 w4 (0)) ?_ ?_
     ·have hs0:=HS0.out
      cases mx
      ·obtain rfl:s0 = 0:=hs0.trans (if_neg (by decide))
       clear hs0 HS0
       go_wp2_with fail
       first | exact ⟨rfl,rfl,_,_,_,rfl⟩ | (unfold J12;exact ⟨rfl,_,_,_,rfl⟩)
      ·obtain rfl:s0 = -(0):=hs0.trans (if_pos rfl)
       clear hs0 HS0
       go_wp2_with fail
       first | exact ⟨rfl,rfl,_,_,_,rfl⟩ | (unfold J12;exact ⟨rfl,_,_,_,rfl⟩)
     clear HS0
     rintro a' w' ⟨rfl,u1,u2,u3,rfl⟩
     simp only [Act.put,List.setIfInBounds_toArray,List.set_cons_zero,List.set_cons_succ]
     go_wp2_with (at_builtin;refine wpList_appendTX _ rfl _ _ rfl w1.heap.size (w1.heap.size + 2) sX j xf ZV rfl (hTXb.below (by omega) (bel_d0 _ _)) (w4.heap.size + 1) _ rfl ph ah nh ch dh mh lh (cell_new3 (by simp)) HGX.out (by omega) (by omega) (by simp;omega) (w4.heap.size + 2) (by simp) ?_)
     intro gN capN w5 SN hg hat hlt5
     clear c4 x0 x1 x2 v4 v5 v6 v7 v8 v9 v10 v11 HGX
     have hcc:=bel_d0 (w4.alloc (.cells #[.bool ph,.slice ah nh ch,.slice dh mh lh] 28)) (.cells #[.bool ph,.slice ah nh ch,.slice dh mh lh] 28)
     have hrow:∀ g,sX.ownBlock = some g→w1.heap.size + 2≤g∧g < w4.heap.size + 1:=fun g e=>by have:=hTXb.lt g e;omega
     have Rc5:=(Rcb.below hcc).grown hg (fun e=>by have:=hrow _ e;omega)
     have hRL5:=(hRLb.below hcc).growT (hTXb.below (by omega) hcc) hNE.symm hg
     have hNE5:NE (.slice (some ⟨gN,0,none⟩) (j + 1) capN) sZ:=hNE.grown (H:=w4.heap.size + 2) (fun g e=>by have:=(hRLb.below hcc).lt g e;simp at this;omega) hat (Nat.le_refl _)
     have Pb5:=(((Pb.below hbB).below hcc)).grown hg (fun e=>by have:=hrow _ e;omega)
     have VD5:=(((VD.below hbB).below hcc)).grown hg hXV
     have hbw5:Below w.heap.size w w5:=(bel_tr hbwb hcc).trans (grown_below hg (by simp;omega) (fun g e=>by have:=hrow g e;omega))
     have hs5:w4.heap.size + 2≤w5.heap.size:=by have:=hg.size;simp at this;omega
     clear Rc Rcb hTXb hRLb hbwb hcc hg hat hbB Pb VD hbw hNE
     have c4:=(Rc5.cell 4).trans (show _ = some sX from rfl)
     have f4:=Rc5.frozen 4
     go_wp2_with fail
     clear c4 f4
     obtain ⟨Rc6,O⟩:=Rc5.set 4 (.slice (some ⟨gN,0,none⟩) (j + 1) capN)
     have hTX6:=SN.off O (by omega) (by omega)
     have hRL6:=hRL5.off O (by omega)
     have Pb6:=Pb5.off O (by omega)
     have VD6:=VD5.off O (by omega)
     have hbw6:=hbw5.trans (O.below (by omega))
     have hs6:w5.heap.size≤(w5.setCell ⟨w1.heap.size + 1,4,none⟩ (.slice (some ⟨gN,0,none⟩) (j + 1) capN)).heap.size:=by simp
     clear Rc5 SN hRL5 Pb5 VD5 hbw5 O hrow
     generalize w5.setCell ⟨w1.heap.size + 1,4,none⟩ (.slice (some ⟨gN,0,none⟩) (j + 1) capN) = w6 at *
     refine (nQ14 0 w6 (by decide) (by decide)).mono ?_
     rintro e w7 ⟨f7,c7,n7,k7,d7,m7,l7,rfl,G7,h7⟩
     have hs7:=h7.size
     have hz7:=bel_d0 w7 (.cells #[.bool f7,.slice c7 n7 k7,.slice d7 m7 l7] 28)
     have hs8:(w7.alloc (.cells #[.bool f7,.slice c7 n7 k7,.slice d7 m7 l7] 28)).heap.size = w7.heap.size + 1:=by simp
     have Rc8:=(Rc6.below h7).below hz7
     have hTX8:=(hTX6.below (by omega) h7).below (by omega) hz7
     have hRL8:=(hRL6.below h7).below hz7
     have Pb8:=(Pb6.below h7).below hz7
     have VD8:=(VD6.below h7).below hz7
     have VZ8:=var3_new w7 (.bool f7) (.slice c7 n7 k7) (.slice d7 m7 l7) 28
     have hbw8:=bel_tr (bel_tr hbw6 h7) hz7
     have G8:=G7.below hz7
     have v4:=VD8 4 _ rfl;have v8:=VD8 8 _ rfl
     obtain ⟨z0,z1,z2,z3,z4,z5⟩:=id VZ8
     clear Rc6 hTX6 hRL6 Pb6 VD6 hbw6 h7 hz7 G7
     go_wp2_with fail
     clear v4 v8 z0 z1 z2 z3 z4 z5
     obtain ⟨RZ,hRZ⟩:∃ R,R = w7.heap.size:=⟨_,rfl⟩
     rw [← hRZ] at VZ8 hs8 ⊢
     have hRZ2:w5.heap.size≤RZ:=by omega
     clear hRZ hs7
     generalize w7.alloc (.cells #[.bool f7,.slice c7 n7 k7,.slice d7 m7 l7] 28) = w8 at *
     have Rc10:=Rc8
     have RcN:=Rc8
     have TXN:=hTX8
     have RLN:=hRL8
     have PbN:=Pb8
     have hbwN:=hbw8
     have VZ:=VZ8
     have VDn:=VD8
     have G10:=G8
     have hsN:=Nat.le_refl w8.heap.size
     clear Rc8 hTX8 hRL8 Pb8 hbw8 VZ8 VD8 G8 Rc10
     refine (signD w8 G10.tr (by omega) (by omega)).mono ?_
     rintro e w11 ⟨rfl,h11⟩
     rw [show (((0:Int):Rat)).num.sign = 0 from rfl]
     have hs11:=h11.size
     replace RcN:=RcN.below h11
     replace TXN:=TXN.below (by omega) h11
     replace RLN:=RLN.below h11
     replace PbN:=PbN.below h11
     replace VZ:=VZ.below h11
     replace hbwN:=bel_tr hbwN h11
     replace G10:=G10.below h11
     clear h11 VDn
     have RcM:=RcN
     have TXM:=TXN
     have RLM:=RLN
     have PbM:=PbN
     have VZM:=VZ
     have hbwM:=hbwN
     have GM:=G10
     have hsM:=Eq.refl w11.heap.size
     clear RcN TXN RLN PbN VZ hbwN G10
     have c6:=(RcM.cell 6).trans (show _ = some sZ from rfl)
     have y0:=VZM.c0;have y1:=VZM.c1;have y2:=VZM.c2
     have GB:GR (w11.alloc (.cells #[.bool f7,.slice c7 n7 k7,.slice d7 m7 l7] 28)) (w1.heap.size + 2) f7 c7 n7 k7 d7 m7 l7 (zf j) 1:=((GM.mono (by omega)).below (bel_d0 _ _)).val HZV.out.symm
     go_wp2_with (at_builtin;refine wpList_appendR _ rfl _ _ rfl (w1.heap.size + 2) sZ j zf 1 rfl (RLM.below (bel_d0 _ _)) w11.heap.size _ rfl f7 c7 n7 k7 d7 m7 l7 (cell_new3 (by simp)) GB (by omega) (by simp;omega) (w11.heap.size + 1) (by simp) ?_)
     intro gM capM w13 SM hg hat hlt13
     clear c6 y0 y1 y2 
     have hcc:=bel_d0 w11 (.cells #[.bool f7,.slice c7 n7 k7,.slice d7 m7 l7] 28)
     have hrow:∀ g,sZ.ownBlock = some g→w1.heap.size + 2≤g∧g < w11.heap.size:=fun g e=>by have:=RLM.lt g e;omega
     have hrow2:∀ g,(Value.slice (some ⟨gN,0,none⟩) (j + 1) capN).ownBlock = some g→g < w11.heap.size:=fun g e=>by have:=TXM.lt g e;omega
     have Rc14:=(RcM.below hcc).grown hg (fun e=>by have:=hrow _ e;omega)
     have TX14:=(TXM.below (by omega) hcc).growR (by omega) (by simp;omega) (RLM.below hcc) hNE5 hg
     have NE14:NE (.slice (some ⟨gN,0,none⟩) (j + 1) capN) (.slice (some ⟨gM,0,none⟩) (j + 1) capM):=(hNE5.symm.grown (H:=w11.heap.size + 1) (fun g e=>by have:=hrow2 g e;omega) hat (Nat.le_refl _)).symm
     have Pb14:=(PbM.below hcc).grown hg (fun e=>by have:=hrow _ e;omega)
     have hbw14:Below w.heap.size w w13:=(bel_tr hbwM hcc).trans (grown_below hg (by simp;omega) (fun g e=>by have:=hrow g e;omega))
     have hs14:w11.heap.size + 1≤w13.heap.size:=by have:=hg.size;simp at this;omega
     clear RcM TXM RLM PbM VZM hbwM GM GB hcc hg hat
     obtain ⟨Rc15,O⟩:=Rc14.set 6 (.slice (some ⟨gM,0,none⟩) (j + 1) capM)
     have TX15:=TX14.off O (by omega) (by omega)
     have RL15:=SM.off O (by omega)
     have Pb15:=Pb14.off O (by omega)
     have hbw15:=hbw14.trans (O.below (by omega))
     have hs15:w1.heap.size + 2≤(w13.setCell ⟨w1.heap.size + 1,6,none⟩ (.slice (some ⟨gM,0,none⟩) (j + 1) capM)).heap.size:=by simp;omega
     have hBS:=HFIN.out _ _ _ Rc15 TX15 RL15 NE14 Pb15 hbw15 hs15
     have c6:=(Rc14.cell 6).trans (show _ = some sZ from rfl)
     have f6:=Rc14.frozen 6
     clear Rc14 TX14 SM Pb14 hbw14 O Rc15 TX15 RL15 NE14 Pb15 hbw15 hs15 HFIN HZV hrow hrow2
     go_wp2
     go_roundw
     case rel=>first | exact ⟨j + 1,by go_num,hBS⟩ | ((repeat apply Exists.intro);refine ⟨?_,rfl⟩;exact ⟨j + 1,by go_num,hBS⟩)
     case measure=>simp [intOf];omega
    ·have HSG:Hid ((V j).obj.num.sign = if mx = true then -(1) else (1)):=msn_sgn (sgn_pos hsn)
     have HBX:Hid (bx mx (V j) = (V j).hi):=bx_hi2 HE.out.2 HE.out.1
     have HBZ:Hid (bz mx (V j) = -1):=bz_m HE.out.1 hsn
     have HVD:Hid (vdj mx V (j + 1) = 3):=by
      show vdj mx V (j + 1) = _
      rw [vdj_succ,HBZ.out,if_neg (by decide)]
     clear hsn
     refine (signD w2 (tO.below hbw) (by omega) hZ1).mono ?_
     rintro e w4 ⟨rfl,h4⟩
     obtain ⟨s0,es0⟩:∃ s0,s0 = (V j).obj.num.sign:=⟨_,rfl⟩
     rw [← es0]
     have HS0:Hid (s0 = if mx = true then -(1) else (1)):=es0.trans HSG.out
     clear es0
     replace Rc:=Rc.below h4
     replace hTX:=hTX.below (by omega) h4
     replace hRL:=hRL.below h4
     replace Pb:=Pb.below h4
     replace VD:=VD.below h4
     replace hbw:=bel_tr hbw h4
     have hs4:=h4.size
     clear h4 HSG
     have hbA:=bel_d0 w4 (.cells #[.bool false,.slice none 0 0,.slice none 0 0] 28)
     have VDa:=VD.below hbA
     have hbB:=bel_d0 w4 (.cells #[.bool ph,.slice ah nh ch,.slice dh mh lh] 28)
     have VX:=var3_new w4 (.bool ph) (.slice ah nh ch) (.slice dh mh lh) 28
     have Rcb:=Rc.below hbB
     have c4:=(Rcb.cell 4).trans (show _ = some sX from rfl)
     have v4:=VDa 4 _ rfl;have v5:=VDa 5 _ rfl;have v6:=VDa 6 _ rfl;have v7:=VDa 7 _ rfl;have v8:=VDa 8 _ rfl;have v9:=VDa 9 _ rfl;have v10:=VDa 10 _ rfl;have v11:=VDa 11 _ rfl
     have x0:=VX.c0;have x1:=VX.c1;have x2:=VX.c2
     have hTXb:=hTX.below (by omega) hbB
     have hRLb:=hRL.below hbB
     have hsb:(w4.alloc (.cells #[.bool ph,.slice ah nh ch,.slice dh mh lh] 28)).heap.size = w4.heap.size + 1:=by simp
     have hbwb:=bel_tr hbw hbB
     have hcc:=bel_d0 (w4.alloc (.cells #[.bool ph,.slice ah nh ch,.slice dh mh lh] 28)) (.cells #[.bool ph,.slice ah nh ch,.slice dh mh lh] 28)
     have hXG:∀ w',Below w1.heap.size ((w4.alloc (.cells #[.bool ph,.slice ah nh ch,.slice dh mh lh] 28)).alloc (.cells #[.bool ph,.slice ah nh ch,.slice dh mh lh] 28)) w'→TR w' ph ah nh ch dh mh lh (bx mx (V j)) (ZV j):=fun w' q=>by
      rw [HBX.out]
      exact th.below ((bel_tr hbwb hcc).trans (q.mono (by omega)))
     obtain ⟨xf,xe⟩:∃ f:Nat→Rat,f = fun i=>bx mx (V i):=⟨_,rfl⟩
     have HGX:Hid (∀ w',Below w1.heap.size ((w4.alloc (.cells #[.bool ph,.slice ah nh ch,.slice dh mh lh] 28)).alloc (.cells #[.bool ph,.slice ah nh ch,.slice dh mh lh] 28)) w'→TR w' ph ah nh ch dh mh lh (xf j) (ZV j)):=by rw [xe];exact hXG
     rw [← xe] at hTX hTXb
     have HXE:Hid (xf = fun i=>bx mx (V i)):=xe
     obtain ⟨zf,ze⟩:∃ f:Nat→Rat,f = fun i=>((bz mx (V i):Int):Rat):=⟨_,rfl⟩
     rw [← ze] at hRL hRLb
     have HZE:Hid (zf = fun i=>((bz mx (V i):Int):Rat)):=ze
     have HZV:Hid (zf j = ((-1:Int):Rat)):=by show zf j = _;rw [ze];show ((bz mx (V j):Int):Rat) = _;rw [HBZ.out]
     have HFIN:Hid (∀ (sX2 sZ2:Value) (w9:World),Rw 35 w9 (w1.heap.size + 1) #[.int .i64 3,.bool false,.slice none 0 0,.slice none 0 0,sX2,.slice none 0 0,sZ2]→TX w9 w1.heap.size (w1.heap.size + 2) sX2 (j + 1) xf ZV→RL w9 (w1.heap.size + 2) sZ2 (j + 1) zf 1→NE sX2 sZ2→BoxC w9 w1.heap.size ([.bool mx,.string ⟨#[]⟩,.bool p,.slice a na ca,.slice d nd cd,.slice (some ⟨vb,vo,none⟩) n vc,.slice none 0 0]:List Value)→Below w.heap.size w w9→w1.heap.size + 2≤w9.heap.size→BS mx V ZV n w w1 ([.bool mx,.string ⟨#[]⟩,.bool p,.slice a na ca,.slice d nd cd,.slice (some ⟨vb,vo,none⟩) n vc,.slice none 0 0]:List Value) (j + 1) w9):=fun sX2 sZ2 w9 g1 g2 g3 g4 g5 g6 g7=>⟨sX2,sZ2,hlt,by rw [HVD.out];exact g1,by rw [HXE.out] at g2;exact g2,by rw [HZE.out] at g3;exact g3,g4,g5,g6,g7,fun i hi=>by
      rcases (by omega:i < j∨i = j) with hi | rfl
      ·exact HNC.out i hi
      ·exact HCV.out⟩
     clear hbA VDa VX hXG xe ze HXE HZE HVD HBX HBZ HNC HCV hTX hRL hcc
     obtain ⟨vd0,evd⟩:∃ v,v = vdj mx V j:=⟨_,rfl⟩
     rw [← evd] at Rc Rcb
     clear evd
     simp only []
     iterate 8 go_step
     refine wp_cutR 12 (J12 w4 (1)) ?_ ?_
     ·have hs0:=HS0.out
      cases mx
      ·obtain rfl:s0 = 1:=hs0.trans (if_neg (by decide))
       clear hs0 HS0
       go_wp2_with fail
       first | exact ⟨rfl,rfl,_,_,_,rfl⟩ | (unfold J12;exact ⟨rfl,_,_,_,rfl⟩)
      ·obtain rfl:s0 = -(1):=hs0.trans (if_pos rfl)
       clear hs0 HS0
       go_wp2_with fail
       first | exact ⟨rfl,rfl,_,_,_,rfl⟩ | (unfold J12;exact ⟨rfl,_,_,_,rfl⟩)
     clear HS0
     rintro a' w' ⟨rfl,u1,u2,u3,rfl⟩
     simp only [Act.put,List.setIfInBounds_toArray,List.set_cons_zero,List.set_cons_succ]
     go_wp2_with (at_builtin;refine wpList_appendTX _ rfl _ _ rfl w1.heap.size (w1.heap.size + 2) sX j xf ZV rfl (hTXb.below (by omega) (bel_d0 _ _)) (w4.heap.size + 1) _ rfl ph ah nh ch dh mh lh (cell_new3 (by simp)) HGX.out (by omega) (by omega) (by simp;omega) (w4.heap.size + 2) (by simp) ?_)
     intro gN capN w5 SN hg hat hlt5
     clear c4 x0 x1 x2 v4 v5 v6 v7 v8 v9 v10 v11 HGX
     have hcc:=bel_d0 (w4.alloc (.cells #[.bool ph,.slice ah nh ch,.slice dh mh lh] 28)) (.cells #[.bool ph,.slice ah nh ch,.slice dh mh lh] 28)
     have hrow:∀ g,sX.ownBlock = some g→w1.heap.size + 2≤g∧g < w4.heap.size + 1:=fun g e=>by have:=hTXb.lt g e;omega
     have Rc5:=(Rcb.below hcc).grown hg (fun e=>by have:=hrow _ e;omega)
     have hRL5:=(hRLb.below hcc).growT (hTXb.below (by omega) hcc) hNE.symm hg
     have hNE5:NE (.slice (some ⟨gN,0,none⟩) (j + 1) capN) sZ:=hNE.grown (H:=w4.heap.size + 2) (fun g e=>by have:=(hRLb.below hcc).lt g e;simp at this;omega) hat (Nat.le_refl _)
     have Pb5:=(((Pb.below hbB).below hcc)).grown hg (fun e=>by have:=hrow _ e;omega)
     have VD5:=(((VD.below hbB).below hcc)).grown hg hXV
     have hbw5:Below w.heap.size w w5:=(bel_tr hbwb hcc).trans (grown_below hg (by simp;omega) (fun g e=>by have:=hrow g e;omega))
     have hs5:w4.heap.size + 2≤w5.heap.size:=by have:=hg.size;simp at this;omega
     clear Rc Rcb hTXb hRLb hbwb hcc hg hat hbB Pb VD hbw hNE
     have c4:=(Rc5.cell 4).trans (show _ = some sX from rfl)
     have f4:=Rc5.frozen 4
     go_wp2_with fail
     clear c4 f4
     obtain ⟨Rc6,O⟩:=Rc5.set 4 (.slice (some ⟨gN,0,none⟩) (j + 1) capN)
     have hTX6:=SN.off O (by omega) (by omega)
     have hRL6:=hRL5.off O (by omega)
     have Pb6:=Pb5.off O (by omega)
     have VD6:=VD5.off O (by omega)
     have hbw6:=hbw5.trans (O.below (by omega))
     have hs6:w5.heap.size≤(w5.setCell ⟨w1.heap.size + 1,4,none⟩ (.slice (some ⟨gN,0,none⟩) (j + 1) capN)).heap.size:=by simp
     clear Rc5 SN hRL5 Pb5 VD5 hbw5 O hrow
     generalize w5.setCell ⟨w1.heap.size + 1,4,none⟩ (.slice (some ⟨gN,0,none⟩) (j + 1) capN) = w6 at *
     refine (nQ14 0 w6 (by decide) (by decide)).mono ?_
     rintro e w7 ⟨f7,c7,n7,k7,d7,m7,l7,rfl,G7,h7⟩
     have hs7:=h7.size
     have hz7:=bel_d0 w7 (.cells #[.bool f7,.slice c7 n7 k7,.slice d7 m7 l7] 28)
     have hs8:(w7.alloc (.cells #[.bool f7,.slice c7 n7 k7,.slice d7 m7 l7] 28)).heap.size = w7.heap.size + 1:=by simp
     have Rc8:=(Rc6.below h7).below hz7
     have hTX8:=(hTX6.below (by omega) h7).below (by omega) hz7
     have hRL8:=(hRL6.below h7).below hz7
     have Pb8:=(Pb6.below h7).below hz7
     have VD8:=(VD6.below h7).below hz7
     have hXR:(Value.slice (some ⟨gN,0,none⟩) (j + 1) capN).ownBlock ≠ some w7.heap.size:=fun e=>by have:=(hTX6.below (by omega) h7).lt _ e;omega
     have hZR:sZ.ownBlock ≠ some w7.heap.size:=fun e=>by have:=(hRL6.below h7).lt _ e;omega
     have RZ8:=Rw.new 28 w7 #[.bool f7,.slice c7 n7 k7,.slice d7 m7 l7]
     have VZ8:=var3_new w7 (.bool f7) (.slice c7 n7 k7) (.slice d7 m7 l7) 28
     have hbw8:=bel_tr (bel_tr hbw6 h7) hz7
     have G8:=G7.below hz7
     have v4:=VD8 4 _ rfl;have v8:=VD8 8 _ rfl
     obtain ⟨z0,z1,z2,z3,z4,z5⟩:=id VZ8
     clear Rc6 hTX6 hRL6 Pb6 VD6 hbw6 h7 hz7 G7
     go_wp2_with fail
     clear v4 v8 z0 z1 z2 z3 z4 z5
     obtain ⟨RZ,hRZ⟩:∃ R,R = w7.heap.size:=⟨_,rfl⟩
     rw [← hRZ] at VZ8 hs8 hXR hZR RZ8 ⊢
     have hRZ2:w5.heap.size≤RZ:=by omega
     clear hRZ hs7
     generalize w7.alloc (.cells #[.bool f7,.slice c7 n7 k7,.slice d7 m7 l7] 28) = w8 at *
     refine (nQ14 (-1) w8 (by decide) (by decide)).mono ?_
     rintro e w9 ⟨f9,c9,n9,k9,d9,m9,l9,rfl,G9,h9⟩
     have hs9:=h9.size
     replace Rc8:=Rc8.below h9
     replace hTX8:=hTX8.below (by omega) h9
     replace hRL8:=hRL8.below h9
     replace Pb8:=Pb8.below h9
     replace VD8:=VD8.below h9
     replace VZ8:=VZ8.below h9
     replace RZ8:=RZ8.below h9
     replace hbw8:=bel_tr hbw8 h9
     obtain ⟨VZ,O⟩:=VZ8.set (.bool f9) (.slice c9 n9 k9) (.slice d9 m9 l9)
     have GZ:=(G9.gx (R:=RZ) (.inl (by omega))).off O
     have VDn:=VD8.off O (by omega)
     obtain ⟨z0,z1,z2,z3,z4,z5⟩:=id VZ8
     have y0:=VZ.c0;have y1:=VZ.c1;have y2:=VZ.c2
     have v4:=VDn 4 _ rfl;have v8:=VDn 8 _ rfl
     have RcN:=Rc8.off O (by omega)
     have TXN:=hTX8.off2 O (by omega) hXR
     have RLN:=hRL8.off2 O RZ8 hZR
     have PbN:=Pb8.off O (by omega)
     have hbwN:=hbw8.trans (O.below (by omega))
     have hsN:w9.heap.size≤(((w9.setCell ⟨RZ,0,none⟩ (.bool f9)).setCell ⟨RZ,1,none⟩ (.slice c9 n9 k9)).setCell ⟨RZ,2,none⟩ (.slice d9 m9 l9)).heap.size:=by simp
     clear h9 Rc8 hTX8 hRL8 Pb8 VD8 VZ8 hbw8 O G8 G9
     go_wp2_with fail
     clear z0 z1 z2 z3 z4 z5 y0 y1 y2 v4 v8
     generalize ((w9.setCell ⟨RZ,0,none⟩ (.bool f9)).setCell ⟨RZ,1,none⟩ (.slice c9 n9 k9)).setCell ⟨RZ,2,none⟩ (.slice d9 m9 l9) = w10 at *
     have G10:=GZ.1
     refine (signD w10 G10.tr (by omega) (by omega)).mono ?_
     rintro e w11 ⟨rfl,h11⟩
     rw [show (((-1:Int):Rat)).num.sign = -1 from rfl]
     have hs11:=h11.size
     replace RcN:=RcN.below h11
     replace TXN:=TXN.below (by omega) h11
     replace RLN:=RLN.below h11
     replace PbN:=PbN.below h11
     replace VZ:=VZ.below h11
     replace hbwN:=bel_tr hbwN h11
     replace G10:=G10.below h11
     clear h11 VDn
     obtain ⟨RcM,O⟩:=RcN.set 0 (.int .i64 3)
     have c0:=(RcN.cell 0).trans (show _ = some (Value.int .i64 vd0) from rfl)
     have f0:=RcN.frozen 0
     have TXM:=TXN.off O (by omega) (by omega)
     have RLM:=RLN.off O (by omega)
     have PbM:=PbN.off O (by omega)
     have VZM:=VZ.off O (by omega)
     have hbwM:=hbwN.trans (O.below (by omega))
     have GM:=G10.off O (by omega)
     have hsM:(w11.setCell ⟨w1.heap.size + 1,0,none⟩ (.int .i64 3)).heap.size = w11.heap.size:=by simp
     clear RcN TXN RLN PbN VZ hbwN G10
     have c6:=(RcM.cell 6).trans (show _ = some sZ from rfl)
     have y0:=VZM.c0;have y1:=VZM.c1;have y2:=VZM.c2
     have GB:GR ((w11.setCell ⟨w1.heap.size + 1,0,none⟩ (.int .i64 3)).alloc (.cells #[.bool f9,.slice c9 n9 k9,.slice d9 m9 l9] 28)) (w1.heap.size + 2) f9 c9 n9 k9 d9 m9 l9 (zf j) 1:=((GM.mono (by omega)).below (bel_d0 _ _)).val HZV.out.symm
     go_wp2_with (at_builtin;refine wpList_appendR _ rfl _ _ rfl (w1.heap.size + 2) sZ j zf 1 rfl (RLM.below (bel_d0 _ _)) w11.heap.size _ rfl f9 c9 n9 k9 d9 m9 l9 (cell_new3 (by simp)) GB (by omega) (by simp;omega) (w11.heap.size + 1) (by simp) ?_)
     intro gM capM w13 SM hg hat hlt13
     clear c6 y0 y1 y2 c0 f0
     have hcc:=bel_d0 (w11.setCell ⟨w1.heap.size + 1,0,none⟩ (.int .i64 3)) (.cells #[.bool f9,.slice c9 n9 k9,.slice d9 m9 l9] 28)
     have hrow:∀ g,sZ.ownBlock = some g→w1.heap.size + 2≤g∧g < w11.heap.size:=fun g e=>by have:=RLM.lt g e;omega
     have hrow2:∀ g,(Value.slice (some ⟨gN,0,none⟩) (j + 1) capN).ownBlock = some g→g < w11.heap.size:=fun g e=>by have:=TXM.lt g e;omega
     have Rc14:=(RcM.below hcc).grown hg (fun e=>by have:=hrow _ e;omega)
     have TX14:=(TXM.below (by omega) hcc).growR (by omega) (by simp;omega) (RLM.below hcc) hNE5 hg
     have NE14:NE (.slice (some ⟨gN,0,none⟩) (j + 1) capN) (.slice (some ⟨gM,0,none⟩) (j + 1) capM):=(hNE5.symm.grown (H:=w11.heap.size + 1) (fun g e=>by have:=hrow2 g e;omega) hat (Nat.le_refl _)).symm
     have Pb14:=(PbM.below hcc).grown hg (fun e=>by have:=hrow _ e;omega)
     have hbw14:Below w.heap.size w w13:=(bel_tr hbwM hcc).trans (grown_below hg (by simp;omega) (fun g e=>by have:=hrow g e;omega))
     have hs14:w11.heap.size + 1≤w13.heap.size:=by have:=hg.size;simp at this;omega
     clear RcM TXM RLM PbM VZM hbwM GM GB hcc hg hat
     obtain ⟨Rc15,O⟩:=Rc14.set 6 (.slice (some ⟨gM,0,none⟩) (j + 1) capM)
     have TX15:=TX14.off O (by omega) (by omega)
     have RL15:=SM.off O (by omega)
     have Pb15:=Pb14.off O (by omega)
     have hbw15:=hbw14.trans (O.below (by omega))
     have hs15:w1.heap.size + 2≤(w13.setCell ⟨w1.heap.size + 1,6,none⟩ (.slice (some ⟨gM,0,none⟩) (j + 1) capM)).heap.size:=by simp;omega
     have hBS:=HFIN.out _ _ _ Rc15 TX15 RL15 NE14 Pb15 hbw15 hs15
     have c6:=(Rc14.cell 6).trans (show _ = some sZ from rfl)
     have f6:=Rc14.frozen 6
     clear Rc14 TX14 SM Pb14 hbw14 O Rc15 TX15 RL15 NE14 Pb15 hbw15 hs15 HFIN HZV hrow hrow2
     go_wp2
     go_roundw
     case rel=>first | exact ⟨j + 1,by go_num,hBS⟩ | ((repeat apply Exists.intro);refine ⟨?_,rfl⟩;exact ⟨j + 1,by go_num,hBS⟩)
     case measure=>simp [intOf];omega
   ·have VD:=box_new wr #[.string nmV,.bool pO,.slice aO nO cO,.slice dO mO lO,.bool true,.bool pl,.slice al nl cl,.slice dl ml ll,.bool false,.bool ph,.slice ah nh ch,.slice dh mh lh,.bool wh] 39
    have hz:=bel_d0 wr (.cells #[.string nmV,.bool pO,.slice aO nO cO,.slice dO mO lO,.bool true,.bool pl,.slice al nl cl,.slice dl ml ll,.bool false,.bool ph,.slice ah nh ch,.slice dh mh lh,.bool wh] 39)
    have hsD:(wr.alloc (.cells #[.string nmV,.bool pO,.slice aO nO cO,.slice dO mO lO,.bool true,.bool pl,.slice al nl cl,.slice dl ml ll,.bool false,.bool ph,.slice ah nh ch,.slice dh mh lh,.bool wh] 39)).heap.size = wr.heap.size + 1:=by simp
    have v0:=VD 0 _ rfl;have v1:=VD 1 _ rfl;have v2:=VD 2 _ rfl;have v3:=VD 3 _ rfl;have v4:=VD 4 _ rfl;have v5:=VD 5 _ rfl;have v6:=VD 6 _ rfl;have v7:=VD 7 _ rfl;have v8:=VD 8 _ rfl;have v9:=VD 9 _ rfl;have v10:=VD 10 _ rfl;have v11:=VD 11 _ rfl;have v12:=VD 12 _ rfl
    go_wp2_with fail
    obtain ⟨RV,hRV⟩:∃ R,R = wr.heap.size:=⟨_,rfl⟩
    have hRV2:w1.heap.size + 2≤RV:=by omega
    try rw [← hRV]
    rw [← hRV] at hsD VD
    clear v0 v1 v2 v3 v4 v5 v6 v7 v8 v9 v10 v11 v12 r0 r1 r2 r3 r4 r5 r6 r7 r8 r9 r10 r11 r12
    have Rc:=I.rc.below hz
    have hTX:=I.tx.below (by omega) hz
    have hRL:=I.rl.below hz
    have hNE:=I.ne
    have hXV:sX.ownBlock ≠ some RV:=fun e=>by have:=I.tx.lt _ e;omega
    have Pb:=I.pb.below hz
    have hbw:=bel_tr I.bel hz
    have HNC:Hid (∀ i,i < j→¬ crv (V i)):=I.nc
    clear I hz hRV hsI
    generalize wr.alloc (.cells #[.string nmV,.bool pO,.slice aO nO cO,.slice dO mO lO,.bool true,.bool pl,.slice al nl cl,.slice dl ml ll,.bool false,.bool ph,.slice ah nh ch,.slice dh mh lh,.bool wh] 39) = w2 at *
    have HCV:Hid (¬ crv (V j)):=fun h=>by have h1:=h.2.1;rw [← HE.out.2] at h1;cases h1
    rcases rat3 (msn mx (V j).obj) with hsn | hsn | hsn
    ·have HSG:Hid ((V j).obj.num.sign = if mx = true then -(-1) else (-1)):=msn_sgn (sgn_neg hsn)
     have HBX:Hid (bx mx (V j) = (V j).lo):=bx_lo1 HE.out.2 HE.out.1
     have HBZ:Hid (bz mx (V j) = 1):=bz_p HE.out.2 hsn
     have HVD:Hid (vdj mx V (j + 1) = 3):=by
      show vdj mx V (j + 1) = _
      rw [vdj_succ,HBZ.out,if_neg (by decide)]
     clear hsn
     refine (signD w2 (tO.below hbw) (by omega) hZ1).mono ?_
     rintro e w4 ⟨rfl,h4⟩
     obtain ⟨s0,es0⟩:∃ s0,s0 = (V j).obj.num.sign:=⟨_,rfl⟩
     rw [← es0]
     have HS0:Hid (s0 = if mx = true then -(-1) else (-1)):=es0.trans HSG.out
     clear es0
     replace Rc:=Rc.below h4
     replace hTX:=hTX.below (by omega) h4
     replace hRL:=hRL.below h4
     replace Pb:=Pb.below h4
     replace VD:=VD.below h4
     replace hbw:=bel_tr hbw h4
     have hs4:=h4.size
     clear h4 HSG
     have hbA:=bel_d0 w4 (.cells #[.bool false,.slice none 0 0,.slice none 0 0] 28)
     have VDa:=VD.below hbA
     have hbB:=bel_d0 w4 (.cells #[.bool pl,.slice al nl cl,.slice dl ml ll] 28)
     have VX:=var3_new w4 (.bool pl) (.slice al nl cl) (.slice dl ml ll) 28
     have Rcb:=Rc.below hbB
     have c4:=(Rcb.cell 4).trans (show _ = some sX from rfl)
     have v4:=VDa 4 _ rfl;have v5:=VDa 5 _ rfl;have v6:=VDa 6 _ rfl;have v7:=VDa 7 _ rfl;have v8:=VDa 8 _ rfl;have v9:=VDa 9 _ rfl;have v10:=VDa 10 _ rfl;have v11:=VDa 11 _ rfl
     have x0:=VX.c0;have x1:=VX.c1;have x2:=VX.c2
     have hTXb:=hTX.below (by omega) hbB
     have hRLb:=hRL.below hbB
     have hsb:(w4.alloc (.cells #[.bool pl,.slice al nl cl,.slice dl ml ll] 28)).heap.size = w4.heap.size + 1:=by simp
     have hbwb:=bel_tr hbw hbB
     have hcc:=bel_d0 (w4.alloc (.cells #[.bool pl,.slice al nl cl,.slice dl ml ll] 28)) (.cells #[.bool pl,.slice al nl cl,.slice dl ml ll] 28)
     have hXG:∀ w',Below w1.heap.size ((w4.alloc (.cells #[.bool pl,.slice al nl cl,.slice dl ml ll] 28)).alloc (.cells #[.bool pl,.slice al nl cl,.slice dl ml ll] 28)) w'→TR w' pl al nl cl dl ml ll (bx mx (V j)) (ZV j):=fun w' q=>by
      rw [HBX.out]
      exact tl.below ((bel_tr hbwb hcc).trans (q.mono (by omega)))
     obtain ⟨xf,xe⟩:∃ f:Nat→Rat,f = fun i=>bx mx (V i):=⟨_,rfl⟩
     have HGX:Hid (∀ w',Below w1.heap.size ((w4.alloc (.cells #[.bool pl,.slice al nl cl,.slice dl ml ll] 28)).alloc (.cells #[.bool pl,.slice al nl cl,.slice dl ml ll] 28)) w'→TR w' pl al nl cl dl ml ll (xf j) (ZV j)):=by rw [xe];exact hXG
     rw [← xe] at hTX hTXb
     have HXE:Hid (xf = fun i=>bx mx (V i)):=xe
     obtain ⟨zf,ze⟩:∃ f:Nat→Rat,f = fun i=>((bz mx (V i):Int):Rat):=⟨_,rfl⟩
     rw [← ze] at hRL hRLb
     have HZE:Hid (zf = fun i=>((bz mx (V i):Int):Rat)):=ze
     have HZV:Hid (zf j = ((1:Int):Rat)):=by show zf j = _;rw [ze];show ((bz mx (V j):Int):Rat) = _;rw [HBZ.out]
     have HFIN:Hid (∀ (sX2 sZ2:Value) (w9:World),Rw 35 w9 (w1.heap.size + 1) #[.int .i64 3,.bool false,.slice none 0 0,.slice none 0 0,sX2,.slice none 0 0,sZ2]→TX w9 w1.heap.size (w1.heap.size + 2) sX2 (j + 1) xf ZV→RL w9 (w1.heap.size + 2) sZ2 (j + 1) zf 1→NE sX2 sZ2→BoxC w9 w1.heap.size ([.bool mx,.string ⟨#[]⟩,.bool p,.slice a na ca,.slice d nd cd,.slice (some ⟨vb,vo,none⟩) n vc,.slice none 0 0]:List Value)→Below w.heap.size w w9→w1.heap.size + 2≤w9.heap.size→BS mx V ZV n w w1 ([.bool mx,.string ⟨#[]⟩,.bool p,.slice a na ca,.slice d nd cd,.slice (some ⟨vb,vo,none⟩) n vc,.slice none 0 0]:List Value) (j + 1) w9):=fun sX2 sZ2 w9 g1 g2 g3 g4 g5 g6 g7=>⟨sX2,sZ2,hlt,by rw [HVD.out];exact g1,by rw [HXE.out] at g2;exact g2,by rw [HZE.out] at g3;exact g3,g4,g5,g6,g7,fun i hi=>by
      rcases (by omega:i < j∨i = j) with hi | rfl
      ·exact HNC.out i hi
      ·exact HCV.out⟩
     clear hbA VDa VX hXG xe ze HXE HZE HVD HBX HBZ HNC HCV hTX hRL hcc
     obtain ⟨vd0,evd⟩:∃ v,v = vdj mx V j:=⟨_,rfl⟩
     rw [← evd] at Rc Rcb
     clear evd
     simp only []
     iterate 8 go_step
     refine wp_cutR 12 (J12 w4 (-1)) ?_ ?_
     ·have hs0:=HS0.out
      cases mx
      ·obtain rfl:s0 = -1:=hs0.trans (if_neg (by decide))
       clear hs0 HS0
       go_wp2_with fail
       first | exact ⟨rfl,rfl,_,_,_,rfl⟩ | (unfold J12;exact ⟨rfl,_,_,_,rfl⟩)
      ·obtain rfl:s0 = -(-1):=hs0.trans (if_pos rfl)
       clear hs0 HS0
       go_wp2_with fail
       first | exact ⟨rfl,rfl,_,_,_,rfl⟩ | (unfold J12;exact ⟨rfl,_,_,_,rfl⟩)
     clear HS0
     rintro a' w' ⟨rfl,u1,u2,u3,rfl⟩
     simp only [Act.put,List.setIfInBounds_toArray,List.set_cons_zero,List.set_cons_succ]
     go_wp2_with (at_builtin;refine wpList_appendTX _ rfl _ _ rfl w1.heap.size (w1.heap.size + 2) sX j xf ZV rfl (hTXb.below (by omega) (bel_d0 _ _)) (w4.heap.size + 1) _ rfl pl al nl cl dl ml ll (cell_new3 (by simp)) HGX.out (by omega) (by omega) (by simp;omega) (w4.heap.size + 2) (by simp) ?_)
     intro gN capN w5 SN hg hat hlt5
     clear c4 x0 x1 x2 v4 v5 v6 v7 v8 v9 v10 v11 HGX
     have hcc:=bel_d0 (w4.alloc (.cells #[.bool pl,.slice al nl cl,.slice dl ml ll] 28)) (.cells #[.bool pl,.slice al nl cl,.slice dl ml ll] 28)
     have hrow:∀ g,sX.ownBlock = some g→w1.heap.size + 2≤g∧g < w4.heap.size + 1:=fun g e=>by have:=hTXb.lt g e;omega
     have Rc5:=(Rcb.below hcc).grown hg (fun e=>by have:=hrow _ e;omega)
     have hRL5:=(hRLb.below hcc).growT (hTXb.below (by omega) hcc) hNE.symm hg
     have hNE5:NE (.slice (some ⟨gN,0,none⟩) (j + 1) capN) sZ:=hNE.grown (H:=w4.heap.size + 2) (fun g e=>by have:=(hRLb.below hcc).lt g e;simp at this;omega) hat (Nat.le_refl _)
     have Pb5:=(((Pb.below hbB).below hcc)).grown hg (fun e=>by have:=hrow _ e;omega)
     have VD5:=(((VD.below hbB).below hcc)).grown hg hXV
     have hbw5:Below w.heap.size w w5:=(bel_tr hbwb hcc).trans (grown_below hg (by simp;omega) (fun g e=>by have:=hrow g e;omega))
     have hs5:w4.heap.size + 2≤w5.heap.size:=by have:=hg.size;simp at this;omega
     clear Rc Rcb hTXb hRLb hbwb hcc hg hat hbB Pb VD hbw hNE
     have c4:=(Rc5.cell 4).trans (show _ = some sX from rfl)
     have f4:=Rc5.frozen 4
     go_wp2_with fail
     clear c4 f4
     obtain ⟨Rc6,O⟩:=Rc5.set 4 (.slice (some ⟨gN,0,none⟩) (j + 1) capN)
     have hTX6:=SN.off O (by omega) (by omega)
     have hRL6:=hRL5.off O (by omega)
     have Pb6:=Pb5.off O (by omega)
     have VD6:=VD5.off O (by omega)
     have hbw6:=hbw5.trans (O.below (by omega))
     have hs6:w5.heap.size≤(w5.setCell ⟨w1.heap.size + 1,4,none⟩ (.slice (some ⟨gN,0,none⟩) (j + 1) capN)).heap.size:=by simp
     clear Rc5 SN hRL5 Pb5 VD5 hbw5 O hrow
     generalize w5.setCell ⟨w1.heap.size + 1,4,none⟩ (.slice (some ⟨gN,0,none⟩) (j + 1) capN) = w6 at *
     refine (nQ14 0 w6 (by decide) (by decide)).mono ?_
     rintro e w7 ⟨f7,c7,n7,k7,d7,m7,l7,rfl,G7,h7⟩
     have hs7:=h7.size
     have hz7:=bel_d0 w7 (.cells #[.bool f7,.slice c7 n7 k7,.slice d7 m7 l7] 28)
     have hs8:(w7.alloc (.cells #[.bool f7,.slice c7 n7 k7,.slice d7 m7 l7] 28)).heap.size = w7.heap.size + 1:=by simp
     have Rc8:=(Rc6.below h7).below hz7
     have hTX8:=(hTX6.below (by omega) h7).below (by omega) hz7
     have hRL8:=(hRL6.below h7).below hz7
     have Pb8:=(Pb6.below h7).below hz7
     have VD8:=(VD6.below h7).below hz7
     have hXR:(Value.slice (some ⟨gN,0,none⟩) (j + 1) capN).ownBlock ≠ some w7.heap.size:=fun e=>by have:=(hTX6.below (by omega) h7).lt _ e;omega
     have hZR:sZ.ownBlock ≠ some w7.heap.size:=fun e=>by have:=(hRL6.below h7).lt _ e;omega
     have RZ8:=Rw.new 28 w7 #[.bool f7,.slice c7 n7 k7,.slice d7 m7 l7]
     have VZ8:=var3_new w7 (.bool f7) (.slice c7 n7 k7) (.slice d7 m7 l7) 28
     have hbw8:=bel_tr (bel_tr hbw6 h7) hz7
     have G8:=G7.below hz7
     have v4:=VD8 4 _ rfl;have v8:=VD8 8 _ rfl
     obtain ⟨z0,z1,z2,z3,z4,z5⟩:=id VZ8
     clear Rc6 hTX6 hRL6 Pb6 VD6 hbw6 h7 hz7 G7
     go_wp2_with fail
     clear v4 v8 z0 z1 z2 z3 z4 z5
     obtain ⟨RZ,hRZ⟩:∃ R,R = w7.heap.size:=⟨_,rfl⟩
     rw [← hRZ] at VZ8 hs8 hXR hZR RZ8 ⊢
     have hRZ2:w5.heap.size≤RZ:=by omega
     clear hRZ hs7
     generalize w7.alloc (.cells #[.bool f7,.slice c7 n7 k7,.slice d7 m7 l7] 28) = w8 at *
     refine (nQ14 (1) w8 (by decide) (by decide)).mono ?_
     rintro e w9 ⟨f9,c9,n9,k9,d9,m9,l9,rfl,G9,h9⟩
     have hs9:=h9.size
     replace Rc8:=Rc8.below h9
     replace hTX8:=hTX8.below (by omega) h9
     replace hRL8:=hRL8.below h9
     replace Pb8:=Pb8.below h9
     replace VD8:=VD8.below h9
     replace VZ8:=VZ8.below h9
     replace RZ8:=RZ8.below h9
     replace hbw8:=bel_tr hbw8 h9
     obtain ⟨VZ,O⟩:=VZ8.set (.bool f9) (.slice c9 n9 k9) (.slice d9 m9 l9)
     have GZ:=(G9.gx (R:=RZ) (.inl (by omega))).off O
     have VDn:=VD8.off O (by omega)
     obtain ⟨z0,z1,z2,z3,z4,z5⟩:=id VZ8
     have y0:=VZ.c0;have y1:=VZ.c1;have y2:=VZ.c2
     have v4:=VDn 4 _ rfl;have v8:=VDn 8 _ rfl
     have RcN:=Rc8.off O (by omega)
     have TXN:=hTX8.off2 O (by omega) hXR
     have RLN:=hRL8.off2 O RZ8 hZR
     have PbN:=Pb8.off O (by omega)
     have hbwN:=hbw8.trans (O.below (by omega))
     have hsN:w9.heap.size≤(((w9.setCell ⟨RZ,0,none⟩ (.bool f9)).setCell ⟨RZ,1,none⟩ (.slice c9 n9 k9)).setCell ⟨RZ,2,none⟩ (.slice d9 m9 l9)).heap.size:=by simp
     clear h9 Rc8 hTX8 hRL8 Pb8 VD8 VZ8 hbw8 O G8 G9
     go_wp2_with fail
     clear z0 z1 z2 z3 z4 z5 y0 y1 y2 v4 v8
     generalize ((w9.setCell ⟨RZ,0,none⟩ (.bool f9)).setCell ⟨RZ,1,none⟩ (.slice c9 n9 k9)).setCell ⟨RZ,2,none⟩ (.slice d9 m9 l9) = w10 at *
     have G10:=GZ.1
     refine (signD w10 G10.tr (by omega) (by omega)).mono ?_
     rintro e w11 ⟨rfl,h11⟩
     rw [show (((1:Int):Rat)).num.sign = 1 from rfl]
     have hs11:=h11.size
     replace RcN:=RcN.below h11
     replace TXN:=TXN.below (by omega) h11
     replace RLN:=RLN.below h11
     replace PbN:=PbN.below h11
     replace VZ:=VZ.below h11
     replace hbwN:=bel_tr hbwN h11
     replace G10:=G10.below h11
     clear h11 VDn
     obtain ⟨RcM,O⟩:=RcN.set 0 (.int .i64 3)
     have c0:=(RcN.cell 0).trans (show _ = some (Value.int .i64 vd0) from rfl)
     have f0:=RcN.frozen 0
     have TXM:=TXN.off O (by omega) (by omega)
     have RLM:=RLN.off O (by omega)
     have PbM:=PbN.off O (by omega)
     have VZM:=VZ.off O (by omega)
     have hbwM:=hbwN.trans (O.below (by omega))
     have GM:=G10.off O (by omega)
     have hsM:(w11.setCell ⟨w1.heap.size + 1,0,none⟩ (.int .i64 3)).heap.size = w11.heap.size:=by simp
     clear RcN TXN RLN PbN VZ hbwN G10
     have c6:=(RcM.cell 6).trans (show _ = some sZ from rfl)
     have y0:=VZM.c0;have y1:=VZM.c1;have y2:=VZM.c2
     have GB:GR ((w11.setCell ⟨w1.heap.size + 1,0,none⟩ (.int .i64 3)).alloc (.cells #[.bool f9,.slice c9 n9 k9,.slice d9 m9 l9] 28)) (w1.heap.size + 2) f9 c9 n9 k9 d9 m9 l9 (zf j) 1:=((GM.mono (by omega)).below (bel_d0 _ _)).val HZV.out.symm
     go_wp2_with (at_builtin;refine wpList_appendR _ rfl _ _ rfl (w1.heap.size + 2) sZ j zf 1 rfl (RLM.below (bel_d0 _ _)) w11.heap.size _ rfl f9 c9 n9 k9 d9 m9 l9 (cell_new3 (by simp)) GB (by omega) (by simp;omega) (w11.heap.size + 1) (by simp) ?_)
     intro gM capM w13 SM hg hat hlt13
     clear c6 y0 y1 y2 c0 f0
     have hcc:=bel_d0 (w11.setCell ⟨w1.heap.size + 1,0,none⟩ (.int .i64 3)) (.cells #[.bool f9,.slice c9 n9 k9,.slice d9 m9 l9] 28)
     have hrow:∀ g,sZ.ownBlock = some g→w1.heap.size + 2≤g∧g < w11.heap.size:=fun g e=>by have:=RLM.lt g e;omega
     have hrow2:∀ g,(Value.slice (some ⟨gN,0,none⟩) (j + 1) capN).ownBlock = some g→g < w11.heap.size:=fun g e=>by have:=TXM.lt g e;omega
     have Rc14:=(RcM.below hcc).grown hg (fun e=>by have:=hrow _ e;omega)
     have TX14:=(TXM.below (by omega) hcc).growR (by omega) (by simp;omega) (RLM.below hcc) hNE5 hg
     have NE14:NE (.slice (some ⟨gN,0,none⟩) (j + 1) capN) (.slice (some ⟨gM,0,none⟩) (j + 1) capM):=(hNE5.symm.grown (H:=w11.heap.size + 1) (fun g e=>by have:=hrow2 g e;omega) hat (Nat.le_refl _)).symm
     have Pb14:=(PbM.below hcc).grown hg (fun e=>by have:=hrow _ e;omega)
     have hbw14:Below w.heap.size w w13:=(bel_tr hbwM hcc).trans (grown_below hg (by simp;omega) (fun g e=>by have:=hrow g e;omega))
     have hs14:w11.heap.size + 1≤w13.heap.size:=by have:=hg.size;simp at this;omega
     clear RcM TXM RLM PbM VZM hbwM GM GB hcc hg hat
     obtain ⟨Rc15,O⟩:=Rc14.set 6 (.slice (some ⟨gM,0,none⟩) (j + 1) capM)
     have TX15:=TX14.off O (by omega) (by omega)
     have RL15:=SM.off O (by omega)
     have Pb15:=Pb14.off O (by omega)
     have hbw15:=hbw14.trans (O.below (by omega))
     have hs15:w1.heap.size + 2≤(w13.setCell ⟨w1.heap.size + 1,6,none⟩ (.slice (some ⟨gM,0,none⟩) (j + 1) capM)).heap.size:=by simp;omega
     have hBS:=HFIN.out _ _ _ Rc15 TX15 RL15 NE14 Pb15 hbw15 hs15
     have c6:=(Rc14.cell 6).trans (show _ = some sZ from rfl)
     have f6:=Rc14.frozen 6
     clear Rc14 TX14 SM Pb14 hbw14 O Rc15 TX15 RL15 NE14 Pb15 hbw15 hs15 HFIN HZV hrow hrow2
     go_wp2
     go_roundw
     case rel=>first | exact ⟨j + 1,by go_num,hBS⟩ | ((repeat apply Exists.intro);refine ⟨?_,rfl⟩;exact ⟨j + 1,by go_num,hBS⟩)
     case measure=>simp [intOf];omega
    ·have HSG:Hid ((V j).obj.num.sign = if mx = true then -(0) else (0)):=msn_sgn (sgn_nil hsn)
     have HBX:Hid (bx mx (V j) = (V j).lo):=bx_lo1 HE.out.2 HE.out.1
     have HBZ:Hid (bz mx (V j) = 0):=bz_0m hsn
     have HVD:Hid (vdj mx V (j + 1) = vdj mx V j):=by
      show vdj mx V (j + 1) = _
      rw [vdj_succ,HBZ.out,if_pos rfl]
     clear hsn
     refine (signD w2 (tO.below hbw) (by omega) hZ1).mono ?_
     rintro e w4 ⟨rfl,h4⟩
     obtain ⟨s0,es0⟩:∃ s0,s0 = (V j).obj.num.sign:=⟨_,rfl⟩
     rw [← es0]
     have HS0:Hid (s0 = if mx = true then -(0) else (0)):=es0.trans HSG.out
     clear es0
     replace Rc:=Rc.below h4
     replace hTX:=hTX.below (by omega) h4
     replace hRL:=hRL.below h4
     replace Pb:=Pb.below h4
     replace VD:=VD.below h4
     replace hbw:=bel_tr hbw h4
     have hs4:=h4.size
     clear h4 HSG
     have hbA:=bel_d0 w4 (.cells #[.bool false,.slice none 0 0,.slice none 0 0] 28)
     have VDa:=VD.below hbA
     have hbB:=bel_d0 w4 (.cells #[.bool pl,.slice al nl cl,.slice dl ml ll] 28)
     have VX:=var3_new w4 (.bool pl) (.slice al nl cl) (.slice dl ml ll) 28
     have Rcb:=Rc.below hbB
     have c4:=(Rcb.cell 4).trans (show _ = some sX from rfl)
     have v4:=VDa 4 _ rfl;have v5:=VDa 5 _ rfl;have v6:=VDa 6 _ rfl;have v7:=VDa 7 _ rfl;have v8:=VDa 8 _ rfl;have v9:=VDa 9 _ rfl;have v10:=VDa 10 _ rfl;have v11:=VDa 11 _ rfl
     have x0:=VX.c0;have x1:=VX.c1;have x2:=VX.c2
     have hTXb:=hTX.below (by omega) hbB
     have hRLb:=hRL.below hbB
     have hsb:(w4.alloc (.cells #[.bool pl,.slice al nl cl,.slice dl ml ll] 28)).heap.size = w4.heap.size + 1:=by simp
     have hbwb:=bel_tr hbw hbB
     have hcc:=bel_d0 (w4.alloc (.cells #[.bool pl,.slice al nl cl,.slice dl ml ll] 28)) (.cells #[.bool pl,.slice al nl cl,.slice dl ml ll] 28)
     have hXG:∀ w',Below w1.heap.size ((w4.alloc (.cells #[.bool pl,.slice al nl cl,.slice dl ml ll] 28)).alloc (.cells #[.bool pl,.slice al nl cl,.slice dl ml ll] 28)) w'→TR w' pl al nl cl dl ml ll (bx mx (V j)) (ZV j):=fun w' q=>by
      rw [HBX.out]
      exact tl.below ((bel_tr hbwb hcc).trans (q.mono (by omega)))
     obtain ⟨xf,xe⟩:∃ f:Nat→Rat,f = fun i=>bx mx (V i):=⟨_,rfl⟩
     have HGX:Hid (∀ w',Below w1.heap.size ((w4.alloc (.cells #[.bool pl,.slice al nl cl,.slice dl ml ll] 28)).alloc (.cells #[.bool pl,.slice al nl cl,.slice dl ml ll] 28)) w'→TR w' pl al nl cl dl ml ll (xf j) (ZV j)):=by rw [xe];exact hXG
     rw [← xe] at hTX hTXb
     have HXE:Hid (xf = fun i=>bx mx (V i)):=xe
     obtain ⟨zf,ze⟩:∃ f:Nat→Rat,f = fun i=>((bz mx (V i):Int):Rat):=⟨_,rfl⟩
     rw [← ze] at hRL hRLb
     have HZE:Hid (zf = fun i=>((bz mx (V i):Int):Rat)):=ze
     have HZV:Hid (zf j = ((0:Int):Rat)):=by show zf j = _;rw [ze];show ((bz mx (V j):Int):Rat) = _;rw [HBZ.out]
     have HFIN:Hid (∀ (sX2 sZ2:Value) (w9:World),Rw 35 w9 (w1.heap.size + 1) #[.int .i64 (vdj mx V j),.bool false,.slice none 0 0,.slice none 0 0,sX2,.slice none 0 0,sZ2]→TX w9 w1.heap.size (w1.heap.size + 2) sX2 (j + 1) xf ZV→RL w9 (w1.heap.size + 2) sZ2 (j + 1) zf 1→NE sX2 sZ2→BoxC w9 w1.heap.size ([.bool mx,.string ⟨#[]⟩,.bool p,.slice a na ca,.slice d nd cd,.slice (some ⟨vb,vo,none⟩) n vc,.slice none 0 0]:List Value)→Below w.heap.size w w9→w1.heap.size + 2≤w9.heap.size→BS mx V ZV n w w1 ([.bool mx,.string ⟨#[]⟩,.bool p,.slice a na ca,.slice d nd cd,.slice (some ⟨vb,vo,none⟩) n vc,.slice none 0 0]:List Value) (j + 1) w9):=fun sX2 sZ2 w9 g1 g2 g3 g4 g5 g6 g7=>⟨sX2,sZ2,hlt,by rw [HVD.out];exact g1,by rw [HXE.out] at g2;exact g2,by rw [HZE.out] at g3;exact g3,g4,g5,g6,g7,fun i hi=>by
      rcases (by omega:i < j∨i = j) with hi | rfl
      ·exact HNC.out i hi
      ·exact HCV.out⟩
     clear hbA VDa VX hXG xe ze HXE HZE HVD HBX HBZ HNC HCV hTX hRL hcc
     obtain ⟨vd0,evd⟩:∃ v,v = vdj mx V j:=⟨_,rfl⟩
     rw [← evd] at Rc Rcb HFIN
     clear evd
     simp only []
     iterate 8 go_step
     refine wp_cutR 12 (J12 w4 (0)) ?_ ?_
     ·have hs0:=HS0.out
      cases mx
      ·obtain rfl:s0 = 0:=hs0.trans (if_neg (by decide))
       clear hs0 HS0
       go_wp2_with fail
       first | exact ⟨rfl,rfl,_,_,_,rfl⟩ | (unfold J12;exact ⟨rfl,_,_,_,rfl⟩)
      ·obtain rfl:s0 = -(0):=hs0.trans (if_pos rfl)
       clear hs0 HS0
       go_wp2_with fail
       first | exact ⟨rfl,rfl,_,_,_,rfl⟩ | (unfold J12;exact ⟨rfl,_,_,_,rfl⟩)
     clear HS0
     rintro a' w' ⟨rfl,u1,u2,u3,rfl⟩
     simp only [Act.put,List.setIfInBounds_toArray,List.set_cons_zero,List.set_cons_succ]
     go_wp2_with (at_builtin;refine wpList_appendTX _ rfl _ _ rfl w1.heap.size (w1.heap.size + 2) sX j xf ZV rfl (hTXb.below (by omega) (bel_d0 _ _)) (w4.heap.size + 1) _ rfl pl al nl cl dl ml ll (cell_new3 (by simp)) HGX.out (by omega) (by omega) (by simp;omega) (w4.heap.size + 2) (by simp) ?_)
     intro gN capN w5 SN hg hat hlt5
     clear c4 x0 x1 x2 v4 v5 v6 v7 v8 v9 v10 v11 HGX
     have hcc:=bel_d0 (w4.alloc (.cells #[.bool pl,.slice al nl cl,.slice dl ml ll] 28)) (.cells #[.bool pl,.slice al nl cl,.slice dl ml ll] 28)
     have hrow:∀ g,sX.ownBlock = some g→w1.heap.size + 2≤g∧g < w4.heap.size + 1:=fun g e=>by have:=hTXb.lt g e;omega
     have Rc5:=(Rcb.below hcc).grown hg (fun e=>by have:=hrow _ e;omega)
     have hRL5:=(hRLb.below hcc).growT (hTXb.below (by omega) hcc) hNE.symm hg
     have hNE5:NE (.slice (some ⟨gN,0,none⟩) (j + 1) capN) sZ:=hNE.grown (H:=w4.heap.size + 2) (fun g e=>by have:=(hRLb.below hcc).lt g e;simp at this;omega) hat (Nat.le_refl _)
     have Pb5:=(((Pb.below hbB).below hcc)).grown hg (fun e=>by have:=hrow _ e;omega)
     have VD5:=(((VD.below hbB).below hcc)).grown hg hXV
     have hbw5:Below w.heap.size w w5:=(bel_tr hbwb hcc).trans (grown_below hg (by simp;omega) (fun g e=>by have:=hrow g e;omega))
     have hs5:w4.heap.size + 2≤w5.heap.size:=by have:=hg.size;simp at this;omega
     clear Rc Rcb hTXb hRLb hbwb hcc hg hat hbB Pb VD hbw hNE
     have c4:=(Rc5.cell 4).trans (show _ = some sX from rfl)
     have f4:=Rc5.frozen 4
     go_wp2_with fail
     clear c4 f4
     obtain ⟨Rc6,O⟩:=Rc5.set 4 (.slice (some ⟨gN,0,none⟩) (j + 1) capN)
     have hTX6:=SN.off O (by omega) (by omega)
     have hRL6:=hRL5.off O (by omega)
     have Pb6:=Pb5.off O (by omega)
     have VD6:=VD5.off O (by omega)
     have hbw6:=hbw5.trans (O.below (by omega))
     have hs6:w5.heap.size≤(w5.setCell ⟨w1.heap.size + 1,4,none⟩ (.slice (some ⟨gN,0,none⟩) (j + 1) capN)).heap.size:=by simp
     clear Rc5 SN hRL5 Pb5 VD5 hbw5 O hrow
     generalize w5.setCell ⟨w1.heap.size + 1,4,none⟩ (.slice (some ⟨gN,0,none⟩) (j + 1) capN) = w6 at *
     refine (nQ14 0 w6 (by decide) (by decide)).mono ?_
     rintro e w7 ⟨f7,c7,n7,k7,d7,m7,l7,rfl,G7,h7⟩
     have hs7:=h7.size
     have hz7:=bel_d0 w7 (.cells #[.bool f7,.slice c7 n7 k7,.slice d7 m7 l7] 28)
     have hs8:(w7.alloc (.cells #[.bool f7,.slice c7 n7 k7,.slice d7 m7 l7] 28)).heap.size = w7.heap.size + 1:=by simp
     have Rc8:=(Rc6.below h7).below hz7
     have hTX8:=(hTX6.below (by omega) h7).below (by omega) hz7
     have hRL8:=(hRL6.below h7).below hz7
     have Pb8:=(Pb6.below h7).below hz7
     have VD8:=(VD6.below h7).below hz7
     have VZ8:=var3_new w7 (.bool f7) (.slice c7 n7 k7) (.slice d7 m7 l7) 28
     have hbw8:=bel_tr (bel_tr hbw6 h7) hz7
     have G8:=G7.below hz7
     have v4:=VD8 4 _ rfl;have v8:=VD8 8 _ rfl
     obtain ⟨z0,z1,z2,z3,z4,z5⟩:=id VZ8
     clear Rc6 hTX6 hRL6 Pb6 VD6 hbw6 h7 hz7 G7
     go_wp2_with fail
     clear v4 v8 z0 z1 z2 z3 z4 z5
     obtain ⟨RZ,hRZ⟩:∃ R,R = w7.heap.size:=⟨_,rfl⟩
     rw [← hRZ] at VZ8 hs8 ⊢
     have hRZ2:w5.heap.size≤RZ:=by omega
     clear hRZ hs7
     generalize w7.alloc (.cells #[.bool f7,.slice c7 n7 k7,.slice d7 m7 l7] 28) = w8 at *
     have Rc10:=Rc8
     have RcN:=Rc8
     have TXN:=hTX8
     have RLN:=hRL8
     have PbN:=Pb8
     have hbwN:=hbw8
     have VZ:=VZ8
     have VDn:=VD8
     have G10:=G8
     have hsN:=Nat.le_refl w8.heap.size
     clear Rc8 hTX8 hRL8 Pb8 hbw8 VZ8 VD8 G8 Rc10
     refine (signD w8 G10.tr (by omega) (by omega)).mono ?_
     rintro e w11 ⟨rfl,h11⟩
     rw [show (((0:Int):Rat)).num.sign = 0 from rfl]
     have hs11:=h11.size
     replace RcN:=RcN.below h11
     replace TXN:=TXN.below (by omega) h11
     replace RLN:=RLN.below h11
     replace PbN:=PbN.below h11
     replace VZ:=VZ.below h11
     replace hbwN:=bel_tr hbwN h11
     replace G10:=G10.below h11
     clear h11 VDn
     have RcM:=RcN
     have TXM:=TXN
     have RLM:=RLN
     have PbM:=PbN
     have VZM:=VZ
     have hbwM:=hbwN
     have GM:=G10
     have hsM:=Eq.refl w11.heap.size
     clear RcN TXN RLN PbN VZ hbwN G10
     have c6:=(RcM.cell 6).trans (show _ = some sZ from rfl)
     have y0:=VZM.c0;have y1:=VZM.c1;have y2:=VZM.c2
     have GB:GR (w11.alloc (.cells #[.bool f7,.slice c7 n7 k7,.slice d7 m7 l7] 28)) (w1.heap.size + 2) f7 c7 n7 k7 d7 m7 l7 (zf j) 1:=((GM.mono (by omega)).below (bel_d0 _ _)).val HZV.out.symm
     go_wp2_with (at_builtin;refine wpList_appendR _ rfl _ _ rfl (w1.heap.size + 2) sZ j zf 1 rfl (RLM.below (bel_d0 _ _)) w11.heap.size _ rfl f7 c7 n7 k7 d7 m7 l7 (cell_new3 (by simp)) GB (by omega) (by simp;omega) (w11.heap.size + 1) (by simp) ?_)
     intro gM capM w13 SM hg hat hlt13
     clear c6 y0 y1 y2 
     have hcc:=bel_d0 w11 (.cells #[.bool f7,.slice c7 n7 k7,.slice d7 m7 l7] 28)
     have hrow:∀ g,sZ.ownBlock = some g→w1.heap.size + 2≤g∧g < w11.heap.size:=fun g e=>by have:=RLM.lt g e;omega
     have hrow2:∀ g,(Value.slice (some ⟨gN,0,none⟩) (j + 1) capN).ownBlock = some g→g < w11.heap.size:=fun g e=>by have:=TXM.lt g e;omega
     have Rc14:=(RcM.below hcc).grown hg (fun e=>by have:=hrow _ e;omega)
     have TX14:=(TXM.below (by omega) hcc).growR (by omega) (by simp;omega) (RLM.below hcc) hNE5 hg
     have NE14:NE (.slice (some ⟨gN,0,none⟩) (j + 1) capN) (.slice (some ⟨gM,0,none⟩) (j + 1) capM):=(hNE5.symm.grown (H:=w11.heap.size + 1) (fun g e=>by have:=hrow2 g e;omega) hat (Nat.le_refl _)).symm
     have Pb14:=(PbM.below hcc).grown hg (fun e=>by have:=hrow _ e;omega)
     have hbw14:Below w.heap.size w w13:=(bel_tr hbwM hcc).trans (grown_below hg (by simp;omega) (fun g e=>by have:=hrow g e;omega))
     have hs14:w11.heap.size + 1≤w13.heap.size:=by have:=hg.size;simp at this;omega
     clear RcM TXM RLM PbM VZM hbwM GM GB hcc hg hat
     obtain ⟨Rc15,O⟩:=Rc14.set 6 (.slice (some ⟨gM,0,none⟩) (j + 1) capM)
     have TX15:=TX14.off O (by omega) (by omega)
     have RL15:=SM.off O (by omega)
     have Pb15:=Pb14.off O (by omega)
     have hbw15:=hbw14.trans (O.below (by omega))
     have hs15:w1.heap.size + 2≤(w13.setCell ⟨w1.heap.size + 1,6,none⟩ (.slice (some ⟨gM,0,none⟩) (j + 1) capM)).heap.size:=by simp;omega
     have hBS:=HFIN.out _ _ _ Rc15 TX15 RL15 NE14 Pb15 hbw15 hs15
     have c6:=(Rc14.cell 6).trans (show _ = some sZ from rfl)
     have f6:=Rc14.frozen 6
     clear Rc14 TX14 SM Pb14 hbw14 O Rc15 TX15 RL15 NE14 Pb15 hbw15 hs15 HFIN HZV hrow hrow2
     go_wp2
     go_roundw
     case rel=>first | exact ⟨j + 1,by go_num,hBS⟩ | ((repeat apply Exists.intro);refine ⟨?_,rfl⟩;exact ⟨j + 1,by go_num,hBS⟩)
     case measure=>simp [intOf];omega
    ·have HSG:Hid ((V j).obj.num.sign = if mx = true then -(1) else (1)):=msn_sgn (sgn_pos hsn)
     have HBX:Hid (bx mx (V j) = (V j).lo):=bx_lo1 HE.out.2 HE.out.1
     have HBZ:Hid (bz mx (V j) = 0):=bz_0p HE.out.1 hsn
     have HVD:Hid (vdj mx V (j + 1) = vdj mx V j):=by
      show vdj mx V (j + 1) = _
      rw [vdj_succ,HBZ.out,if_pos rfl]
     clear hsn
     refine (signD w2 (tO.below hbw) (by omega) hZ1).mono ?_
     rintro e w4 ⟨rfl,h4⟩
     obtain ⟨s0,es0⟩:∃ s0,s0 = (V j).obj.num.sign:=⟨_,rfl⟩
     rw [← es0]
     have HS0:Hid (s0 = if mx = true then -(1) else (1)):=es0.trans HSG.out
     clear es0
     replace Rc:=Rc.below h4
     replace hTX:=hTX.below (by omega) h4
     replace hRL:=hRL.below h4
     replace Pb:=Pb.below h4
     replace VD:=VD.below h4
     replace hbw:=bel_tr hbw h4
     have hs4:=h4.size
     clear h4 HSG
     have hbA:=bel_d0 w4 (.cells #[.bool false,.slice none 0 0,.slice none 0 0] 28)
     have VDa:=VD.below hbA
     have hbB:=bel_d0 w4 (.cells #[.bool pl,.slice al nl cl,.slice dl ml ll] 28)
     have VX:=var3_new w4 (.bool pl) (.slice al nl cl) (.slice dl ml ll) 28
     have Rcb:=Rc.below hbB
     have c4:=(Rcb.cell 4).trans (show _ = some sX from rfl)
     have v4:=VDa 4 _ rfl;have v5:=VDa 5 _ rfl;have v6:=VDa 6 _ rfl;have v7:=VDa 7 _ rfl;have v8:=VDa 8 _ rfl;have v9:=VDa 9 _ rfl;have v10:=VDa 10 _ rfl;have v11:=VDa 11 _ rfl
     have x0:=VX.c0;have x1:=VX.c1;have x2:=VX.c2
     have hTXb:=hTX.below (by omega) hbB
     have hRLb:=hRL.below hbB
     have hsb:(w4.alloc (.cells #[.bool pl,.slice al nl cl,.slice dl ml ll] 28)).heap.size = w4.heap.size + 1:=by simp
     have hbwb:=bel_tr hbw hbB
     have hcc:=bel_d0 (w4.alloc (.cells #[.bool pl,.slice al nl cl,.slice dl ml ll] 28)) (.cells #[.bool pl,.slice al nl cl,.slice dl ml ll] 28)
     have hXG:∀ w',Below w1.heap.size ((w4.alloc (.cells #[.bool pl,.slice al nl cl,.slice dl ml ll] 28)).alloc (.cells #[.bool pl,.slice al nl cl,.slice dl ml ll] 28)) w'→TR w' pl al nl cl dl ml ll (bx mx (V j)) (ZV j):=fun w' q=>by
      rw [HBX.out]
      exact tl.below ((bel_tr hbwb hcc).trans (q.mono (by omega)))
     obtain ⟨xf,xe⟩:∃ f:Nat→Rat,f = fun i=>bx mx (V i):=⟨_,rfl⟩
     have HGX:Hid (∀ w',Below w1.heap.size ((w4.alloc (.cells #[.bool pl,.slice al nl cl,.slice dl ml ll] 28)).alloc (.cells #[.bool pl,.slice al nl cl,.slice dl ml ll] 28)) w'→TR w' pl al nl cl dl ml ll (xf j) (ZV j)):=by rw [xe];exact hXG
     rw [← xe] at hTX hTXb
     have HXE:Hid (xf = fun i=>bx mx (V i)):=xe
     obtain ⟨zf,ze⟩:∃ f:Nat→Rat,f = fun i=>((bz mx (V i):Int):Rat):=⟨_,rfl⟩
     rw [← ze] at hRL hRLb
     have HZE:Hid (zf = fun i=>((bz mx (V i):Int):Rat)):=ze
     have HZV:Hid (zf j = ((0:Int):Rat)):=by show zf j = _;rw [ze];show ((bz mx (V j):Int):Rat) = _;rw [HBZ.out]
     have HFIN:Hid (∀ (sX2 sZ2:Value) (w9:World),Rw 35 w9 (w1.heap.size + 1) #[.int .i64 (vdj mx V j),.bool false,.slice none 0 0,.slice none 0 0,sX2,.slice none 0 0,sZ2]→TX w9 w1.heap.size (w1.heap.size + 2) sX2 (j + 1) xf ZV→RL w9 (w1.heap.size + 2) sZ2 (j + 1) zf 1→NE sX2 sZ2→BoxC w9 w1.heap.size ([.bool mx,.string ⟨#[]⟩,.bool p,.slice a na ca,.slice d nd cd,.slice (some ⟨vb,vo,none⟩) n vc,.slice none 0 0]:List Value)→Below w.heap.size w w9→w1.heap.size + 2≤w9.heap.size→BS mx V ZV n w w1 ([.bool mx,.string ⟨#[]⟩,.bool p,.slice a na ca,.slice d nd cd,.slice (some ⟨vb,vo,none⟩) n vc,.slice none 0 0]:List Value) (j + 1) w9):=fun sX2 sZ2 w9 g1 g2 g3 g4 g5 g6 g7=>⟨sX2,sZ2,hlt,by rw [HVD.out];exact g1,by rw [HXE.out] at g2;exact g2,by rw [HZE.out] at g3;exact g3,g4,g5,g6,g7,fun i hi=>by
      rcases (by omega:i < j∨i = j) with hi | rfl
      ·exact HNC.out i hi
      ·exact HCV.out⟩
     clear hbA VDa VX hXG xe ze HXE HZE HVD HBX HBZ HNC HCV hTX hRL hcc
     obtain ⟨vd0,evd⟩:∃ v,v = vdj mx V j:=⟨_,rfl⟩
     rw [← evd] at Rc Rcb HFIN
     clear evd
     simp only []
     iterate 8 go_step
     refine wp_cutR 12 (J12 w4 (1)) ?_ ?_
     ·have hs0:=HS0.out
      cases mx
      ·obtain rfl:s0 = 1:=hs0.trans (if_neg (by decide))
       clear hs0 HS0
       go_wp2_with fail
       first | exact ⟨rfl,rfl,_,_,_,rfl⟩ | (unfold J12;exact ⟨rfl,_,_,_,rfl⟩)
      ·obtain rfl:s0 = -(1):=hs0.trans (if_pos rfl)
       clear hs0 HS0
       go_wp2_with fail
       first | exact ⟨rfl,rfl,_,_,_,rfl⟩ | (unfold J12;exact ⟨rfl,_,_,_,rfl⟩)
     clear HS0
     rintro a' w' ⟨rfl,u1,u2,u3,rfl⟩
     simp only [Act.put,List.setIfInBounds_toArray,List.set_cons_zero,List.set_cons_succ]
     go_wp2_with (at_builtin;refine wpList_appendTX _ rfl _ _ rfl w1.heap.size (w1.heap.size + 2) sX j xf ZV rfl (hTXb.below (by omega) (bel_d0 _ _)) (w4.heap.size + 1) _ rfl pl al nl cl dl ml ll (cell_new3 (by simp)) HGX.out (by omega) (by omega) (by simp;omega) (w4.heap.size + 2) (by simp) ?_)
     intro gN capN w5 SN hg hat hlt5
     clear c4 x0 x1 x2 v4 v5 v6 v7 v8 v9 v10 v11 HGX
     have hcc:=bel_d0 (w4.alloc (.cells #[.bool pl,.slice al nl cl,.slice dl ml ll] 28)) (.cells #[.bool pl,.slice al nl cl,.slice dl ml ll] 28)
     have hrow:∀ g,sX.ownBlock = some g→w1.heap.size + 2≤g∧g < w4.heap.size + 1:=fun g e=>by have:=hTXb.lt g e;omega
     have Rc5:=(Rcb.below hcc).grown hg (fun e=>by have:=hrow _ e;omega)
     have hRL5:=(hRLb.below hcc).growT (hTXb.below (by omega) hcc) hNE.symm hg
     have hNE5:NE (.slice (some ⟨gN,0,none⟩) (j + 1) capN) sZ:=hNE.grown (H:=w4.heap.size + 2) (fun g e=>by have:=(hRLb.below hcc).lt g e;simp at this;omega) hat (Nat.le_refl _)
     have Pb5:=(((Pb.below hbB).below hcc)).grown hg (fun e=>by have:=hrow _ e;omega)
     have VD5:=(((VD.below hbB).below hcc)).grown hg hXV
     have hbw5:Below w.heap.size w w5:=(bel_tr hbwb hcc).trans (grown_below hg (by simp;omega) (fun g e=>by have:=hrow g e;omega))
     have hs5:w4.heap.size + 2≤w5.heap.size:=by have:=hg.size;simp at this;omega
     clear Rc Rcb hTXb hRLb hbwb hcc hg hat hbB Pb VD hbw hNE
     have c4:=(Rc5.cell 4).trans (show _ = some sX from rfl)
     have f4:=Rc5.frozen 4
     go_wp2_with fail
     clear c4 f4
     obtain ⟨Rc6,O⟩:=Rc5.set 4 (.slice (some ⟨gN,0,none⟩) (j + 1) capN)
     have hTX6:=SN.off O (by omega) (by omega)
     have hRL6:=hRL5.off O (by omega)
     have Pb6:=Pb5.off O (by omega)
     have VD6:=VD5.off O (by omega)
     have hbw6:=hbw5.trans (O.below (by omega))
     have hs6:w5.heap.size≤(w5.setCell ⟨w1.heap.size + 1,4,none⟩ (.slice (some ⟨gN,0,none⟩) (j + 1) capN)).heap.size:=by simp
     clear Rc5 SN hRL5 Pb5 VD5 hbw5 O hrow
     generalize w5.setCell ⟨w1.heap.size + 1,4,none⟩ (.slice (some ⟨gN,0,none⟩) (j + 1) capN) = w6 at *
     refine (nQ14 0 w6 (by decide) (by decide)).mono ?_
     rintro e w7 ⟨f7,c7,n7,k7,d7,m7,l7,rfl,G7,h7⟩
     have hs7:=h7.size
     have hz7:=bel_d0 w7 (.cells #[.bool f7,.slice c7 n7 k7,.slice d7 m7 l7] 28)
     have hs8:(w7.alloc (.cells #[.bool f7,.slice c7 n7 k7,.slice d7 m7 l7] 28)).heap.size = w7.heap.size + 1:=by simp
     have Rc8:=(Rc6.below h7).below hz7
     have hTX8:=(hTX6.below (by omega) h7).below (by omega) hz7
     have hRL8:=(hRL6.below h7).below hz7
     have Pb8:=(Pb6.below h7).below hz7
     have VD8:=(VD6.below h7).below hz7
     have VZ8:=var3_new w7 (.bool f7) (.slice c7 n7 k7) (.slice d7 m7 l7) 28
     have hbw8:=bel_tr (bel_tr hbw6 h7) hz7
     have G8:=G7.below hz7
     have v4:=VD8 4 _ rfl;have v8:=VD8 8 _ rfl
     obtain ⟨z0,z1,z2,z3,z4,z5⟩:=id VZ8
     clear Rc6 hTX6 hRL6 Pb6 VD6 hbw6 h7 hz7 G7
     go_wp2_with fail
     clear v4 v8 z0 z1 z2 z3 z4 z5
     obtain ⟨RZ,hRZ⟩:∃ R,R = w7.heap.size:=⟨_,rfl⟩
     rw [← hRZ] at VZ8 hs8 ⊢
     have hRZ2:w5.heap.size≤RZ:=by omega
     clear hRZ hs7
     generalize w7.alloc (.cells #[.bool f7,.slice c7 n7 k7,.slice d7 m7 l7] 28) = w8 at *
     have Rc10:=Rc8
     have RcN:=Rc8
     have TXN:=hTX8
     have RLN:=hRL8
     have PbN:=Pb8
     have hbwN:=hbw8
     have VZ:=VZ8
     have VDn:=VD8
     have G10:=G8
     have hsN:=Nat.le_refl w8.heap.size
     clear Rc8 hTX8 hRL8 Pb8 hbw8 VZ8 VD8 G8 Rc10
     refine (signD w8 G10.tr (by omega) (by omega)).mono ?_
     rintro e w11 ⟨rfl,h11⟩
     rw [show (((0:Int):Rat)).num.sign = 0 from rfl]
     have hs11:=h11.size
     replace RcN:=RcN.below h11
     replace TXN:=TXN.below (by omega) h11
     replace RLN:=RLN.below h11
     replace PbN:=PbN.below h11
     replace VZ:=VZ.below h11
     replace hbwN:=bel_tr hbwN h11
     replace G10:=G10.below h11
     clear h11 VDn
     have RcM:=RcN
     have TXM:=TXN
     have RLM:=RLN
     have PbM:=PbN
     have VZM:=VZ
     have hbwM:=hbwN
     have GM:=G10
     have hsM:=Eq.refl w11.heap.size
     clear RcN TXN RLN PbN VZ hbwN G10
     have c6:=(RcM.cell 6).trans (show _ = some sZ from rfl)
     have y0:=VZM.c0;have y1:=VZM.c1;have y2:=VZM.c2
     have GB:GR (w11.alloc (.cells #[.bool f7,.slice c7 n7 k7,.slice d7 m7 l7] 28)) (w1.heap.size + 2) f7 c7 n7 k7 d7 m7 l7 (zf j) 1:=((GM.mono (by omega)).below (bel_d0 _ _)).val HZV.out.symm
     go_wp2_with (at_builtin;refine wpList_appendR _ rfl _ _ rfl (w1.heap.size + 2) sZ j zf 1 rfl (RLM.below (bel_d0 _ _)) w11.heap.size _ rfl f7 c7 n7 k7 d7 m7 l7 (cell_new3 (by simp)) GB (by omega) (by simp;omega) (w11.heap.size + 1) (by simp) ?_)
     intro gM capM w13 SM hg hat hlt13
     clear c6 y0 y1 y2 
     have hcc:=bel_d0 w11 (.cells #[.bool f7,.slice c7 n7 k7,.slice d7 m7 l7] 28)
     have hrow:∀ g,sZ.ownBlock = some g→w1.heap.size + 2≤g∧g < w11.heap.size:=fun g e=>by have:=RLM.lt g e;omega
     have hrow2:∀ g,(Value.slice (some ⟨gN,0,none⟩) (j + 1) capN).ownBlock = some g→g < w11.heap.size:=fun g e=>by have:=TXM.lt g e;omega
     have Rc14:=(RcM.below hcc).grown hg (fun e=>by have:=hrow _ e;omega)
     have TX14:=(TXM.below (by omega) hcc).growR (by omega) (by simp;omega) (RLM.below hcc) hNE5 hg
     have NE14:NE (.slice (some ⟨gN,0,none⟩) (j + 1) capN) (.slice (some ⟨gM,0,none⟩) (j + 1) capM):=(hNE5.symm.grown (H:=w11.heap.size + 1) (fun g e=>by have:=hrow2 g e;omega) hat (Nat.le_refl _)).symm
     have Pb14:=(PbM.below hcc).grown hg (fun e=>by have:=hrow _ e;omega)
     have hbw14:Below w.heap.size w w13:=(bel_tr hbwM hcc).trans (grown_below hg (by simp;omega) (fun g e=>by have:=hrow g e;omega))
     have hs14:w11.heap.size + 1≤w13.heap.size:=by have:=hg.size;simp at this;omega
     clear RcM TXM RLM PbM VZM hbwM GM GB hcc hg hat
     obtain ⟨Rc15,O⟩:=Rc14.set 6 (.slice (some ⟨gM,0,none⟩) (j + 1) capM)
     have TX15:=TX14.off O (by omega) (by omega)
     have RL15:=SM.off O (by omega)
     have Pb15:=Pb14.off O (by omega)
     have hbw15:=hbw14.trans (O.below (by omega))
     have hs15:w1.heap.size + 2≤(w13.setCell ⟨w1.heap.size + 1,6,none⟩ (.slice (some ⟨gM,0,none⟩) (j + 1) capM)).heap.size:=by simp;omega
     have hBS:=HFIN.out _ _ _ Rc15 TX15 RL15 NE14 Pb15 hbw15 hs15
     have c6:=(Rc14.cell 6).trans (show _ = some sZ from rfl)
     have f6:=Rc14.frozen 6
     clear Rc14 TX14 SM Pb14 hbw14 O Rc15 TX15 RL15 NE14 Pb15 hbw15 hs15 HFIN HZV hrow hrow2
     go_wp2
     go_roundw
     case rel=>first | exact ⟨j + 1,by go_num,hBS⟩ | ((repeat apply Exists.intro);refine ⟨?_,rfl⟩;exact ⟨j + 1,by go_num,hBS⟩)
     case measure=>simp [intOf];omega
   ·have VD:=box_new wr #[.string nmV,.bool pO,.slice aO nO cO,.slice dO mO lO,.bool true,.bool pl,.slice al nl cl,.slice dl ml ll,.bool true,.bool ph,.slice ah nh ch,.slice dh mh lh,.bool wh] 39
    have hz:=bel_d0 wr (.cells #[.string nmV,.bool pO,.slice aO nO cO,.slice dO mO lO,.bool true,.bool pl,.slice al nl cl,.slice dl ml ll,.bool true,.bool ph,.slice ah nh ch,.slice dh mh lh,.bool wh] 39)
    have hsD:(wr.alloc (.cells #[.string nmV,.bool pO,.slice aO nO cO,.slice dO mO lO,.bool true,.bool pl,.slice al nl cl,.slice dl ml ll,.bool true,.bool ph,.slice ah nh ch,.slice dh mh lh,.bool wh] 39)).heap.size = wr.heap.size + 1:=by simp
    have v0:=VD 0 _ rfl;have v1:=VD 1 _ rfl;have v2:=VD 2 _ rfl;have v3:=VD 3 _ rfl;have v4:=VD 4 _ rfl;have v5:=VD 5 _ rfl;have v6:=VD 6 _ rfl;have v7:=VD 7 _ rfl;have v8:=VD 8 _ rfl;have v9:=VD 9 _ rfl;have v10:=VD 10 _ rfl;have v11:=VD 11 _ rfl;have v12:=VD 12 _ rfl
    go_wp2_with fail
    obtain ⟨RV,hRV⟩:∃ R,R = wr.heap.size:=⟨_,rfl⟩
    have hRV2:w1.heap.size + 2≤RV:=by omega
    try rw [← hRV]
    rw [← hRV] at hsD VD
    clear v0 v1 v2 v3 v4 v5 v6 v7 v8 v9 v10 v11 v12 r0 r1 r2 r3 r4 r5 r6 r7 r8 r9 r10 r11 r12
    have Rc:=I.rc.below hz
    have hTX:=I.tx.below (by omega) hz
    have hRL:=I.rl.below hz
    have hNE:=I.ne
    have hXV:sX.ownBlock ≠ some RV:=fun e=>by have:=I.tx.lt _ e;omega
    have Pb:=I.pb.below hz
    have hbw:=bel_tr I.bel hz
    have HNC:Hid (∀ i,i < j→¬ crv (V i)):=I.nc
    clear I hz hRV hsI
    generalize wr.alloc (.cells #[.string nmV,.bool pO,.slice aO nO cO,.slice dO mO lO,.bool true,.bool pl,.slice al nl cl,.slice dl ml ll,.bool true,.bool ph,.slice ah nh ch,.slice dh mh lh,.bool wh] 39) = w2 at *
    obtain ⟨zc,ezc⟩:∃ z,z = cs (V j).lo (V j).hi:=⟨_,rfl⟩
    refine (cmpD zc w2 (tl.below hbw) (th.below hbw) (by omega) hZ1 hZ1 ezc).mono ?_
    rintro e w3 ⟨rfl,h3⟩
    replace Rc:=Rc.below h3
    replace hTX:=hTX.below (by omega) h3
    replace hRL:=hRL.below h3
    replace Pb:=Pb.below h3
    replace VD:=VD.below h3
    replace hbw:=bel_tr hbw h3
    have hs3:=h3.size
    clear h3
    by_cases hzc:0 < zc
    ·have hcr:crv (V j):=⟨HE.out.1.symm,HE.out.2.symm,cs_gt_iff.1 (by rw [← ezc];exact hzc)⟩
     have HCR:Hid (Crs (bxP mx p a na ca d nd cd (some ⟨vb,vo,none⟩) n vc k V ZV Sk)):=box_crs1 hlt hcr
     have hzd:decide (0 < zc) = true:=by simpa using hzc
     clear hcr ezc VD Rc hTX hRL HNC
     have p0:=Pb 0 _ rfl;have p1:=Pb 1 _ rfl;have p2:=Pb 2 _ rfl;have p3:=Pb 3 _ rfl;have p4:=Pb 4 _ rfl;have p5:=Pb 5 _ rfl;have p6:=Pb 6 _ rfl
     go_wp2_with fail
     clear p0 p1 p2 p3 p4 p5 p6
     refine (HINF w3 hbw).mono ?_
     rintro e w4 ⟨h4,hh⟩
     obtain rfl:e = .returned .nilIface:=by
      rcases hh with ⟨hn,_⟩ | ⟨_,⟨_,h⟩ | ⟨hc,_⟩⟩
      ·exact absurd rfl hn
      ·exact h
      ·exact absurd HCR.out hc
     have hw:=bel_tr hbw h4
     clear h4 hbw hh Pb
     go_wp2
     go_ret
     exact ⟨rfl,hw⟩
    ·have HCV:Hid (¬ crv (V j)):=fun h=>hzc (by rw [ezc];exact cs_gt_iff.2 h.2.2)
     have hzd:decide (0 < zc) = false:=by simpa using hzc
     have v1:=VD 1 _ rfl;have v2:=VD 2 _ rfl;have v3:=VD 3 _ rfl
     clear ezc
     go_wp2_with fail
     clear v1 v2 v3 hzc hzd
     rcases rat3 (msn mx (V j).obj) with hsn | hsn | hsn
     ·have HSG:Hid ((V j).obj.num.sign = if mx = true then -(-1) else (-1)):=msn_sgn (sgn_neg hsn)
      have HBX:Hid (bx mx (V j) = (V j).hi):=bx_hi1 HE.out.2 hsn
      have HBZ:Hid (bz mx (V j) = 0):=bz_01 HE.out.2 HE.out.1
      have HVD:Hid (vdj mx V (j + 1) = vdj mx V j):=by
       show vdj mx V (j + 1) = _
       rw [vdj_succ,HBZ.out,if_pos rfl]
      clear hsn
      refine (signD w3 (tO.below hbw) (by omega) hZ1).mono ?_
      rintro e w4 ⟨rfl,h4⟩
      obtain ⟨s0,es0⟩:∃ s0,s0 = (V j).obj.num.sign:=⟨_,rfl⟩
      rw [← es0]
      have HS0:Hid (s0 = if mx = true then -(-1) else (-1)):=es0.trans HSG.out
      clear es0
      replace Rc:=Rc.below h4
      replace hTX:=hTX.below (by omega) h4
      replace hRL:=hRL.below h4
      replace Pb:=Pb.below h4
      replace VD:=VD.below h4
      replace hbw:=bel_tr hbw h4
      have hs4:=h4.size
      clear h4 HSG
      have hbA:=bel_d0 w4 (.cells #[.bool false,.slice none 0 0,.slice none 0 0] 28)
      have VDa:=VD.below hbA
      have hbB:=bel_d0 w4 (.cells #[.bool ph,.slice ah nh ch,.slice dh mh lh] 28)
      have VX:=var3_new w4 (.bool ph) (.slice ah nh ch) (.slice dh mh lh) 28
      have Rcb:=Rc.below hbB
      have c4:=(Rcb.cell 4).trans (show _ = some sX from rfl)
      have v4:=VDa 4 _ rfl;have v5:=VDa 5 _ rfl;have v6:=VDa 6 _ rfl;have v7:=VDa 7 _ rfl;have v8:=VDa 8 _ rfl;have v9:=VDa 9 _ rfl;have v10:=VDa 10 _ rfl;have v11:=VDa 11 _ rfl
      have x0:=VX.c0;have x1:=VX.c1;have x2:=VX.c2
      have hTXb:=hTX.below (by omega) hbB
      have hRLb:=hRL.below hbB
      have hsb:(w4.alloc (.cells #[.bool ph,.slice ah nh ch,.slice dh mh lh] 28)).heap.size = w4.heap.size + 1:=by simp
      have hbwb:=bel_tr hbw hbB
      have hcc:=bel_d0 (w4.alloc (.cells #[.bool ph,.slice ah nh ch,.slice dh mh lh] 28)) (.cells #[.bool ph,.slice ah nh ch,.slice dh mh lh] 28)
      have hXG:∀ w',Below w1.heap.size ((w4.alloc (.cells #[.bool ph,.slice ah nh ch,.slice dh mh lh] 28)).alloc (.cells #[.bool ph,.slice ah nh ch,.slice dh mh lh] 28)) w'→TR w' ph ah nh ch dh mh lh (bx mx (V j)) (ZV j):=fun w' q=>by
       rw [HBX.out]
       exact th.below ((bel_tr hbwb hcc).trans (q.mono (by omega)))
      obtain ⟨xf,xe⟩:∃ f:Nat→Rat,f = fun i=>bx mx (V i):=⟨_,rfl⟩
      have HGX:Hid (∀ w',Below w1.heap.size ((w4.alloc (.cells #[.bool ph,.slice ah nh ch,.slice dh mh lh] 28)).alloc (.cells #[.bool ph,.slice ah nh ch,.slice dh mh lh] 28)) w'→TR w' ph ah nh ch dh mh lh (xf j) (ZV j)):=by rw [xe];exact hXG
      rw [← xe] at hTX hTXb
      have HXE:Hid (xf = fun i=>bx mx (V i)):=xe
      obtain ⟨zf,ze⟩:∃ f:Nat→Rat,f = fun i=>((bz mx (V i):Int):Rat):=⟨_,rfl⟩
      rw [← ze] at hRL hRLb
      have HZE:Hid (zf = fun i=>((bz mx (V i):Int):Rat)):=ze
      have HZV:Hid (zf j = ((0:Int):Rat)):=by show zf j = _;rw [ze];show ((bz mx (V j):Int):Rat) = _;rw [HBZ.out]
      have HFIN:Hid (∀ (sX2 sZ2:Value) (w9:World),Rw 35 w9 (w1.heap.size + 1) #[.int .i64 (vdj mx V j),.bool false,.slice none 0 0,.slice none 0 0,sX2,.slice none 0 0,sZ2]→TX w9 w1.heap.size (w1.heap.size + 2) sX2 (j + 1) xf ZV→RL w9 (w1.heap.size + 2) sZ2 (j + 1) zf 1→NE sX2 sZ2→BoxC w9 w1.heap.size ([.bool mx,.string ⟨#[]⟩,.bool p,.slice a na ca,.slice d nd cd,.slice (some ⟨vb,vo,none⟩) n vc,.slice none 0 0]:List Value)→Below w.heap.size w w9→w1.heap.size + 2≤w9.heap.size→BS mx V ZV n w w1 ([.bool mx,.string ⟨#[]⟩,.bool p,.slice a na ca,.slice d nd cd,.slice (some ⟨vb,vo,none⟩) n vc,.slice none 0 0]:List Value) (j + 1) w9):=fun sX2 sZ2 w9 g1 g2 g3 g4 g5 g6 g7=>⟨sX2,sZ2,hlt,by rw [HVD.out];exact g1,by rw [HXE.out] at g2;exact g2,by rw [HZE.out] at g3;exact g3,g4,g5,g6,g7,fun i hi=>by
       rcases (by omega:i < j∨i = j) with hi | rfl
       ·exact HNC.out i hi
       ·exact HCV.out⟩
      clear hbA VDa VX hXG xe ze HXE HZE HVD HBX HBZ HNC HCV hTX hRL hcc
      obtain ⟨vd0,evd⟩:∃ v,v = vdj mx V j:=⟨_,rfl⟩
      rw [← evd] at Rc Rcb HFIN
      clear evd
      simp only []
      iterate 8 go_step
      refine wp_cutR 12 (J12 w4 (-1)) ?_ ?_
      ·have hs0:=HS0.out
       cases mx
       ·obtain rfl:s0 = -1:=hs0.trans (if_neg (by decide))
        clear hs0 HS0
        go_wp2_with fail
        first | exact ⟨rfl,rfl,_,_,_,rfl⟩ | (unfold J12;exact ⟨rfl,_,_,_,rfl⟩)
       ·obtain rfl:s0 = -(-1):=hs0.trans (if_pos rfl)
        clear hs0 HS0
        go_wp2_with fail
        first | exact ⟨rfl,rfl,_,_,_,rfl⟩ | (unfold J12;exact ⟨rfl,_,_,_,rfl⟩)
      clear HS0
      rintro a' w' ⟨rfl,u1,u2,u3,rfl⟩
      simp only [Act.put,List.setIfInBounds_toArray,List.set_cons_zero,List.set_cons_succ]
      go_wp2_with (at_builtin;refine wpList_appendTX _ rfl _ _ rfl w1.heap.size (w1.heap.size + 2) sX j xf ZV rfl (hTXb.below (by omega) (bel_d0 _ _)) (w4.heap.size + 1) _ rfl ph ah nh ch dh mh lh (cell_new3 (by simp)) HGX.out (by omega) (by omega) (by simp;omega) (w4.heap.size + 2) (by simp) ?_)
      intro gN capN w5 SN hg hat hlt5
      clear c4 x0 x1 x2 v4 v5 v6 v7 v8 v9 v10 v11 HGX
      have hcc:=bel_d0 (w4.alloc (.cells #[.bool ph,.slice ah nh ch,.slice dh mh lh] 28)) (.cells #[.bool ph,.slice ah nh ch,.slice dh mh lh] 28)
      have hrow:∀ g,sX.ownBlock = some g→w1.heap.size + 2≤g∧g < w4.heap.size + 1:=fun g e=>by have:=hTXb.lt g e;omega
      have Rc5:=(Rcb.below hcc).grown hg (fun e=>by have:=hrow _ e;omega)
      have hRL5:=(hRLb.below hcc).growT (hTXb.below (by omega) hcc) hNE.symm hg
      have hNE5:NE (.slice (some ⟨gN,0,none⟩) (j + 1) capN) sZ:=hNE.grown (H:=w4.heap.size + 2) (fun g e=>by have:=(hRLb.below hcc).lt g e;simp at this;omega) hat (Nat.le_refl _)
      have Pb5:=(((Pb.below hbB).below hcc)).grown hg (fun e=>by have:=hrow _ e;omega)
      have VD5:=(((VD.below hbB).below hcc)).grown hg hXV
      have hbw5:Below w.heap.size w w5:=(bel_tr hbwb hcc).trans (grown_below hg (by simp;omega) (fun g e=>by have:=hrow g e;omega))
      have hs5:w4.heap.size + 2≤w5.heap.size:=by have:=hg.size;simp at this;omega
      clear Rc Rcb hTXb hRLb hbwb hcc hg hat hbB Pb VD hbw hNE
      have c4:=(Rc5.cell 4).trans (show _ = some sX from rfl)
      have f4:=Rc5.frozen 4
      go_wp2_with fail
      clear c4 f4
      obtain ⟨Rc6,O⟩:=Rc5.set 4 (.slice (some ⟨gN,0,none⟩) (j + 1) capN)
      have hTX6:=SN.off O (by omega) (by omega)
      have hRL6:=hRL5.off O (by omega)
      have Pb6:=Pb5.off O (by omega)
      have VD6:=VD5.off O (by omega)
      have hbw6:=hbw5.trans (O.below (by omega))
      have hs6:w5.heap.size≤(w5.setCell ⟨w1.heap.size + 1,4,none⟩ (.slice (some ⟨gN,0,none⟩) (j + 1) capN)).heap.size:=by simp
      clear Rc5 SN hRL5 Pb5 VD5 hbw5 O hrow
      generalize w5.setCell ⟨w1.heap.size + 1,4,none⟩ (.slice (some ⟨gN,0,none⟩) (j + 1) capN) = w6 at *
      refine (nQ14 0 w6 (by decide) (by decide)).mono ?_
      rintro e w7 ⟨f7,c7,n7,k7,d7,m7,l7,rfl,G7,h7⟩
      have hs7:=h7.size
      have hz7:=bel_d0 w7 (.cells #[.bool f7,.slice c7 n7 k7,.slice d7 m7 l7] 28)
      have hs8:(w7.alloc (.cells #[.bool f7,.slice c7 n7 k7,.slice d7 m7 l7] 28)).heap.size = w7.heap.size + 1:=by simp
      have Rc8:=(Rc6.below h7).below hz7
      have hTX8:=(hTX6.below (by omega) h7).below (by omega) hz7
      have hRL8:=(hRL6.below h7).below hz7
      have Pb8:=(Pb6.below h7).below hz7
      have VD8:=(VD6.below h7).below hz7
      have VZ8:=var3_new w7 (.bool f7) (.slice c7 n7 k7) (.slice d7 m7 l7) 28
      have hbw8:=bel_tr (bel_tr hbw6 h7) hz7
      have G8:=G7.below hz7
      have v4:=VD8 4 _ rfl;have v8:=VD8 8 _ rfl
      obtain ⟨z0,z1,z2,z3,z4,z5⟩:=id VZ8
      clear Rc6 hTX6 hRL6 Pb6 VD6 hbw6 h7 hz7 G7
      go_wp2_with fail
      clear v4 v8 z0 z1 z2 z3 z4 z5
      obtain ⟨RZ,hRZ⟩:∃ R,R = w7.heap.size:=⟨_,rfl⟩
      rw [← hRZ] at VZ8 hs8 ⊢
      have hRZ2:w5.heap.size≤RZ:=by omega
      clear hRZ hs7
      generalize w7.alloc (.cells #[.bool f7,.slice c7 n7 k7,.slice d7 m7 l7] 28) = w8 at *
      have Rc10:=Rc8
      have RcN:=Rc8
      have TXN:=hTX8
      have RLN:=hRL8
      have PbN:=Pb8
      have hbwN:=hbw8
      have VZ:=VZ8
      have VDn:=VD8
      have G10:=G8
      have hsN:=Nat.le_refl w8.heap.size
      clear Rc8 hTX8 hRL8 Pb8 hbw8 VZ8 VD8 G8 Rc10
      refine (signD w8 G10.tr (by omega) (by omega)).mono ?_
      rintro e w11 ⟨rfl,h11⟩
      rw [show (((0:Int):Rat)).num.sign = 0 from rfl]
      have hs11:=h11.size
      replace RcN:=RcN.below h11
      replace TXN:=TXN.below (by omega) h11
      replace RLN:=RLN.below h11
      replace PbN:=PbN.below h11
      replace VZ:=VZ.below h11
      replace hbwN:=bel_tr hbwN h11
      replace G10:=G10.below h11
      clear h11 VDn
      have RcM:=RcN
      have TXM:=TXN
      have RLM:=RLN
      have PbM:=PbN
      have VZM:=VZ
      have hbwM:=hbwN
      have GM:=G10
      have hsM:=Eq.refl w11.heap.size
      clear RcN TXN RLN PbN VZ hbwN G10
      have c6:=(RcM.cell 6).trans (show _ = some sZ from rfl)
      have y0:=VZM.c0;have y1:=VZM.c1;have y2:=VZM.c2
      have GB:GR (w11.alloc (.cells #[.bool f7,.slice c7 n7 k7,.slice d7 m7 l7] 28)) (w1.heap.size + 2) f7 c7 n7 k7 d7 m7 l7 (zf j) 1:=((GM.mono (by omega)).below (bel_d0 _ _)).val HZV.out.symm
      go_wp2_with (at_builtin;refine wpList_appendR _ rfl _ _ rfl (w1.heap.size + 2) sZ j zf 1 rfl (RLM.below (bel_d0 _ _)) w11.heap.size _ rfl f7 c7 n7 k7 d7 m7 l7 (cell_new3 (by simp)) GB (by omega) (by simp;omega) (w11.heap.size + 1) (by simp) ?_)
      intro gM capM w13 SM hg hat hlt13
      clear c6 y0 y1 y2 
      have hcc:=bel_d0 w11 (.cells #[.bool f7,.slice c7 n7 k7,.slice d7 m7 l7] 28)
      have hrow:∀ g,sZ.ownBlock = some g→w1.heap.size + 2≤g∧g < w11.heap.size:=fun g e=>by have:=RLM.lt g e;omega
      have hrow2:∀ g,(Value.slice (some ⟨gN,0,none⟩) (j + 1) capN).ownBlock = some g→g < w11.heap.size:=fun g e=>by have:=TXM.lt g e;omega
      have Rc14:=(RcM.below hcc).grown hg (fun e=>by have:=hrow _ e;omega)
      have TX14:=(TXM.below (by omega) hcc).growR (by omega) (by simp;omega) (RLM.below hcc) hNE5 hg
      have NE14:NE (.slice (some ⟨gN,0,none⟩) (j + 1) capN) (.slice (some ⟨gM,0,none⟩) (j + 1) capM):=(hNE5.symm.grown (H:=w11.heap.size + 1) (fun g e=>by have:=hrow2 g e;omega) hat (Nat.le_refl _)).symm
      have Pb14:=(PbM.below hcc).grown hg (fun e=>by have:=hrow _ e;omega)
      have hbw14:Below w.heap.size w w13:=(bel_tr hbwM hcc).trans (grown_below hg (by simp;omega) (fun g e=>by have:=hrow g e;omega))
      have hs14:w11.heap.size + 1≤w13.heap.size:=by have:=hg.size;simp at this;omega
      clear RcM TXM RLM PbM VZM hbwM GM GB hcc hg hat
      obtain ⟨Rc15,O⟩:=Rc14.set 6 (.slice (some ⟨gM,0,none⟩) (j + 1) capM)
      have TX15:=TX14.off O (by omega) (by omega)
      have RL15:=SM.off O (by omega)
      have Pb15:=Pb14.off O (by omega)
      have hbw15:=hbw14.trans (O.below (by omega))
      have hs15:w1.heap.size + 2≤(w13.setCell ⟨w1.heap.size + 1,6,none⟩ (.slice (some ⟨gM,0,none⟩) (j + 1) capM)).heap.size:=by simp;omega
      have hBS:=HFIN.out _ _ _ Rc15 TX15 RL15 NE14 Pb15 hbw15 hs15
      have c6:=(Rc14.cell 6).trans (show _ = some sZ from rfl)
      have f6:=Rc14.frozen 6
      clear Rc14 TX14 SM Pb14 hbw14 O Rc15 TX15 RL15 NE14 Pb15 hbw15 hs15 HFIN HZV hrow hrow2
      go_wp2
      go_roundw
      case rel=>first | exact ⟨j + 1,by go_num,hBS⟩ | ((repeat apply Exists.intro);refine ⟨?_,rfl⟩;exact ⟨j + 1,by go_num,hBS⟩)
      case measure=>simp [intOf];omega
     ·have HSG:Hid ((V j).obj.num.sign = if mx = true then -(0) else (0)):=msn_sgn (sgn_nil hsn)
      have HBX:Hid (bx mx (V j) = (V j).lo):=bx_lo2 HE.out.2 HE.out.1 (rat_nn (.inl hsn))
      have HBZ:Hid (bz mx (V j) = 0):=bz_01 HE.out.2 HE.out.1
      have HVD:Hid (vdj mx V (j + 1) = vdj mx V j):=by
       show vdj mx V (j + 1) = _
       rw [vdj_succ,HBZ.out,if_pos rfl]
      clear hsn
      refine (signD w3 (tO.below hbw) (by omega) hZ1).mono ?_
      rintro e w4 ⟨rfl,h4⟩
      obtain ⟨s0,es0⟩:∃ s0,s0 = (V j).obj.num.sign:=⟨_,rfl⟩
      rw [← es0]
      have HS0:Hid (s0 = if mx = true then -(0) else (0)):=es0.trans HSG.out
      clear es0
      replace Rc:=Rc.below h4
      replace hTX:=hTX.below (by omega) h4
      replace hRL:=hRL.below h4
      replace Pb:=Pb.below h4
      replace VD:=VD.below h4
      replace hbw:=bel_tr hbw h4
      have hs4:=h4.size
      clear h4 HSG
      have hbA:=bel_d0 w4 (.cells #[.bool false,.slice none 0 0,.slice none 0 0] 28)
      have VDa:=VD.below hbA
      have hbB:=bel_d0 w4 (.cells #[.bool pl,.slice al nl cl,.slice dl ml ll] 28)
      have VX:=var3_new w4 (.bool pl) (.slice al nl cl) (.slice dl ml ll) 28
      have Rcb:=Rc.below hbB
      have c4:=(Rcb.cell 4).trans (show _ = some sX from rfl)
      have v4:=VDa 4 _ rfl;have v5:=VDa 5 _ rfl;have v6:=VDa 6 _ rfl;have v7:=VDa 7 _ rfl;have v8:=VDa 8 _ rfl;have v9:=VDa 9 _ rfl;have v10:=VDa 10 _ rfl;have v11:=VDa 11 _ rfl
      have x0:=VX.c0;have x1:=VX.c1;have x2:=VX.c2
      have hTXb:=hTX.below (by omega) hbB
      have hRLb:=hRL.below hbB
      have hsb:(w4.alloc (.cells #[.bool pl,.slice al nl cl,.slice dl ml ll] 28)).heap.size = w4.heap.size + 1:=by simp
      have hbwb:=bel_tr hbw hbB
      have hcc:=bel_d0 (w4.alloc (.cells #[.bool pl,.slice al nl cl,.slice dl ml ll] 28)) (.cells #[.bool pl,.slice al nl cl,.slice dl ml ll] 28)
      have hXG:∀ w',Below w1.heap.size ((w4.alloc (.cells #[.bool pl,.slice al nl cl,.slice dl ml ll] 28)).alloc (.cells #[.bool pl,.slice al nl cl,.slice dl ml ll] 28)) w'→TR w' pl al nl cl dl ml ll (bx mx (V j)) (ZV j):=fun w' q=>by
       rw [HBX.out]
       exact tl.below ((bel_tr hbwb hcc).trans (q.mono (by omega)))
      obtain ⟨xf,xe⟩:∃ f:Nat→Rat,f = fun i=>bx mx (V i):=⟨_,rfl⟩
      have HGX:Hid (∀ w',Below w1.heap.size ((w4.alloc (.cells #[.bool pl,.slice al nl cl,.slice dl ml ll] 28)).alloc (.cells #[.bool pl,.slice al nl cl,.slice dl ml ll] 28)) w'→TR w' pl al nl cl dl ml ll (xf j) (ZV j)):=by rw [xe];exact hXG
      rw [← xe] at hTX hTXb
      have HXE:Hid (xf = fun i=>bx mx (V i)):=xe
      obtain ⟨zf,ze⟩:∃ f:Nat→Rat,f = fun i=>((bz mx (V i):Int):Rat):=⟨_,rfl⟩
      rw [← ze] at hRL hRLb
      have HZE:Hid (zf = fun i=>((bz mx (V i):Int):Rat)):=ze
      have HZV:Hid (zf j = ((0:Int):Rat)):=by show zf j = _;rw [ze];show ((bz mx (V j):Int):Rat) = _;rw [HBZ.out]
      have HFIN:Hid (∀ (sX2 sZ2:Value) (w9:World),Rw 35 w9 (w1.heap.size + 1) #[.int .i64 (vdj mx V j),.bool false,.slice none 0 0,.slice none 0 0,sX2,.slice none 0 0,sZ2]→TX w9 w1.heap.size (w1.heap.size + 2) sX2 (j + 1) xf ZV→RL w9 (w1.heap.size + 2) sZ2 (j + 1) zf 1→NE sX2 sZ2→BoxC w9 w1.heap.size ([.bool mx,.string ⟨#[]⟩,.bool p,.slice a na ca,.slice d nd cd,.slice (some ⟨vb,vo,none⟩) n vc,.slice none 0 0]:List Value)→Below w.heap.size w w9→w1.heap.size + 2≤w9.heap.size→BS mx V ZV n w w1 ([.bool mx,.string ⟨#[]⟩,.bool p,.slice a na ca,.slice d nd cd,.slice (some ⟨vb,vo,none⟩) n vc,.slice none 0 0]:List Value) (j + 1) w9):=fun sX2 sZ2 w9 g1 g2 g3 g4 g5 g6 g7=>⟨sX2,sZ2,hlt,by rw [HVD.out];exact g1,by rw [HXE.out] at g2;exact g2,by rw [HZE.out] at g3;exact g3,g4,g5,g6,g7,fun i hi=>by
       rcases (by omega:i < j∨i = j) with hi | rfl
       ·exact HNC.out i hi
       ·exact HCV.out⟩
      clear hbA VDa VX hXG xe ze HXE HZE HVD HBX HBZ HNC HCV hTX hRL hcc
      obtain ⟨vd0,evd⟩:∃ v,v = vdj mx V j:=⟨_,rfl⟩
      rw [← evd] at Rc Rcb HFIN
      clear evd
      simp only []
      iterate 8 go_step
      refine wp_cutR 12 (J12 w4 (0)) ?_ ?_
      ·have hs0:=HS0.out
       cases mx
       ·obtain rfl:s0 = 0:=hs0.trans (if_neg (by decide))
        clear hs0 HS0
        go_wp2_with fail
        first | exact ⟨rfl,rfl,_,_,_,rfl⟩ | (unfold J12;exact ⟨rfl,_,_,_,rfl⟩)
       ·obtain rfl:s0 = -(0):=hs0.trans (if_pos rfl)
        clear hs0 HS0
        go_wp2_with fail
        first | exact ⟨rfl,rfl,_,_,_,rfl⟩ | (unfold J12;exact ⟨rfl,_,_,_,rfl⟩)
      clear HS0
      rintro a' w' ⟨rfl,u1,u2,u3,rfl⟩
      simp only [Act.put,List.setIfInBounds_toArray,List.set_cons_zero,List.set_cons_succ]
      go_wp2_with (at_builtin;refine wpList_appendTX _ rfl _ _ rfl w1.heap.size (w1.heap.size + 2) sX j xf ZV rfl (hTXb.below (by omega) (bel_d0 _ _)) (w4.heap.size + 1) _ rfl pl al nl cl dl ml ll (cell_new3 (by simp)) HGX.out (by omega) (by omega) (by simp;omega) (w4.heap.size + 2) (by simp) ?_)
      intro gN capN w5 SN hg hat hlt5
      clear c4 x0 x1 x2 v4 v5 v6 v7 v8 v9 v10 v11 HGX
      have hcc:=bel_d0 (w4.alloc (.cells #[.bool pl,.slice al nl cl,.slice dl ml ll] 28)) (.cells #[.bool pl,.slice al nl cl,.slice dl ml ll] 28)
      have hrow:∀ g,sX.ownBlock = some g→w1.heap.size + 2≤g∧g < w4.heap.size + 1:=fun g e=>by have:=hTXb.lt g e;omega
      have Rc5:=(Rcb.below hcc).grown hg (fun e=>by have:=hrow _ e;omega)
      have hRL5:=(hRLb.below hcc).growT (hTXb.below (by omega) hcc) hNE.symm hg
      have hNE5:NE (.slice (some ⟨gN,0,none⟩) (j + 1) capN) sZ:=hNE.grown (H:=w4.heap.size + 2) (fun g e=>by have:=(hRLb.below hcc).lt g e;simp at this;omega) hat (Nat.le_refl _)
      have Pb5:=(((Pb.below hbB).below hcc)).grown hg (fun e=>by have:=hrow _ e;omega)
      have VD5:=(((VD.below hbB).below hcc)).grown hg hXV
      have hbw5:Below w.heap.size w w5:=(bel_tr hbwb hcc).trans (grown_below hg (by simp;omega) (fun g e=>by have:=hrow g e;omega))
      have hs5:w4.heap.size + 2≤w5.heap.size:=by have:=hg.size;simp at this;omega
      clear Rc Rcb hTXb hRLb hbwb hcc hg hat hbB Pb VD hbw hNE
      have c4:=(Rc5.cell 4).trans (show _ = some sX from rfl)
      have f4:=Rc5.frozen 4
      go_wp2_with fail
      clear c4 f4
      obtain ⟨Rc6,O⟩:=Rc5.set 4 (.slice (some ⟨gN,0,none⟩) (j + 1) capN)
      have hTX6:=SN.off O (by omega) (by omega)
      have hRL6:=hRL5.off O (by omega)
      have Pb6:=Pb5.off O (by omega)
      have VD6:=VD5.off O (by omega)
      have hbw6:=hbw5.trans (O.below (by omega))
      have hs6:w5.heap.size≤(w5.setCell ⟨w1.heap.size + 1,4,none⟩ (.slice (some ⟨gN,0,none⟩) (j + 1) capN)).heap.size:=by simp
      clear Rc5 SN hRL5 Pb5 VD5 hbw5 O hrow
      generalize w5.setCell ⟨w1.heap.size + 1,4,none⟩ (.slice (some ⟨gN,0,none⟩) (j + 1) capN) = w6 at *
      refine (nQ14 0 w6 (by decide) (by decide)).mono ?_
      rintro e w7 ⟨f7,c7,n7,k7,d7,m7,l7,rfl,G7,h7⟩
      have hs7:=h7.size
      have hz7:=bel_d0 w7 (.cells #[.bool f7,.slice c7 n7 k7,.slice d7 m7 l7] 28)
      have hs8:(w7.alloc (.cells #[.bool f7,.slice c7 n7 k7,.slice d7 m7 l7] 28)).heap.size = w7.heap.size + 1:=by simp
      have Rc8:=(Rc6.below h7).below hz7
      have hTX8:=(hTX6.below (by omega) h7).below (by omega) hz7
      have hRL8:=(hRL6.below h7).below hz7
      have Pb8:=(Pb6.below h7).below hz7
      have VD8:=(VD6.below h7).below hz7
      have VZ8:=var3_new w7 (.bool f7) (.slice c7 n7 k7) (.slice d7 m7 l7) 28
      have hbw8:=bel_tr (bel_tr hbw6 h7) hz7
      have G8:=G7.below hz7
      have v4:=VD8 4 _ rfl;have v8:=VD8 8 _ rfl
      obtain ⟨z0,z1,z2,z3,z4,z5⟩:=id VZ8
      clear Rc6 hTX6 hRL6 Pb6 VD6 hbw6 h7 hz7 G7
      go_wp2_with fail
      clear v4 v8 z0 z1 z2 z3 z4 z5
      obtain ⟨RZ,hRZ⟩:∃ R,R = w7.heap.size:=⟨_,rfl⟩
      rw [← hRZ] at VZ8 hs8 ⊢
      have hRZ2:w5.heap.size≤RZ:=by omega
      clear hRZ hs7
      generalize w7.alloc (.cells #[.bool f7,.slice c7 n7 k7,.slice d7 m7 l7] 28) = w8 at *
      have Rc10:=Rc8
      have RcN:=Rc8
      have TXN:=hTX8
      have RLN:=hRL8
      have PbN:=Pb8
      have hbwN:=hbw8
      have VZ:=VZ8
      have VDn:=VD8
      have G10:=G8
      have hsN:=Nat.le_refl w8.heap.size
      clear Rc8 hTX8 hRL8 Pb8 hbw8 VZ8 VD8 G8 Rc10
      refine (signD w8 G10.tr (by omega) (by omega)).mono ?_
      rintro e w11 ⟨rfl,h11⟩
      rw [show (((0:Int):Rat)).num.sign = 0 from rfl]
      have hs11:=h11.size
      replace RcN:=RcN.below h11
      replace TXN:=TXN.below (by omega) h11
      replace RLN:=RLN.below h11
      replace PbN:=PbN.below h11
      replace VZ:=VZ.below h11
      replace hbwN:=bel_tr hbwN h11
      replace G10:=G10.below h11
      clear h11 VDn
      have RcM:=RcN
      have TXM:=TXN
      have RLM:=RLN
      have PbM:=PbN
      have VZM:=VZ
      have hbwM:=hbwN
      have GM:=G10
      have hsM:=Eq.refl w11.heap.size
      clear RcN TXN RLN PbN VZ hbwN G10
      have c6:=(RcM.cell 6).trans (show _ = some sZ from rfl)
      have y0:=VZM.c0;have y1:=VZM.c1;have y2:=VZM.c2
      have GB:GR (w11.alloc (.cells #[.bool f7,.slice c7 n7 k7,.slice d7 m7 l7] 28)) (w1.heap.size + 2) f7 c7 n7 k7 d7 m7 l7 (zf j) 1:=((GM.mono (by omega)).below (bel_d0 _ _)).val HZV.out.symm
      go_wp2_with (at_builtin;refine wpList_appendR _ rfl _ _ rfl (w1.heap.size + 2) sZ j zf 1 rfl (RLM.below (bel_d0 _ _)) w11.heap.size _ rfl f7 c7 n7 k7 d7 m7 l7 (cell_new3 (by simp)) GB (by omega) (by simp;omega) (w11.heap.size + 1) (by simp) ?_)
      intro gM capM w13 SM hg hat hlt13
      clear c6 y0 y1 y2 
      have hcc:=bel_d0 w11 (.cells #[.bool f7,.slice c7 n7 k7,.slice d7 m7 l7] 28)
      have hrow:∀ g,sZ.ownBlock = some g→w1.heap.size + 2≤g∧g < w11.heap.size:=fun g e=>by have:=RLM.lt g e;omega
      have hrow2:∀ g,(Value.slice (some ⟨gN,0,none⟩) (j + 1) capN).ownBlock = some g→g < w11.heap.size:=fun g e=>by have:=TXM.lt g e;omega
      have Rc14:=(RcM.below hcc).grown hg (fun e=>by have:=hrow _ e;omega)
      have TX14:=(TXM.below (by omega) hcc).growR (by omega) (by simp;omega) (RLM.below hcc) hNE5 hg
      have NE14:NE (.slice (some ⟨gN,0,none⟩) (j + 1) capN) (.slice (some ⟨gM,0,none⟩) (j + 1) capM):=(hNE5.symm.grown (H:=w11.heap.size + 1) (fun g e=>by have:=hrow2 g e;omega) hat (Nat.le_refl _)).symm
      have Pb14:=(PbM.below hcc).grown hg (fun e=>by have:=hrow _ e;omega)
      have hbw14:Below w.heap.size w w13:=(bel_tr hbwM hcc).trans (grown_below hg (by simp;omega) (fun g e=>by have:=hrow g e;omega))
      have hs14:w11.heap.size + 1≤w13.heap.size:=by have:=hg.size;simp at this;omega
      clear RcM TXM RLM PbM VZM hbwM GM GB hcc hg hat
      obtain ⟨Rc15,O⟩:=Rc14.set 6 (.slice (some ⟨gM,0,none⟩) (j + 1) capM)
      have TX15:=TX14.off O (by omega) (by omega)
      have RL15:=SM.off O (by omega)
      have Pb15:=Pb14.off O (by omega)
      have hbw15:=hbw14.trans (O.below (by omega))
      have hs15:w1.heap.size + 2≤(w13.setCell ⟨w1.heap.size + 1,6,none⟩ (.slice (some ⟨gM,0,none⟩) (j + 1) capM)).heap.size:=by simp;omega
      have hBS:=HFIN.out _ _ _ Rc15 TX15 RL15 NE14 Pb15 hbw15 hs15
      have c6:=(Rc14.cell 6).trans (show _ = some sZ from rfl)
      have f6:=Rc14.frozen 6
      clear Rc14 TX14 SM Pb14 hbw14 O Rc15 TX15 RL15 NE14 Pb15 hbw15 hs15 HFIN HZV hrow hrow2
      go_wp2
      go_roundw
      case rel=>first | exact ⟨j + 1,by go_num,hBS⟩ | ((repeat apply Exists.intro);refine ⟨?_,rfl⟩;exact ⟨j + 1,by go_num,hBS⟩)
      case measure=>simp [intOf];omega
     ·have HSG:Hid ((V j).obj.num.sign = if mx = true then -(1) else (1)):=msn_sgn (sgn_pos hsn)
      have HBX:Hid (bx mx (V j) = (V j).lo):=bx_lo2 HE.out.2 HE.out.1 (rat_nn (.inr hsn))
      have HBZ:Hid (bz mx (V j) = 0):=bz_01 HE.out.2 HE.out.1
      have HVD:Hid (vdj mx V (j + 1) = vdj mx V j):=by
       show vdj mx V (j + 1) = _
       rw [vdj_succ,HBZ.out,if_pos rfl]
      clear hsn
      refine (signD w3 (tO.below hbw) (by omega) hZ1).mono ?_
      rintro e w4 ⟨rfl,h4⟩
      obtain ⟨s0,es0⟩:∃ s0,s0 = (V j).obj.num.sign:=⟨_,rfl⟩
      rw [← es0]
      have HS0:Hid (s0 = if mx = true then -(1) else (1)):=es0.trans HSG.out
      clear es0
      replace Rc:=Rc.below h4
      replace hTX:=hTX.below (by omega) h4
      replace hRL:=hRL.below h4
      replace Pb:=Pb.below h4
      replace VD:=VD.below h4
      replace hbw:=bel_tr hbw h4
      have hs4:=h4.size
      clear h4 HSG
      have hbA:=bel_d0 w4 (.cells #[.bool false,.slice none 0 0,.slice none 0 0] 28)
      have VDa:=VD.below hbA
      have hbB:=bel_d0 w4 (.cells #[.bool pl,.slice al nl cl,.slice dl ml ll] 28)
      have VX:=var3_new w4 (.bool pl) (.slice al nl cl) (.slice dl ml ll) 28
      have Rcb:=Rc.below hbB
      have c4:=(Rcb.cell 4).trans (show _ = some sX from rfl)
      have v4:=VDa 4 _ rfl;have v5:=VDa 5 _ rfl;have v6:=VDa 6 _ rfl;have v7:=VDa 7 _ rfl;have v8:=VDa 8 _ rfl;have v9:=VDa 9 _ rfl;have v10:=VDa 10 _ rfl;have v11:=VDa 11 _ rfl
      have x0:=VX.c0;have x1:=VX.c1;have x2:=VX.c2
      have hTXb:=hTX.below (by omega) hbB
      have hRLb:=hRL.below hbB
      have hsb:(w4.alloc (.cells #[.bool pl,.slice al nl cl,.slice dl ml ll] 28)).heap.size = w4.heap.size + 1:=by simp
      have hbwb:=bel_tr hbw hbB
      have hcc:=bel_d0 (w4.alloc (.cells #[.bool pl,.slice al nl cl,.slice dl ml ll] 28)) (.cells #[.bool pl,.slice al nl cl,.slice dl ml ll] 28)
      have hXG:∀ w',Below w1.heap.size ((w4.alloc (.cells #[.bool pl,.slice al nl cl,.slice dl ml ll] 28)).alloc (.cells #[.bool pl,.slice al nl cl,.slice dl ml ll] 28)) w'→TR w' pl al nl cl dl ml ll (bx mx (V j)) (ZV j):=fun w' q=>by
       rw [HBX.out]
       exact tl.below ((bel_tr hbwb hcc).trans (q.mono (by omega)))
      obtain ⟨xf,xe⟩:∃ f:Nat→Rat,f = fun i=>bx mx (V i):=⟨_,rfl⟩
      have HGX:Hid (∀ w',Below w1.heap.size ((w4.alloc (.cells #[.bool pl,.slice al nl cl,.slice dl ml ll] 28)).alloc (.cells #[.bool pl,.slice al nl cl,.slice dl ml ll] 28)) w'→TR w' pl al nl cl dl ml ll (xf j) (ZV j)):=by rw [xe];exact hXG
      rw [← xe] at hTX hTXb
      have HXE:Hid (xf = fun i=>bx mx (V i)):=xe
      obtain ⟨zf,ze⟩:∃ f:Nat→Rat,f = fun i=>((bz mx (V i):Int):Rat):=⟨_,rfl⟩
      rw [← ze] at hRL hRLb
      have HZE:Hid (zf = fun i=>((bz mx (V i):Int):Rat)):=ze
      have HZV:Hid (zf j = ((0:Int):Rat)):=by show zf j = _;rw [ze];show ((bz mx (V j):Int):Rat) = _;rw [HBZ.out]
      have HFIN:Hid (∀ (sX2 sZ2:Value) (w9:World),Rw 35 w9 (w1.heap.size + 1) #[.int .i64 (vdj mx V j),.bool false,.slice none 0 0,.slice none 0 0,sX2,.slice none 0 0,sZ2]→TX w9 w1.heap.size (w1.heap.size + 2) sX2 (j + 1) xf ZV→RL w9 (w1.heap.size + 2) sZ2 (j + 1) zf 1→NE sX2 sZ2→BoxC w9 w1.heap.size ([.bool mx,.string ⟨#[]⟩,.bool p,.slice a na ca,.slice d nd cd,.slice (some ⟨vb,vo,none⟩) n vc,.slice none 0 0]:List Value)→Below w.heap.size w w9→w1.heap.size + 2≤w9.heap.size→BS mx V ZV n w w1 ([.bool mx,.string ⟨#[]⟩,.bool p,.slice a na ca,.slice d nd cd,.slice (some ⟨vb,vo,none⟩) n vc,.slice none 0 0]:List Value) (j + 1) w9):=fun sX2 sZ2 w9 g1 g2 g3 g4 g5 g6 g7=>⟨sX2,sZ2,hlt,by rw [HVD.out];exact g1,by rw [HXE.out] at g2;exact g2,by rw [HZE.out] at g3;exact g3,g4,g5,g6,g7,fun i hi=>by
       rcases (by omega:i < j∨i = j) with hi | rfl
       ·exact HNC.out i hi
       ·exact HCV.out⟩
      clear hbA VDa VX hXG xe ze HXE HZE HVD HBX HBZ HNC HCV hTX hRL hcc
      obtain ⟨vd0,evd⟩:∃ v,v = vdj mx V j:=⟨_,rfl⟩
      rw [← evd] at Rc Rcb HFIN
      clear evd
      simp only []
      iterate 8 go_step
      refine wp_cutR 12 (J12 w4 (1)) ?_ ?_
      ·have hs0:=HS0.out
       cases mx
       ·obtain rfl:s0 = 1:=hs0.trans (if_neg (by decide))
        clear hs0 HS0
        go_wp2_with fail
        first | exact ⟨rfl,rfl,_,_,_,rfl⟩ | (unfold J12;exact ⟨rfl,_,_,_,rfl⟩)
       ·obtain rfl:s0 = -(1):=hs0.trans (if_pos rfl)
        clear hs0 HS0
        go_wp2_with fail
        first | exact ⟨rfl,rfl,_,_,_,rfl⟩ | (unfold J12;exact ⟨rfl,_,_,_,rfl⟩)
      clear HS0
      rintro a' w' ⟨rfl,u1,u2,u3,rfl⟩
      simp only [Act.put,List.setIfInBounds_toArray,List.set_cons_zero,List.set_cons_succ]
      go_wp2_with (at_builtin;refine wpList_appendTX _ rfl _ _ rfl w1.heap.size (w1.heap.size + 2) sX j xf ZV rfl (hTXb.below (by omega) (bel_d0 _ _)) (w4.heap.size + 1) _ rfl pl al nl cl dl ml ll (cell_new3 (by simp)) HGX.out (by omega) (by omega) (by simp;omega) (w4.heap.size + 2) (by simp) ?_)
      intro gN capN w5 SN hg hat hlt5
      clear c4 x0 x1 x2 v4 v5 v6 v7 v8 v9 v10 v11 HGX
      have hcc:=bel_d0 (w4.alloc (.cells #[.bool pl,.slice al nl cl,.slice dl ml ll] 28)) (.cells #[.bool pl,.slice al nl cl,.slice dl ml ll] 28)
      have hrow:∀ g,sX.ownBlock = some g→w1.heap.size + 2≤g∧g < w4.heap.size + 1:=fun g e=>by have:=hTXb.lt g e;omega
      have Rc5:=(Rcb.below hcc).grown hg (fun e=>by have:=hrow _ e;omega)
      have hRL5:=(hRLb.below hcc).growT (hTXb.below (by omega) hcc) hNE.symm hg
      have hNE5:NE (.slice (some ⟨gN,0,none⟩) (j + 1) capN) sZ:=hNE.grown (H:=w4.heap.size + 2) (fun g e=>by have:=(hRLb.below hcc).lt g e;simp at this;omega) hat (Nat.le_refl _)
      have Pb5:=(((Pb.below hbB).below hcc)).grown hg (fun e=>by have:=hrow _ e;omega)
      have VD5:=(((VD.below hbB).below hcc)).grown hg hXV
      have hbw5:Below w.heap.size w w5:=(bel_tr hbwb hcc).trans (grown_below hg (by simp;omega) (fun g e=>by have:=hrow g e;omega))
      have hs5:w4.heap.size + 2≤w5.heap.size:=by have:=hg.size;simp at this;omega
      clear Rc Rcb hTXb hRLb hbwb hcc hg hat hbB Pb VD hbw hNE
      have c4:=(Rc5.cell 4).trans (show _ = some sX from rfl)
      have f4:=Rc5.frozen 4
      go_wp2_with fail
      clear c4 f4
      obtain ⟨Rc6,O⟩:=Rc5.set 4 (.slice (some ⟨gN,0,none⟩) (j + 1) capN)
      have hTX6:=SN.off O (by omega) (by omega)
      have hRL6:=hRL5.off O (by omega)
      have Pb6:=Pb5.off O (by omega)
      have VD6:=VD5.off O (by omega)
      have hbw6:=hbw5.trans (O.below (by omega))
      have hs6:w5.heap.size≤(w5.setCell ⟨w1.heap.size + 1,4,none⟩ (.slice (some ⟨gN,0,none⟩) (j + 1) capN)).heap.size:=by simp
      clear Rc5 SN hRL5 Pb5 VD5 hbw5 O hrow
      generalize w5.setCell ⟨w1.heap.size + 1,4,none⟩ (.slice (some ⟨gN,0,none⟩) (j + 1) capN) = w6 at *
      refine (nQ14 0 w6 (by decide) (by decide)).mono ?_
      rintro e w7 ⟨f7,c7,n7,k7,d7,m7,l7,rfl,G7,h7⟩
      have hs7:=h7.size
      have hz7:=bel_d0 w7 (.cells #[.bool f7,.slice c7 n7 k7,.slice d7 m7 l7] 28)
      have hs8:(w7.alloc (.cells #[.bool f7,.slice c7 n7 k7,.slice d7 m7 l7] 28)).heap.size = w7.heap.size + 1:=by simp
      have Rc8:=(Rc6.below h7).below hz7
      have hTX8:=(hTX6.below (by omega) h7).below (by omega) hz7
      have hRL8:=(hRL6.below h7).below hz7
      have Pb8:=(Pb6.below h7).below hz7
      have VD8:=(VD6.below h7).below hz7
      have VZ8:=var3_new w7 (.bool f7) (.slice c7 n7 k7) (.slice d7 m7 l7) 28
      have hbw8:=bel_tr (bel_tr hbw6 h7) hz7
      have G8:=G7.below hz7
      have v4:=VD8 4 _ rfl;have v8:=VD8 8 _ rfl
      obtain ⟨z0,z1,z2,z3,z4,z5⟩:=id VZ8
      clear Rc6 hTX6 hRL6 Pb6 VD6 hbw6 h7 hz7 G7
      go_wp2_with fail
      clear v4 v8 z0 z1 z2 z3 z4 z5
      obtain ⟨RZ,hRZ⟩:∃ R,R = w7.heap.size:=⟨_,rfl⟩
      rw [← hRZ] at VZ8 hs8 ⊢
      have hRZ2:w5.heap.size≤RZ:=by omega
      clear hRZ hs7
      generalize w7.alloc (.cells #[.bool f7,.slice c7 n7 k7,.slice d7 m7 l7] 28) = w8 at *
      have Rc10:=Rc8
      have RcN:=Rc8
      have TXN:=hTX8
      have RLN:=hRL8
      have PbN:=Pb8
      have hbwN:=hbw8
      have VZ:=VZ8
      have VDn:=VD8
      have G10:=G8
      have hsN:=Nat.le_refl w8.heap.size
      clear Rc8 hTX8 hRL8 Pb8 hbw8 VZ8 VD8 G8 Rc10
      refine (signD w8 G10.tr (by omega) (by omega)).mono ?_
      rintro e w11 ⟨rfl,h11⟩
      rw [show (((0:Int):Rat)).num.sign = 0 from rfl]
      have hs11:=h11.size
      replace RcN:=RcN.below h11
      replace TXN:=TXN.below (by omega) h11
      replace RLN:=RLN.below h11
      replace PbN:=PbN.below h11
      replace VZ:=VZ.below h11
      replace hbwN:=bel_tr hbwN h11
      replace G10:=G10.below h11
      clear h11 VDn
      have RcM:=RcN
      have TXM:=TXN
      have RLM:=RLN
      have PbM:=PbN
      have VZM:=VZ
      have hbwM:=hbwN
      have GM:=G10
      have hsM:=Eq.refl w11.heap.size
      clear RcN TXN RLN PbN VZ hbwN G10
      have c6:=(RcM.cell 6).trans (show _ = some sZ from rfl)
      have y0:=VZM.c0;have y1:=VZM.c1;have y2:=VZM.c2
      have GB:GR (w11.alloc (.cells #[.bool f7,.slice c7 n7 k7,.slice d7 m7 l7] 28)) (w1.heap.size + 2) f7 c7 n7 k7 d7 m7 l7 (zf j) 1:=((GM.mono (by omega)).below (bel_d0 _ _)).val HZV.out.symm
      go_wp2_with (at_builtin;refine wpList_appendR _ rfl _ _ rfl (w1.heap.size + 2) sZ j zf 1 rfl (RLM.below (bel_d0 _ _)) w11.heap.size _ rfl f7 c7 n7 k7 d7 m7 l7 (cell_new3 (by simp)) GB (by omega) (by simp;omega) (w11.heap.size + 1) (by simp) ?_)
      intro gM capM w13 SM hg hat hlt13
      clear c6 y0 y1 y2 
      have hcc:=bel_d0 w11 (.cells #[.bool f7,.slice c7 n7 k7,.slice d7 m7 l7] 28)
      have hrow:∀ g,sZ.ownBlock = some g→w1.heap.size + 2≤g∧g < w11.heap.size:=fun g e=>by have:=RLM.lt g e;omega
      have hrow2:∀ g,(Value.slice (some ⟨gN,0,none⟩) (j + 1) capN).ownBlock = some g→g < w11.heap.size:=fun g e=>by have:=TXM.lt g e;omega
      have Rc14:=(RcM.below hcc).grown hg (fun e=>by have:=hrow _ e;omega)
      have TX14:=(TXM.below (by omega) hcc).growR (by omega) (by simp;omega) (RLM.below hcc) hNE5 hg
      have NE14:NE (.slice (some ⟨gN,0,none⟩) (j + 1) capN) (.slice (some ⟨gM,0,none⟩) (j + 1) capM):=(hNE5.symm.grown (H:=w11.heap.size + 1) (fun g e=>by have:=hrow2 g e;omega) hat (Nat.le_refl _)).symm
      have Pb14:=(PbM.below hcc).grown hg (fun e=>by have:=hrow _ e;omega)
      have hbw14:Below w.heap.size w w13:=(bel_tr hbwM hcc).trans (grown_below hg (by simp;omega) (fun g e=>by have:=hrow g e;omega))
      have hs14:w11.heap.size + 1≤w13.heap.size:=by have:=hg.size;simp at this;omega
      clear RcM TXM RLM PbM VZM hbwM GM GB hcc hg hat
      obtain ⟨Rc15,O⟩:=Rc14.set 6 (.slice (some ⟨gM,0,none⟩) (j + 1) capM)
      have TX15:=TX14.off O (by omega) (by omega)
      have RL15:=SM.off O (by omega)
      have Pb15:=Pb14.off O (by omega)
      have hbw15:=hbw14.trans (O.below (by omega))
      have hs15:w1.heap.size + 2≤(w13.setCell ⟨w1.heap.size + 1,6,none⟩ (.slice (some ⟨gM,0,none⟩) (j + 1) capM)).heap.size:=by simp;omega
      have hBS:=HFIN.out _ _ _ Rc15 TX15 RL15 NE14 Pb15 hbw15 hs15
      have c6:=(Rc14.cell 6).trans (show _ = some sZ from rfl)
      have f6:=Rc14.frozen 6
      clear Rc14 TX14 SM Pb14 hbw14 O Rc15 TX15 RL15 NE14 Pb15 hbw15 hs15 HFIN HZV hrow hrow2
      go_wp2
      go_roundw
      case rel=>first | exact ⟨j + 1,by go_num,hBS⟩ | ((repeat apply Exists.intro);refine ⟨?_,rfl⟩;exact ⟨j + 1,by go_num,hBS⟩)
      case measure=>simp [intOf];omega
  ·have hkI:¬ (j:Int) < (n:Int):=by omega
   obtain rfl:j = n:=by omega
   have HZX:Hid (∀ i,i < j→1≤ZV i∧SzR (bx mx (V i)) (ZV i)):=fun i hi=>by
    rcases hv with h0 | ⟨vb,vo,rfl,hev⟩
    ·omega
    ·have hV:=hev i hi
     exact ⟨hV.s1,bx_sz hV.s1 hV.slo hV.shi⟩
   have HZZ:Hid (∀ i,i < j→SzR (((bz mx (V i):Int):Rat)) 1):=fun i _=>bz_sz mx (V i)
   have HTZ:Hid (tot (fun _=>1) j≤1048576):=by
    have h2:tot (fun _=>1) j≤tot ZV j:=tot_mon2 fun i hi=>(HZX.out i hi).1
    show _≤_
    omega
   obtain ⟨xa,xc,rfl,hxc⟩:=I.tx.form
   obtain ⟨za,zc,rfl,hzc⟩:=I.rl.form2
   have Rc:=I.rc
   have hTX:=I.tx
   have hRL:=I.rl
   have Pb:=I.pb
   have hbw:=I.bel
   have hsI:=I.sz
   have HNC:Hid (∀ i,i < j→¬ crv (V i)):=I.nc
   clear I hlt hv
   rcases vdj_or mx V j with ⟨hvd,hbz⟩ | ⟨hvd,hbz⟩
   ·clear HTZ
    rw [hvd] at Rc
    have p0:=Pb 0 _ rfl;have p1:=Pb 1 _ rfl;have p2:=Pb 2 _ rfl;have p3:=Pb 3 _ rfl;have p4:=Pb 4 _ rfl;have p5:=Pb 5 _ rfl;have p6:=Pb 6 _ rfl
    have c4:=(Rc.cell 4).trans (show _ = some (Value.slice xa j xc) from rfl)
    have HHO:Hid (Hlds (bxP mx p a na ca d nd cd va j vc k V ZV Sk) j (fun i=>bx mx (V i))):=box_holds (P:=(bxP mx p a na ca d nd cd va j vc k V ZV Sk)) rfl HNC.out
    have HOK:Hid (okS (bxP mx p a na ca d nd cd va j vc k V ZV Sk) (fun _=>0)∧pvS (bxP mx p a na ca d nd cd va j vc k V ZV Sk) (fun _=>0) = vlu (bxP mx p a na ca d nd cd va j vc k V ZV Sk) (fun i=>bx mx (V i))):=box_ok (P:=(bxP mx p a na ca d nd cd va j vc k V ZV Sk)) rfl hbz _
    clear hbz
    clear hvd
    go_wp2_with fail
    clear p0 p1 p2 p3 p4 p5 p6 c4
    refine (valD5 (bxP mx p a na ca d nd cd va j vc k V ZV Sk) (Kx:=tot ZV j) wr (HP.out.below hbw) hTX.lq HZX.out (Nat.le_refl _) (show Sk + tot ZV j + 1≤1048576 by omega) (by omega)).mono ?_
    rintro e w2 ⟨fV,cV,nV,kV,dV,mV,lV,rfl,GV,h2⟩
    replace GV:=GV.val (vlu_xn (bxP mx p a na ca d nd cd va j vc k V ZV Sk) (fun i=>bx mx (V i)) (Nat.le_refl j))
    have hs2:=h2.size
    replace Rc:=Rc.below h2
    replace hTX:=hTX.below (by omega) h2
    replace hRL:=hRL.below h2
    replace Pb:=Pb.below h2
    replace hbw:=bel_tr hbw h2
    obtain ⟨RcN,O⟩:=Rc.mid (a:=.bool fV) (b:=.slice cV nV kV) (c:=.slice dV mV lV)
    have TXN:=hTX.off O (by omega) (by omega)
    have RLN:=hRL.off O (by omega)
    have PbN:=Pb.off O (by omega)
    have GVN:=(GV.gx (R:=w1.heap.size + 1) (.inl (by omega))).off O
    have hbwN:=hbw.trans (O.below (by omega))
    have hsN:w2.heap.size≤(((w2.setCell ⟨w1.heap.size + 1,1,none⟩ (.bool fV)).setCell ⟨w1.heap.size + 1,2,none⟩ (.slice cV nV kV)).setCell ⟨w1.heap.size + 1,3,none⟩ (.slice dV mV lV)).heap.size:=by simp
    have d1:=(Rc.cell 1).trans (show _ = some (Value.bool false) from rfl)
    have d2:=(Rc.cell 2).trans (show _ = some (Value.slice none 0 0) from rfl)
    have d3:=(Rc.cell 3).trans (show _ = some (Value.slice none 0 0) from rfl)
    have f1:=Rc.frozen 1;have f2:=Rc.frozen 2;have f3:=Rc.frozen 3
    have c0:=(RcN.cell 0).trans (show _ = some (Value.int .i64 1) from rfl);have c1:=(RcN.cell 1).trans (show _ = some (Value.bool fV) from rfl);have c2:=(RcN.cell 2).trans (show _ = some (Value.slice cV nV kV) from rfl);have c3:=(RcN.cell 3).trans (show _ = some (Value.slice dV mV lV) from rfl);have c4:=(RcN.cell 4).trans (show _ = some (Value.slice xa j xc) from rfl);have c5:=(RcN.cell 5).trans (show _ = some (Value.slice none 0 0) from rfl);have c6:=(RcN.cell 6).trans (show _ = some (Value.slice za j zc) from rfl)
    have p0:=PbN 0 _ rfl;have p1:=PbN 1 _ rfl;have p2:=PbN 2 _ rfl;have p3:=PbN 3 _ rfl;have p4:=PbN 4 _ rfl;have p5:=PbN 5 _ rfl;have p6:=PbN 6 _ rfl
    clear Rc hTX hRL Pb hbw O GV h2
    go_wp2_with fail
    clear d1 d2 d3 f1 f2 f3 c0 c1 c2 c3 c4 c5 c6 p0 p1 p2 p3 p4 p5 p6
    generalize ((w2.setCell ⟨w1.heap.size + 1,1,none⟩ (.bool fV)).setCell ⟨w1.heap.size + 1,2,none⟩ (.slice cV nV kV)).setCell ⟨w1.heap.size + 1,3,none⟩ (.slice dV mV lV) = w3 at *
    have QC:CQ w3 (bxC 1 fV cV nV kV dV mV lV xa j xc za zc (vlu (bxP mx p a na ca d nd cd va j vc k V ZV Sk) (fun i=>bx mx (V i))) (fun i=>bx mx (V i)) (fun i=>((bz mx (V i):Int):Rat)) ZV 2097160):=bxC_q GVN.1.tr (by omega) TXN.lq HZX.out RLN.lq HZZ.out hxc hzc
    refine (chkB1 (bxP mx p a na ca d nd cd va j vc k V ZV Sk) (bxC 1 fV cV nV kV dV mV lV xa j xc za zc (vlu (bxP mx p a na ca d nd cd va j vc k V ZV Sk) (fun i=>bx mx (V i))) (fun i=>bx mx (V i)) (fun i=>((bz mx (V i):Int):Rat)) ZV 2097160) w3 rfl (HP.out.below hbwN) QC rfl hK (show 2097160≤2200000 by omega) (show tot ZV j≤1048576 by omega) (Nat.le_of_ble_eq_true rfl) (hT.below hbwN) (EH.below hbwN)).mono ?_
    rintro e w4 ⟨h4,hh⟩
    obtain rfl:e = .returned .nilIface:=by
     rcases hh with ⟨hn,_⟩ | ⟨_,_,⟨hn,_⟩ | ⟨_,⟨hn,_⟩ | ⟨_,⟨hn,_⟩ | ⟨_,_,h⟩⟩⟩⟩
     ·exact absurd ⟨rfl,rfl⟩ hn
     ·exact absurd HHO.out hn
     ·exact absurd rfl hn
     ·exact absurd HOK.out hn
     ·exact h
    replace RcN:=RcN.below h4
    replace TXN:=TXN.below (by omega) h4
    replace RLN:=RLN.below h4
    replace PbN:=PbN.below h4
    replace GVN:=GVN.below h4
    replace hbwN:=bel_tr hbwN h4
    have hs4:=h4.size
    clear h4 hh QC
    have p0:=PbN 0 _ rfl;have p1:=PbN 1 _ rfl;have p2:=PbN 2 _ rfl;have p3:=PbN 3 _ rfl;have p4:=PbN 4 _ rfl;have p5:=PbN 5 _ rfl;have p6:=PbN 6 _ rfl
    go_wp2_with fail
    clear p0 p1 p2 p3 p4 p5 p6
    refine (HINF w4 hbwN).mono ?_
    rintro e w5 ⟨h5,hh⟩
    obtain rfl:e = .returned (.iface 131 (.pointer (some pB))):=by
     rcases hh with ⟨hn,_⟩ | ⟨_,⟨hc,_⟩ | ⟨_,⟨_,h⟩ | ⟨_,hp,_⟩⟩⟩
     ·exact absurd rfl hn
     ·exact absurd hc (box_crs (P:=(bxP mx p a na ca d nd cd va j vc k V ZV Sk)) rfl HNC.out)
     ·exact h
     ·rw [box_bare (P:=(bxP mx p a na ca d nd cd va j vc k V ZV Sk)) rfl] at hp
      exact absurd hp (by decide)
    replace RcN:=RcN.below h5
    replace TXN:=TXN.below (by omega) h5
    replace RLN:=RLN.below h5
    replace PbN:=PbN.below h5
    replace GVN:=GVN.below h5
    replace hbwN:=bel_tr hbwN h5
    have hs5:=h5.size
    clear h5 hh HINF
    go_wp2_with fail
    have HBX:∀ w',Below w5.heap.size w5 w'→(w'.cell? ⟨w1.heap.size + 1,1,none⟩ = some (.bool fV)∧w'.cell? ⟨w1.heap.size + 1,2,none⟩ = some (.slice cV nV kV)∧w'.cell? ⟨w1.heap.size + 1,3,none⟩ = some (.slice dV mV lV)):=fun w' h=>⟨((RcN.below h).cell 1).trans rfl,((RcN.below h).cell 2).trans rfl,((RcN.below h).cell 3).trans rfl⟩
    refine wp_region_noPanic (wp_region_guardT 5 HBX (by as_aux_lemma=>kernel_rfl) ?_)
    have hc0:Below w5.heap.size w5 w5.drew:=bel_d1 _
    generalize w5.drew = z0 at *
    refine wpAnyG.tT 0 (v:=.pointer (some ⟨w1.heap.size + 1,1,none⟩)) (by decide) 5 (by as_aux_lemma=>kernel_rfl) (by rfl) ?y0 (HBX _ hc0) ?_
    case y0 =>
     rintro w' ⟨q0,q1,q2⟩
     simp only [lgA,lgZ]
     go_simp
    simp only [lgA,lgZ,Act.put,lsA,lsZ,lsS]
    refine wpAnyG.tT 1 (v:=.agg #[.bool fV,.slice cV nV kV,.slice dV mV lV]) (by decide) 5 (by as_aux_lemma=>kernel_rfl) (by rfl) ?y1 (HBX _ hc0) ?_
    case y1 =>
     rintro w' ⟨q0,q1,q2⟩
     simp only [lgA,lgZ,lgS]
     go_simp
    simp only [lgA,lgZ,lgS,Act.put,lsA,lsZ,lsS]
    refine wpAnyG.one 2 (by as_aux_lemma=>kernel_rfl) (by decide) (by rfl) (fun K hK=>?_)
    simp only [lgA,lgZ,lgS]
    go_simp
    refine (nQ14 1 z0 (by decide) (by decide)).mono ?_
    rintro e z1 ⟨f1,c1,n1,k1,d1,m1,l1,rfl,G1,hk1⟩
    have hc1:Below w5.heap.size w5 z1:=bel_tr hc0 hk1
    dsimp only
    refine hK _ _ ⟨fun _=>HBX _ hc1,fun _=>trivial⟩ ?_
    clear hK K
    refine wpAnyG.one 3 (by as_aux_lemma=>kernel_rfl) (by decide) (by rfl) (fun K hK=>?_)
    simp only [lgA,lgZ,lgS]
    go_simp
    refine (addD z1 (GVN.1.tr.below hc1) G1.tr (by omega) (by omega) (by omega)).mono ?_
    rintro e z2 ⟨fA,cA,nA,kA,dA,mA,lA,rfl,GA,hk2⟩
    have hc2:Below w5.heap.size w5 z2:=bel_tr hc1 hk2
    dsimp only
    refine hK _ _ ⟨fun _=>HBX _ hc2,fun _=>trivial⟩ ?_
    clear hK K
    refine wpAnyG.tT 4 (v:=.pointer (some ⟨w1.heap.size + 1,1,none⟩)) (by decide) 5 (by as_aux_lemma=>kernel_rfl) (by rfl) ?y4 (HBX _ hc2) ?_
    case y4 =>
     rintro w' ⟨q0,q1,q2⟩
     simp only [lgA,lgZ,lgS]
     go_simp
    simp only [lgA,lgZ,lgS,Act.put,lsA,lsZ,lsS]
    refine wpAnyG.one 5 (by as_aux_lemma=>kernel_rfl) (by decide) (by rfl) (fun K hK=>?_)
    simp only [lgA,lgZ,lgS]
    obtain ⟨RcA,O⟩:=(RcN.below hc2).mid (a:=.bool fA) (b:=.slice cA nA kA) (c:=.slice dA mA lA)
    have d1:=((RcN.below hc2).cell 1).trans (show _ = some (Value.bool fV) from rfl)
    have d2:=((RcN.below hc2).cell 2).trans (show _ = some (Value.slice cV nV kV) from rfl)
    have d3:=((RcN.below hc2).cell 3).trans (show _ = some (Value.slice dV mV lV) from rfl)
    have f1:=(RcN.below hc2).frozen 1;have f2:=(RcN.below hc2).frozen 2;have f3:=(RcN.below hc2).frozen 3
    go_simp
    refine hK _ _ ⟨fun h=>absurd h (by decide),fun _=>trivial⟩ ?_
    clear d1 d2 d3 f1 f2 f3
    clear hK K
    refine wpAnyG.done (by as_aux_lemma=>kernel_rfl) (NoPanic.normal ?_)
    have TXA:=(TXN.below (by omega) hc2).off O (by have:=hc2.size;omega) (by omega)
    have RLA:=(RLN.below hc2).off O (by omega)
    have PbA:=(PbN.below hc2).off O (by omega)
    have GAA:=(GA.gx (R:=w1.heap.size + 1) (.inl (by have:=hc1.size;omega))).off O
    have hbwA:=(bel_tr hbwN hc2).trans (O.below (by omega))
    have hsA:=hc2.size
    have hsB:z2.heap.size≤(((z2.setCell ⟨w1.heap.size + 1,1,none⟩ (.bool fA)).setCell ⟨w1.heap.size + 1,2,none⟩ (.slice cA nA kA)).setCell ⟨w1.heap.size + 1,3,none⟩ (.slice dA mA lA)).heap.size:=by simp
    have c0:=(RcA.cell 0).trans (show _ = some (Value.int .i64 1) from rfl);have c1:=(RcA.cell 1).trans (show _ = some (Value.bool fA) from rfl);have c2:=(RcA.cell 2).trans (show _ = some (Value.slice cA nA kA) from rfl);have c3:=(RcA.cell 3).trans (show _ = some (Value.slice dA mA lA) from rfl);have c4:=(RcA.cell 4).trans (show _ = some (Value.slice xa j xc) from rfl);have c5:=(RcA.cell 5).trans (show _ = some (Value.slice none 0 0) from rfl);have c6:=(RcA.cell 6).trans (show _ = some (Value.slice za j zc) from rfl)
    have p0:=PbA 0 _ rfl;have p1:=PbA 1 _ rfl;have p2:=PbA 2 _ rfl;have p3:=PbA 3 _ rfl;have p4:=PbA 4 _ rfl;have p5:=PbA 5 _ rfl;have p6:=PbA 6 _ rfl
    clear HBX hc0 hc1 hc2 hk1 hk2 G1 GA RcN TXN RLN PbN GVN hbwN O
    go_wp2_with fail
    clear c0 c1 c2 c3 c4 c5 c6 p0 p1 p2 p3 p4 p5 p6
    generalize ((z2.setCell ⟨w1.heap.size + 1,1,none⟩ (.bool fA)).setCell ⟨w1.heap.size + 1,2,none⟩ (.slice cA nA kA)).setCell ⟨w1.heap.size + 1,3,none⟩ (.slice dA mA lA) = w6 at *
    have QC:CQ w6 (bxC 1 fA cA nA kA dA mA lA xa j xc za zc (vlu (bxP mx p a na ca d nd cd va j vc k V ZV Sk) (fun i=>bx mx (V i)) + ((1:Int):Rat)) (fun i=>bx mx (V i)) (fun i=>((bz mx (V i):Int):Rat)) ZV 2097162):=bxC_q (GAA.1.tr.up (by omega)) (by omega) TXA.lq HZX.out RLA.lq HZZ.out hxc hzc
    refine (chkB1 (bxP mx p a na ca d nd cd va j vc k V ZV Sk) (bxC 1 fA cA nA kA dA mA lA xa j xc za zc (vlu (bxP mx p a na ca d nd cd va j vc k V ZV Sk) (fun i=>bx mx (V i)) + ((1:Int):Rat)) (fun i=>bx mx (V i)) (fun i=>((bz mx (V i):Int):Rat)) ZV 2097162) w6 rfl (HP.out.below hbwA) QC rfl hK (show 2097162≤2200000 by omega) (show tot ZV j≤1048576 by omega) (Nat.le_of_ble_eq_true rfl) (hT.below hbwA) (EH.below hbwA)).mono ?_
    rintro e w7 ⟨h7,hh⟩
    obtain rfl:e = .returned (.iface 131 (.pointer (some pV))):=by
     have hne:vlu (bxP mx p a na ca d nd cd va j vc k V ZV Sk) (fun i=>bx mx (V i)) ≠ vlu (bxP mx p a na ca d nd cd va j vc k V ZV Sk) (fun i=>bx mx (V i)) + ((1:Int):Rat):=rat_p1 _
     rcases hh with ⟨hn,_⟩ | ⟨_,_,⟨hn,_⟩ | ⟨_,⟨_,h⟩ | ⟨hn,_⟩⟩⟩
     ·exact absurd ⟨rfl,rfl⟩ hn
     ·exact absurd HHO.out hn
     ·exact h
     ·exact absurd hn hne
    replace RcA:=RcA.below h7
    have hw:=bel_tr hbwA h7
    have E7:=EH.below hw
    have e0:=E7.v.1
    have e1:=E7.b.1
    have c0:=(RcA.cell 0).trans (show _ = some (Value.int .i64 1) from rfl)
    have q1':=eqS14 w7 pV
    have q2':=eqS14 w7 pB
    have q3':=eqN14 w7 pV
    clear h7 hh QC RcA TXA RLA PbA GAA hbwA HHO HOK HNC HP E7 HZX HZZ
    go_wp2
    go_ret
    exact ⟨rfl,hw⟩
   ·rw [hvd] at Rc
    have p0:=Pb 0 _ rfl;have p1:=Pb 1 _ rfl;have p2:=Pb 2 _ rfl;have p3:=Pb 3 _ rfl;have p4:=Pb 4 _ rfl;have p5:=Pb 5 _ rfl;have p6:=Pb 6 _ rfl
    have c4:=(Rc.cell 4).trans (show _ = some (Value.slice xa j xc) from rfl)
    have HHO:Hid (Hlds (bxP mx p a na ca d nd cd va j vc k V ZV Sk) j (fun i=>bx mx (V i))):=box_holds (P:=(bxP mx p a na ca d nd cd va j vc k V ZV Sk)) rfl HNC.out
    have HDI:Hid (Dir (bxP mx p a na ca d nd cd va j vc k V ZV Sk) (fun i=>((bz mx (V i):Int):Rat))∧imp (bxP mx p a na ca d nd cd va j vc k V ZV Sk) (fun i=>((bz mx (V i):Int):Rat))):=⟨box_ray (P:=(bxP mx p a na ca d nd cd va j vc k V ZV Sk)) rfl,box_imp (P:=(bxP mx p a na ca d nd cd va j vc k V ZV Sk)) hbz⟩
    clear hbz
    clear hvd
    go_wp2_with fail
    clear p0 p1 p2 p3 p4 p5 p6 c4
    refine (valD5 (bxP mx p a na ca d nd cd va j vc k V ZV Sk) (Kx:=tot ZV j) wr (HP.out.below hbw) hTX.lq HZX.out (Nat.le_refl _) (show Sk + tot ZV j + 1≤1048576 by omega) (by omega)).mono ?_
    rintro e w2 ⟨fV,cV,nV,kV,dV,mV,lV,rfl,GV,h2⟩
    replace GV:=GV.val (vlu_xn (bxP mx p a na ca d nd cd va j vc k V ZV Sk) (fun i=>bx mx (V i)) (Nat.le_refl j))
    have hs2:=h2.size
    replace Rc:=Rc.below h2
    replace hTX:=hTX.below (by omega) h2
    replace hRL:=hRL.below h2
    replace Pb:=Pb.below h2
    replace hbw:=bel_tr hbw h2
    obtain ⟨RcN,O⟩:=Rc.mid (a:=.bool fV) (b:=.slice cV nV kV) (c:=.slice dV mV lV)
    have TXN:=hTX.off O (by omega) (by omega)
    have RLN:=hRL.off O (by omega)
    have PbN:=Pb.off O (by omega)
    have GVN:=(GV.gx (R:=w1.heap.size + 1) (.inl (by omega))).off O
    have hbwN:=hbw.trans (O.below (by omega))
    have hsN:w2.heap.size≤(((w2.setCell ⟨w1.heap.size + 1,1,none⟩ (.bool fV)).setCell ⟨w1.heap.size + 1,2,none⟩ (.slice cV nV kV)).setCell ⟨w1.heap.size + 1,3,none⟩ (.slice dV mV lV)).heap.size:=by simp
    have d1:=(Rc.cell 1).trans (show _ = some (Value.bool false) from rfl)
    have d2:=(Rc.cell 2).trans (show _ = some (Value.slice none 0 0) from rfl)
    have d3:=(Rc.cell 3).trans (show _ = some (Value.slice none 0 0) from rfl)
    have f1:=Rc.frozen 1;have f2:=Rc.frozen 2;have f3:=Rc.frozen 3
    have c0:=(RcN.cell 0).trans (show _ = some (Value.int .i64 3) from rfl);have c1:=(RcN.cell 1).trans (show _ = some (Value.bool fV) from rfl);have c2:=(RcN.cell 2).trans (show _ = some (Value.slice cV nV kV) from rfl);have c3:=(RcN.cell 3).trans (show _ = some (Value.slice dV mV lV) from rfl);have c4:=(RcN.cell 4).trans (show _ = some (Value.slice xa j xc) from rfl);have c5:=(RcN.cell 5).trans (show _ = some (Value.slice none 0 0) from rfl);have c6:=(RcN.cell 6).trans (show _ = some (Value.slice za j zc) from rfl)
    have p0:=PbN 0 _ rfl;have p1:=PbN 1 _ rfl;have p2:=PbN 2 _ rfl;have p3:=PbN 3 _ rfl;have p4:=PbN 4 _ rfl;have p5:=PbN 5 _ rfl;have p6:=PbN 6 _ rfl
    clear Rc hTX hRL Pb hbw O GV h2
    go_wp2_with fail
    clear d1 d2 d3 f1 f2 f3 c0 c1 c2 c3 c4 c5 c6 p0 p1 p2 p3 p4 p5 p6
    generalize ((w2.setCell ⟨w1.heap.size + 1,1,none⟩ (.bool fV)).setCell ⟨w1.heap.size + 1,2,none⟩ (.slice cV nV kV)).setCell ⟨w1.heap.size + 1,3,none⟩ (.slice dV mV lV) = w3 at *
    have QC:CQ w3 (bxC 3 fV cV nV kV dV mV lV xa j xc za zc (vlu (bxP mx p a na ca d nd cd va j vc k V ZV Sk) (fun i=>bx mx (V i))) (fun i=>bx mx (V i)) (fun i=>((bz mx (V i):Int):Rat)) ZV 2097160):=bxC_q GVN.1.tr (by omega) TXN.lq HZX.out RLN.lq HZZ.out hxc hzc
    refine (chkB3 (bxP mx p a na ca d nd cd va j vc k V ZV Sk) (bxC 3 fV cV nV kV dV mV lV xa j xc za zc (vlu (bxP mx p a na ca d nd cd va j vc k V ZV Sk) (fun i=>bx mx (V i))) (fun i=>bx mx (V i)) (fun i=>((bz mx (V i):Int):Rat)) ZV 2097160) w3 rfl (HP.out.below hbwN) QC rfl hK (show tot ZV j≤1048576 by omega) HTZ.out (hT.below hbwN) (EH.below hbwN)).mono ?_
    rintro e w4 ⟨h4,hh⟩
    obtain rfl:e = .returned .nilIface:=by
     rcases hh with ⟨hn,_⟩ | ⟨_,_,⟨hn,_⟩ | ⟨_,⟨hn,_⟩ | ⟨_,_,h⟩⟩⟩
     ·exact absurd ⟨rfl,rfl⟩ hn
     ·exact absurd HHO.out hn
     ·exact absurd HDI.out hn
     ·exact h
    replace RcN:=RcN.below h4
    replace TXN:=TXN.below (by omega) h4
    replace RLN:=RLN.below h4
    replace PbN:=PbN.below h4
    replace GVN:=GVN.below h4
    replace hbwN:=bel_tr hbwN h4
    have hs4:=h4.size
    clear h4 hh QC
    have p0:=PbN 0 _ rfl;have p1:=PbN 1 _ rfl;have p2:=PbN 2 _ rfl;have p3:=PbN 3 _ rfl;have p4:=PbN 4 _ rfl;have p5:=PbN 5 _ rfl;have p6:=PbN 6 _ rfl
    go_wp2_with fail
    clear p0 p1 p2 p3 p4 p5 p6
    refine (HINF w4 hbwN).mono ?_
    rintro e w5 ⟨h5,hh⟩
    obtain rfl:e = .returned (.iface 131 (.pointer (some pB))):=by
     rcases hh with ⟨hn,_⟩ | ⟨_,⟨hc,_⟩ | ⟨_,⟨_,h⟩ | ⟨_,hp,_⟩⟩⟩
     ·exact absurd rfl hn
     ·exact absurd hc (box_crs (P:=(bxP mx p a na ca d nd cd va j vc k V ZV Sk)) rfl HNC.out)
     ·exact h
     ·rw [box_bare (P:=(bxP mx p a na ca d nd cd va j vc k V ZV Sk)) rfl] at hp
      exact absurd hp (by decide)
    replace RcN:=RcN.below h5
    replace TXN:=TXN.below (by omega) h5
    replace RLN:=RLN.below h5
    replace PbN:=PbN.below h5
    replace GVN:=GVN.below h5
    replace hbwN:=bel_tr hbwN h5
    have hs5:=h5.size
    clear h5 hh HINF
    go_wp2_with fail
    have HBX:∀ w',Below w5.heap.size w5 w'→(w'.cell? ⟨w1.heap.size + 1,1,none⟩ = some (.bool fV)∧w'.cell? ⟨w1.heap.size + 1,2,none⟩ = some (.slice cV nV kV)∧w'.cell? ⟨w1.heap.size + 1,3,none⟩ = some (.slice dV mV lV)):=fun w' h=>⟨((RcN.below h).cell 1).trans rfl,((RcN.below h).cell 2).trans rfl,((RcN.below h).cell 3).trans rfl⟩
    refine wp_region_noPanic (wp_region_guardT 5 HBX (by as_aux_lemma=>kernel_rfl) ?_)
    have hc0:Below w5.heap.size w5 w5.drew:=bel_d1 _
    generalize w5.drew = z0 at *
    refine wpAnyG.tT 0 (v:=.pointer (some ⟨w1.heap.size + 1,1,none⟩)) (by decide) 5 (by as_aux_lemma=>kernel_rfl) (by rfl) ?y0 (HBX _ hc0) ?_
    case y0 =>
     rintro w' ⟨q0,q1,q2⟩
     simp only [lgA,lgZ]
     go_simp
    simp only [lgA,lgZ,Act.put,lsA,lsZ,lsS]
    refine wpAnyG.tT 1 (v:=.agg #[.bool fV,.slice cV nV kV,.slice dV mV lV]) (by decide) 5 (by as_aux_lemma=>kernel_rfl) (by rfl) ?y1 (HBX _ hc0) ?_
    case y1 =>
     rintro w' ⟨q0,q1,q2⟩
     simp only [lgA,lgZ,lgS]
     go_simp
    simp only [lgA,lgZ,lgS,Act.put,lsA,lsZ,lsS]
    refine wpAnyG.one 2 (by as_aux_lemma=>kernel_rfl) (by decide) (by rfl) (fun K hK=>?_)
    simp only [lgA,lgZ,lgS]
    go_simp
    refine (nQ14 1 z0 (by decide) (by decide)).mono ?_
    rintro e z1 ⟨f1,c1,n1,k1,d1,m1,l1,rfl,G1,hk1⟩
    have hc1:Below w5.heap.size w5 z1:=bel_tr hc0 hk1
    dsimp only
    refine hK _ _ ⟨fun _=>HBX _ hc1,fun _=>trivial⟩ ?_
    clear hK K
    refine wpAnyG.one 3 (by as_aux_lemma=>kernel_rfl) (by decide) (by rfl) (fun K hK=>?_)
    simp only [lgA,lgZ,lgS]
    go_simp
    refine (addD z1 (GVN.1.tr.below hc1) G1.tr (by omega) (by omega) (by omega)).mono ?_
    rintro e z2 ⟨fA,cA,nA,kA,dA,mA,lA,rfl,GA,hk2⟩
    have hc2:Below w5.heap.size w5 z2:=bel_tr hc1 hk2
    dsimp only
    refine hK _ _ ⟨fun _=>HBX _ hc2,fun _=>trivial⟩ ?_
    clear hK K
    refine wpAnyG.tT 4 (v:=.pointer (some ⟨w1.heap.size + 1,1,none⟩)) (by decide) 5 (by as_aux_lemma=>kernel_rfl) (by rfl) ?y4 (HBX _ hc2) ?_
    case y4 =>
     rintro w' ⟨q0,q1,q2⟩
     simp only [lgA,lgZ,lgS]
     go_simp
    simp only [lgA,lgZ,lgS,Act.put,lsA,lsZ,lsS]
    refine wpAnyG.one 5 (by as_aux_lemma=>kernel_rfl) (by decide) (by rfl) (fun K hK=>?_)
    simp only [lgA,lgZ,lgS]
    obtain ⟨RcA,O⟩:=(RcN.below hc2).mid (a:=.bool fA) (b:=.slice cA nA kA) (c:=.slice dA mA lA)
    have d1:=((RcN.below hc2).cell 1).trans (show _ = some (Value.bool fV) from rfl)
    have d2:=((RcN.below hc2).cell 2).trans (show _ = some (Value.slice cV nV kV) from rfl)
    have d3:=((RcN.below hc2).cell 3).trans (show _ = some (Value.slice dV mV lV) from rfl)
    have f1:=(RcN.below hc2).frozen 1;have f2:=(RcN.below hc2).frozen 2;have f3:=(RcN.below hc2).frozen 3
    go_simp
    refine hK _ _ ⟨fun h=>absurd h (by decide),fun _=>trivial⟩ ?_
    clear d1 d2 d3 f1 f2 f3
    clear hK K
    refine wpAnyG.done (by as_aux_lemma=>kernel_rfl) (NoPanic.normal ?_)
    have TXA:=(TXN.below (by omega) hc2).off O (by have:=hc2.size;omega) (by omega)
    have RLA:=(RLN.below hc2).off O (by omega)
    have PbA:=(PbN.below hc2).off O (by omega)
    have GAA:=(GA.gx (R:=w1.heap.size + 1) (.inl (by have:=hc1.size;omega))).off O
    have hbwA:=(bel_tr hbwN hc2).trans (O.below (by omega))
    have hsA:=hc2.size
    have hsB:z2.heap.size≤(((z2.setCell ⟨w1.heap.size + 1,1,none⟩ (.bool fA)).setCell ⟨w1.heap.size + 1,2,none⟩ (.slice cA nA kA)).setCell ⟨w1.heap.size + 1,3,none⟩ (.slice dA mA lA)).heap.size:=by simp
    have c0:=(RcA.cell 0).trans (show _ = some (Value.int .i64 3) from rfl);have c1:=(RcA.cell 1).trans (show _ = some (Value.bool fA) from rfl);have c2:=(RcA.cell 2).trans (show _ = some (Value.slice cA nA kA) from rfl);have c3:=(RcA.cell 3).trans (show _ = some (Value.slice dA mA lA) from rfl);have c4:=(RcA.cell 4).trans (show _ = some (Value.slice xa j xc) from rfl);have c5:=(RcA.cell 5).trans (show _ = some (Value.slice none 0 0) from rfl);have c6:=(RcA.cell 6).trans (show _ = some (Value.slice za j zc) from rfl)
    have p0:=PbA 0 _ rfl;have p1:=PbA 1 _ rfl;have p2:=PbA 2 _ rfl;have p3:=PbA 3 _ rfl;have p4:=PbA 4 _ rfl;have p5:=PbA 5 _ rfl;have p6:=PbA 6 _ rfl
    clear HBX hc0 hc1 hc2 hk1 hk2 G1 GA RcN TXN RLN PbN GVN hbwN O
    go_wp2_with fail
    clear c0 c1 c2 c3 c4 c5 c6 p0 p1 p2 p3 p4 p5 p6
    generalize ((z2.setCell ⟨w1.heap.size + 1,1,none⟩ (.bool fA)).setCell ⟨w1.heap.size + 1,2,none⟩ (.slice cA nA kA)).setCell ⟨w1.heap.size + 1,3,none⟩ (.slice dA mA lA) = w6 at *
    have QC:CQ w6 (bxC 3 fA cA nA kA dA mA lA xa j xc za zc (vlu (bxP mx p a na ca d nd cd va j vc k V ZV Sk) (fun i=>bx mx (V i)) + ((1:Int):Rat)) (fun i=>bx mx (V i)) (fun i=>((bz mx (V i):Int):Rat)) ZV 2097162):=bxC_q (GAA.1.tr.up (by omega)) (by omega) TXA.lq HZX.out RLA.lq HZZ.out hxc hzc
    refine (chkB3 (bxP mx p a na ca d nd cd va j vc k V ZV Sk) (bxC 3 fA cA nA kA dA mA lA xa j xc za zc (vlu (bxP mx p a na ca d nd cd va j vc k V ZV Sk) (fun i=>bx mx (V i)) + ((1:Int):Rat)) (fun i=>bx mx (V i)) (fun i=>((bz mx (V i):Int):Rat)) ZV 2097162) w6 rfl (HP.out.below hbwA) QC rfl hK (show tot ZV j≤1048576 by omega) HTZ.out (hT.below hbwA) (EH.below hbwA)).mono ?_
    rintro e w7 ⟨h7,hh⟩
    obtain rfl:e = .returned .nilIface:=by
     rcases hh with ⟨hn,_⟩ | ⟨_,_,⟨hn,_⟩ | ⟨_,⟨hn,_⟩ | ⟨_,_,h⟩⟩⟩
     ·exact absurd ⟨rfl,rfl⟩ hn
     ·exact absurd HHO.out hn
     ·exact absurd HDI.out hn
     ·exact h
    replace RcA:=RcA.below h7
    have hw:=bel_tr hbwA h7
    have E7:=EH.below hw
    have e0:=E7.v.1
    have e1:=E7.b.1
    have c0:=(RcA.cell 0).trans (show _ = some (Value.int .i64 3) from rfl)
    have q1':=eqS14 w7 pV
    have q2':=eqS14 w7 pB
    have q3':=eqN14 w7 pV
    clear h7 hh QC RcA TXA RLA PbA GAA hbwA HHO HDI HNC HP E7 HZX HZZ
    go_wp2
    go_ret
    exact ⟨rfl,hw⟩
end Go.Proofs.YtjapbhdoemfgkaaGreatDoor
