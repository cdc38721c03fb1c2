import Derived.Test.YtmeimjakdheidaaGreatDoorSgCAll
import Derived.Test.YtmeimjakdheidaaGreatDoorPqJ
import Derived.Test.YtmeimjakdheidaaGreatDoorPqHAll
namespace Go.Proofs.YtmeimjakdheidaaGreatDoor
open Go.RowKit
theorem max_lo (u:Nat) (mm:Int) (hmm:mm = -1) (hu:u≤2097152):wrap64 ((u:Int)+1)=(u:Int)+1∧(∀ (ts:Array TypeId) (t:TypeId) (wz:World),(Builtin.max_ ts t #[.int .i64 (u:Int),.int .i64 mm]).run Tryz.prog wz = .ok (.int .i64 (u:Int)) wz)∧∀ (ts:Array TypeId) (t:TypeId) (wz:World),(Builtin.max_ ts t #[.int .i64 (u:Int),.int .i64 ((u:Int)+1)]).run Tryz.prog wz = .ok (.int .i64 ((u:Int)+1)) wz :=
 ⟨by unfold wrap64;omega,fun ts t wz=>(run_max_int2 wz ts t _ _ _ _).trans (by rw [if_neg (by omega)]),fun ts t wz=>(run_max_int2 wz ts t _ _ _ _).trans (by rw [if_pos (by omega)])⟩
theorem max_fr (u v:Nat) (h:v=u+1) (hu:u≤2097152):wrap64 ((v:Int)+1)=(v:Int)+1∧(∀ (ts:Array TypeId) (t:TypeId) (wz:World),(Builtin.max_ ts t #[.int .i64 (u:Int),.int .i64 (v:Int)]).run Tryz.prog wz = .ok (.int .i64 (v:Int)) wz)∧∀ (ts:Array TypeId) (t:TypeId) (wz:World),(Builtin.max_ ts t #[.int .i64 (u:Int),.int .i64 ((v:Int)+1)]).run Tryz.prog wz = .ok (.int .i64 ((v:Int)+1)) wz :=
 ⟨by unfold wrap64;omega,fun ts t wz=>(run_max_int2 wz ts t _ _ _ _).trans (by rw [if_pos (by omega)]),fun ts t wz=>(run_max_int2 wz ts t _ _ _ _).trans (by rw [if_pos (by omega)])⟩
set_option maxRecDepth 100000 in
set_option maxHeartbeats 16000000 in
theorem layD (P Q:Prob) {R:Nat} {aA:Option Addr} {cA:Nat} {aB:Option Addr} {cB gC n:Nat} {fK:Bool} {cK:Option Addr} {nK kK:Nat} {dK:Option Addr} {mK lK:Nat} {es:List Eqn} {S:Nat} {B:Nat} {xa:Option Addr} {xc:Nat} {X Y:Nat→Rat} {H:Prop} {T Sc Wz:Nat} (w:World) (hP:PQ w P) (hSH:SHP w R Q) (hvn:Q.vn=P.vn) (hKP:P.K≤1048576)
 (hV:∀ j,(Q.V j).hlo=(P.V j).hlo∧(Q.V j).hhi=(P.V j).hhi∧((P.V j).hlo=true→(Q.V j).lo=(P.V j).lo)∧((P.V j).hhi=true→(Q.V j).hi=(P.V j).hi))
 (hA:AL w B (.slice aA es.length cA) es n S none) (hB:RL w 0 (.slice aB es.length cB) es.length (fun i=>(es.getD i ⟨[],0⟩).r) S) (hx:LQ w xa P.vn X (fun _=>T)) (hT1:1≤T) (hT7:T≤1048576)
 (hLai:Lai (clm Q.V P.vn) Y H (clm Q.V P.vn) es n) (hY:∀ j,j<P.vn→∀ d,d<wid (Q.V j)→Y (clm Q.V j+d)=gt0 (kU (Q.V j) (X j)) d) (hYW:∀ c,SzR (Y c) Wz) (hPz:∀ e ∈ es,PzE Y Wz e) (hSc:∀ i,i<es.length→∀ c,SzR (bV (es.getD i ⟨[],0⟩).l c) Sc)
 (hn:n≤100000000) (hes:es.length≤100000000) (hW1:T≤Wz) (hSc1:1≤Sc) (hS1:1≤S) (hS7:S≤2200000) (hWS:Wz+(Sc+Wz)≤6000000) (hT:TB w) :
 Calls Tryz.prog 8 #[P.val,.pointer (some ⟨R,0,none⟩),.agg #[.slice aA es.length cA,.slice aB es.length cB,.slice (some ⟨gC,0,none⟩) n n,.bool fK,.slice cK nK kK,.slice dK mK lK],.slice xa P.vn xc] w fun e w'=>∃ g,e = .returned (.slice (some ⟨g,0,none⟩) n n)∧LQ w' (some ⟨g,0,none⟩) n Y (fun _=>Wz)∧Below w.heap.size w w':=by
 have hvl:P.vn≤1048576:=by have:=hP.all;have:=dI P.ZV P.vn;omega
 have hcn:clm Q.V P.vn≤n:=hLai.le
 have HAL:Hid (AL w B (.slice aA es.length cA) es n S none):=hA
 have HBL:Hid (RL w 0 (.slice aB es.length cB) es.length (fun i=>(es.getD i ⟨[],0⟩).r) S):=hB
 have HLA:Hid (Lai (clm Q.V P.vn) Y H (clm Q.V P.vn) es n):=hLai
 have HYC:Hid (∀ j,j<P.vn→∀ d,d<wid (Q.V j)→Y (clm Q.V j+d)=gt0 (kU (Q.V j) (X j)) d):=hY
 have HPZ:Hid (∀ e ∈ es,PzE Y Wz e):=hPz
 have HSC:Hid (∀ i,i<es.length→∀ c,SzR (bV (es.getD i ⟨[],0⟩).l c) Sc):=hSc
 have HYW:Hid (∀ c,SzR (Y c) Wz):=hYW
 have HVV:Hid (∀ j,(Q.V j).hlo=(P.V j).hlo∧(Q.V j).hhi=(P.V j).hhi∧((P.V j).hlo=true→(Q.V j).lo=(P.V j).lo)∧((P.V j).hhi=true→(Q.V j).hi=(P.V j).hi)):=hV
 have HVN:Hid (Q.vn=P.vn):=hvn
 clear hA hB hLai hY hPz hSc hYW hV hvn
 unfold Prob.val
 have RP0:=Rw.new 31 w #[.bool P.mx,.string P.nm,.bool P.p,.slice P.a P.na P.ca,.slice P.d P.nd P.cd,.slice P.va P.vn P.vc,.slice P.ra P.rn P.rc]
 have hb0:=aI w (.cells #[.bool P.mx,.string P.nm,.bool P.p,.slice P.a P.na P.ca,.slice P.d P.nd P.cd,.slice P.va P.vn P.vc,.slice P.ra P.rn P.rc] 31)
 have hs0:(w.alloc (.cells #[.bool P.mx,.string P.nm,.bool P.p,.slice P.a P.na P.ca,.slice P.d P.nd P.cd,.slice P.va P.vn P.vc,.slice P.ra P.rn P.rc] 31)).heap.size=w.heap.size+1:=by simp
 have RD0:=Rw.new 39 (w.alloc (.cells #[.bool P.mx,.string P.nm,.bool P.p,.slice P.a P.na P.ca,.slice P.d P.nd P.cd,.slice P.va P.vn P.vc,.slice P.ra P.rn P.rc] 31)) #[.slice aA es.length cA,.slice aB es.length cB,.slice (some ⟨gC,0,none⟩) n n,.bool fK,.slice cK nK kK,.slice dK mK lK]
 rw [hs0] at RD0
 have RP1:=RP0.alloc (.cells #[.slice aA es.length cA,.slice aB es.length cB,.slice (some ⟨gC,0,none⟩) n n,.bool fK,.slice cK nK kK,.slice dK mK lK] 39)
 have hb1:=aF hb0 (aI (w.alloc (.cells #[.bool P.mx,.string P.nm,.bool P.p,.slice P.a P.na P.ca,.slice P.d P.nd P.cd,.slice P.va P.vn P.vc,.slice P.ra P.rn P.rc] 31)) (.cells #[.slice aA es.length cA,.slice aB es.length cB,.slice (some ⟨gC,0,none⟩) n n,.bool fK,.slice cK nK kK,.slice dK mK lK] 39))
 have hs1:((w.alloc (.cells #[.bool P.mx,.string P.nm,.bool P.p,.slice P.a P.na P.ca,.slice P.d P.nd P.cd,.slice P.va P.vn P.vc,.slice P.ra P.rn P.rc] 31)).alloc (.cells #[.slice aA es.length cA,.slice aB es.length cB,.slice (some ⟨gC,0,none⟩) n n,.bool fK,.slice cK nK kK,.slice dK mK lK] 39)).heap.size=w.heap.size+2:=by simp
 have z2:=(RD0.cell 2).trans (show _=some (.slice (some ⟨gC,0,none⟩) n n) from rfl)
 clear hb0 hs0 RP0
 go_enter Tryz.func8,Tryz.ntmps8
 go_wp2_with (at_make;refine xO _ rfl _ _ rfl n rfl rfl hn w.heap.size Wz (by omega) (by omega) ?_)
 intro w2 V0 hb2 hs2
 rw [← hs1] at hb2
 have RP2:=RP1.below hb2
 have RD2:=RD0.below hb2
 replace hb2:Below w.heap.size w w2:=aF hb1 hb2
 clear hb1 RP1 RD0 z2 hs1
 obtain ⟨bP,ebP,qP⟩:∃ x,x=w.heap.size∧w.heap.size≤x:=⟨_,rfl,Nat.le_refl _⟩
 obtain ⟨bD,ebD,qD⟩:∃ x,x=w.heap.size+1∧w.heap.size<x:=⟨_,rfl,Nat.lt_succ_self _⟩
 obtain ⟨gY,egY,qY⟩:∃ x,x=w.heap.size+2∧w.heap.size+1<x:=⟨_,rfl,Nat.lt_succ_self _⟩
 have qPD:bP<bD:=by omega
 have qDY:bD<gY:=by omega
 have qYs:gY<w2.heap.size:=by omega
 rw [← ebD] at RD2 ⊢
 rw [← egY] at V0 ⊢
 clear egY ebD hs2
 have ebP':Rw 31 w2 bP #[.bool P.mx,.string P.nm,.bool P.p,.slice P.a P.na P.ca,.slice P.d P.nd P.cd,.slice P.va P.vn P.vc,.slice P.ra P.rn P.rc]:=by rw [ebP];exact RP2
 rw [← ebP]
 clear RP2 ebP
 have RP2:=ebP'
 clear ebP'
 have V1:RY w2 w.heap.size gY n (zn (clm Q.V 0) Y) Wz:=V0.congr fun i _=>(if_neg (Nat.not_lt_zero i)).symm
 clear V0
 go_wp2_with fail
 go_loopw [10] (fun s wr=>∃ (j:Nat),j≤P.vn∧s = .int .i64 j∧Rw 31 wr bP #[.bool P.mx,.string P.nm,.bool P.p,.slice P.a P.na P.ca,.slice P.d P.nd P.cd,.slice P.va P.vn P.vc,.slice P.ra P.rn P.rc]∧RY wr w.heap.size gY n (zn (clm Q.V j) Y) Wz∧Rw 39 wr bD #[.slice aA es.length cA,.slice aB es.length cB,.slice (some ⟨gC,0,none⟩) n n,.bool fK,.slice cK nK kK,.slice dK mK lK]∧Below w.heap.size w wr) (fun t _=>P.vn-(intOf t).toNat)
 case atStart=>exact ⟨0,Nat.zero_le _,rfl,RP2,V1,RD2,hb2⟩
 case round =>
  clear RP2 V1 RD2 hb2 qYs
  obtain ⟨j,hj,rfl,RP,V,RD,hbr⟩:=hrel
  have y5:=(RP.cell 5).trans (show _=some (.slice P.va P.vn P.vc) from rfl)
  by_cases hlt:j<P.vn
  ·have hkI:(j:Int)<(P.vn:Int):=by omega
   have hkI2:(j:Int)*13=((j*13:Nat):Int):=by omega
   have hkI3:(j:Int)*3=((j*3:Nat):Int):=by omega
   go_wp2_with fail
   refine (zT wr (hSH.below hbr) (by rw [HVN.out];exact hlt)).mono ?_
   rintro e w3 ⟨rfl,h3⟩
   have RP3:=RP.below h3
   have RD3:=RD.below h3
   have V3:=V.below h3
   have hb3:=aF hbr h3
   clear y5 RP RD V hbr h3
   have y5:=(RP3.cell 5).trans (show _=some (.slice P.va P.vn P.vc) from rfl)
   have hcl:=nN Q.V (j:=j) (n:=P.vn) hlt
   have hyc:=HYC.out j hlt
   have hvv:=HVV.out j
   obtain ⟨u,eu⟩:∃ u,u=clm Q.V j:=⟨_,rfl⟩
   have eu2:clm Q.V (j+1)=u+wid (Q.V j):=by rw [eu];rfl
   rw [← eu] at hcl hyc V3 ⊢
   have EU2:Hid (clm Q.V (j+1)=u+wid (Q.V j)):=eu2
   clear eu eu2
   have hu0:¬ (u:Int)<0:=by omega
   have hu2:¬ (n:Int)≤(-1:Int):=by omega
   have hwp:=oJ (Q.V j)
   have hun:¬ (n:Int)≤(u:Int):=by omega
   rcases hx with h0|⟨bx,ox,rfl,helx⟩
   ·omega
   obtain ⟨pA,aA',nA,cA',dA,mA,lA,c0,c1,c2,hTx0⟩:=helx j hlt
   replace c0:=aG hb3 c0
   replace c1:=aG hb3 c1
   replace c2:=aG hb3 c2
   have hTx:=hTx0.below hb3
   rcases (hP.v.below hb3) with h0|⟨bv,ov,hva,hev⟩
   ·omega
   have hV:=hev j hlt
   have hZi:P.ZV j≤1048576:=by have:=bY (Z:=P.ZV) hlt;have:=hP.all;omega
   have hs1v:=hV.s1
   obtain ⟨nmV,enm⟩:∃ nmV,nmV=(P.V j).nm:=⟨_,rfl⟩
   obtain ⟨hl,ehl⟩:∃ hl,hl=(P.V j).hlo:=⟨_,rfl⟩
   obtain ⟨hh,ehh⟩:∃ hh,hh=(P.V j).hhi:=⟨_,rfl⟩
   obtain ⟨wh,ewh⟩:∃ wh,wh=(P.V j).whole:=⟨_,rfl⟩
   have r0:=hV.nm
   obtain ⟨pO,aO,nO,cO,dO,mO,lO,r1,r2,r3,_⟩:=hV.obj
   have r4:=hV.hlo
   obtain ⟨pl,al,nl,cl,dl,ml,ll,r5,r6,r7,hlo⟩:=hV.lo
   have r8:=hV.hhi
   obtain ⟨ph,ah,nh,ch,dh,mh,lh,r9,r10,r11,hhi⟩:=hV.hi
   have r12:=hV.whole
   rw [← enm] at r0
   rw [← ehl] at r4 hvv
   rw [← ehh] at r8 hvv
   rw [← ewh] at r12
   obtain ⟨g1,g2,g3,g4⟩:=hvv
   have G12:Hid ((Q.V j).hlo=hl∧(Q.V j).hhi=hh∧(hl=true→(Q.V j).lo=(P.V j).lo)∧(hh=true→(Q.V j).hi=(P.V j).hi)):=⟨g1,g2,g3,g4⟩
   have HYJ:Hid (∀ d,d<wid (Q.V j)→Y (u+d)=gt0 (kU (Q.V j) (X j)) d):=hyc
   have em:mns (Q.V j) u=if hl then -1 else if hh then -1 else ((u+1:Nat):Int):=by unfold mns;rw [g1,g2]
   have ew:wid (Q.V j)=if hl then 1 else if hh then 1 else 2:=by unfold wid;rw [g1,g2]
   have ec:kU (Q.V j) (X j)=if hl then [X j-(P.V j).lo] else if hh then [(P.V j).hi-X j] else if X j<0 then [0,-X j] else [X j,0]:=by
    unfold kU
    rw [g1,g2]
    cases hl
    ·cases hh
     ·rfl
     ·show [(Q.V j).hi-X j]=[(P.V j).hi-X j]
      rw [g4 rfl]
    ·show [X j-(Q.V j).lo]=[X j-(P.V j).lo]
     rw [g3 rfl]
   have HEW:Hid (wid (Q.V j)=if hl then 1 else if hh then 1 else 2):=ew
   have HEC:Hid (kU (Q.V j) (X j)=if hl then [X j-(P.V j).lo] else if hh then [(P.V j).hi-X j] else if X j<0 then [0,-X j] else [X j,0]):=ec
   rw [em]
   rw [ew] at hcl
   clear hev hV enm ehl ehh ewh helx g1 g2 g3 g4 hyc ew ec em hwp
   rw [hva] at y5
   have N:=aQ w3 #[.string nmV,.bool pO,.slice aO nO cO,.slice dO mO lO,.bool hl,.bool pl,.slice al nl cl,.slice dl ml ll,.bool hh,.bool ph,.slice ah nh ch,.slice dh mh lh,.bool wh] 50
   have hz:=aI w3 (.cells #[.string nmV,.bool pO,.slice aO nO cO,.slice dO mO lO,.bool hl,.bool pl,.slice al nl cl,.slice dl ml ll,.bool hh,.bool ph,.slice ah nh ch,.slice dh mh lh,.bool wh] 50)
   have n4:=N 4 _ rfl
   have n5:=N 5 _ rfl;have n6:=N 6 _ rfl;have n7:=N 7 _ rfl
   have n9:=N 9 _ rfl;have n10:=N 10 _ rfl;have n11:=N 11 _ rfl
   clear N
   have k0:=aG hz c0;have k1:=aG hz c1;have k2:=aG hz c2
   have V4:=V3.below hz
   have RP4:=RP3.below hz
   have RD4:=RD3.below hz
   have hb4:=aF hb3 hz
   replace hTx:=hTx.below hz
   replace hlo:=hlo.below hz
   replace hhi:=hhi.below hz
   clear V3 RP3 RD3
   have hd0:decide ((0:Int)≤-1)=false:=by decide
   obtain ⟨W4,eW4⟩:∃ x,x=w3.alloc (.cells #[.string nmV,.bool pO,.slice aO nO cO,.slice dO mO lO,.bool hl,.bool pl,.slice al nl cl,.slice dl ml ll,.bool hh,.bool ph,.slice ah nh ch,.slice dh mh lh,.bool wh] 50):=⟨_,rfl⟩
   rw [← eW4] at n4 n5 n6 n7 n9 n10 n11 k0 k1 k2 V4 RP4 RD4 hb4 hTx hlo hhi
   obtain ⟨mm,emm⟩:∃ x,x=(if hl then -1 else if hh then -1 else ((u+1:Nat):Int)):=⟨_,rfl⟩
   rw [← emm]
   cases hl
   ·cases hh
    ·obtain rfl:mm=((u+1:Nat):Int):=emm.trans ((if_neg (by decide)).trans (if_neg (by decide)))
     have w1:wid (Q.V j)=2:=HEW.out.trans ((if_neg (by decide)).trans (if_neg (by decide)))
     rw [if_neg (by decide),if_neg (by decide)] at hcl
     have YU0:=HYJ.out 0 (by rw [w1];omega)
     have YU1:=HYJ.out 1 (by rw [w1];omega)
     rw [HEC.out,if_neg (by decide),if_neg (by decide)] at YU0 YU1
     have e2:clm Q.V (j+1)=u+2:=by rw [EU2.out,w1]
     have E2:Hid (clm Q.V (j+1)=u+2):=e2
     have HY0:Hid (Y u=gt0 (if X j<0 then [0,-X j] else [X j,0]) 0):=YU0
     have HY1:Hid (Y (u+1)=gt0 (if X j<0 then [0,-X j] else [X j,0]) 1):=YU1
     have hu3:(u:Int)*3=((u*3:Nat):Int):=by omega
     have hu4:((u+1:Nat):Int)*3=(((u+1)*3:Nat):Int):=by omega
     have hui:(u:Int)<(n:Int):=by omega
     have hui1:((u+1:Nat):Int)<(n:Int):=by omega
     have hm0:(0:Int)≤((u+1:Nat):Int):=by omega
     have hm1:¬ ((u+1:Nat):Int)<0:=by omega
     have hmn:¬ (n:Int)≤((u+1:Nat):Int):=by omega
     clear e2 w1 YU0 YU1 emm
     obtain ⟨v,ev⟩:∃ v,v=u+1:=⟨_,rfl⟩
     rw [← ev] at hu4 hui1 hm0 hm1 hmn HY1 ⊢
     have EV:Hid (v=u+1):=ev
     have huv:u<v:=by omega
     have hvn2:v<n:=by omega
     clear ev
     rw [eW4] at k0 k1 k2
     go_wp2_with fail
     rw [← eW4] at k0 k1 k2
     rw [← hva]
     clear hva
     clear n4 r0 r1 r2 r3 r4 r5 r6 r7 r8 r9 r10 r11 r12 n5 n6 n7 n9 n10 n11 hlo hhi
     rw [← eW4]
     obtain ⟨t,et⟩:∃ t,t=(X j).num.sign:=⟨_,rfl⟩
     refine (wQ t W4 hTx (by omega) hT1 et).mono ?_
     rintro e w5 ⟨rfl,h5⟩
     have V5:=V4.below h5
     have RP5:=RP4.below h5
     have RD5:=RD4.below h5
     have hb5:=aF hb4 h5
     replace hTx:=hTx.below h5
     replace k0:=aG h5 k0
     replace k1:=aG h5 k1
     replace k2:=aG h5 k2
     clear V4 RP4 RD4 hb4 h5 eW4
     by_cases ht:t<0
     ·have hneg:X j<0:=Classical.byContradiction fun h=>nn_sign (Rat.not_lt.1 h) (by rw [← et];exact ht)
      have YV:Y v = -X j:=by have h:=HY1.out;rw [if_pos hneg] at h;exact h
      have YZ:Y u=0:=by have h:=HY0.out;rw [if_pos hneg] at h;exact h
      have YV2:Hid (Y v = -X j):=YV
      clear et YV
      go_wp2_with fail
      refine (negQ w5 hTx (by omega) hT1 (hT.below hb5)).mono ?_
      rintro e w6 ⟨f1,c1',n1',k1',d1',m1',l1',rfl,G1,h6⟩
      have V6:=V5.below h6
      have RP6:=RP5.below h6
      have RD6:=RD5.below h6
      have hb6:=aF hb5 h6
      clear V5 RP5 RD5 hb5 h6
      obtain ⟨u0,u1,u2,c3',c4',c5',c6',c7',c8'⟩:=V6.three (i:=v) (by omega)
      obtain ⟨VN,ON⟩:=V6.put (i:=v) (Y:=zn (clm Q.V (j+1)) Y) (r:=Y v) (by omega) (.inl (((G1.mono (B':=0) (Nat.zero_le _)).val YV2.out.symm).fit (HYW.out v))) (pF (c:=u) (i:=v) (fun q h1 h2 h3=>by
       have:=E2.out
       have:=EV.out
       obtain rfl:q=u:=by omega
       exact YZ) (by omega) (by rw [E2.out];have:=EV.out;omega) _)
      have RPN:=RP6.off ON (by omega)
      have RDN:=RD6.off ON (by omega)
      have hbN:Below w.heap.size w _:=hb6.trans (ON.below (by omega))
      clear V6 RP6 RD6 hb6 ON hTx YZ
      go_wp2
      clear k0 k1 k2 c3' c4' c5' c6' c7' c8'
      go_roundw
      case rel=>first|exact ⟨j+1,by omega,by go_num,RPN,VN,RDN,hbN⟩|((repeat apply Exists.intro);refine ⟨?_,rfl⟩;exact ⟨j+1,by omega,by go_num,RPN,VN,RDN,hbN⟩)
      case measure=>simp [intOf];omega
     ·have hnn:¬ X j<0:=Rat.not_lt.2 (sign_nn (by rw [← et];exact ht))
      have YV:Y u=X j:=by have h:=HY0.out;rw [if_neg hnn] at h;exact h
      have YZ:Y v=0:=by have h:=HY1.out;rw [if_neg hnn] at h;exact h
      have YV2:Hid (Y u=X j):=YV
      have htt:∀ w',Below w.heap.size w5 w'→TR w' pA aA' nA cA' dA mA lA (Y u) Wz:=fun w' h=>by rw [YV2.out];exact (hTx0.below (hb5.trans h)).up hW1
      clear et YV
      obtain ⟨u0,u1,u2,c3',c4',c5',c6',c7',c8'⟩:=V5.three (i:=u) (by omega)
      obtain ⟨VN,ON⟩:=V5.put (i:=u) (Y:=zn (clm Q.V (j+1)) Y) (r:=Y u) (by omega) (.inr htt) (pF (c:=u) (i:=u) (fun q h1 h2 h3=>by
       have:=E2.out
       have:=EV.out
       obtain rfl:q=v:=by omega
       exact YZ) (by omega) (by rw [E2.out];have:=EV.out;omega) _)
      have RPN:=RP5.off ON (by omega)
      have RDN:=RD5.off ON (by omega)
      have hbN:Below w.heap.size w _:=hb5.trans (ON.below (by omega))
      clear V5 RP5 RD5 hb5 ON hTx YZ
      go_wp2
      clear k0 k1 k2 c3' c4' c5' c6' c7' c8'
      go_roundw
      case rel=>first|exact ⟨j+1,by omega,by go_num,RPN,VN,RDN,hbN⟩|((repeat apply Exists.intro);refine ⟨?_,rfl⟩;exact ⟨j+1,by omega,by go_num,RPN,VN,RDN,hbN⟩)
      case measure=>simp [intOf];omega
    ·obtain rfl:mm = -1:=emm.trans ((if_neg (by decide)).trans (if_pos rfl))
     have w1:wid (Q.V j)=1:=HEW.out.trans ((if_neg (by decide)).trans (if_pos rfl))
     rw [if_neg (by decide),if_pos rfl] at hcl
     have YU:Y u=(P.V j).hi-X j:=by
      have h:=HYJ.out 0 (by rw [w1];omega)
      rw [HEC.out,if_neg (by decide),if_pos rfl] at h
      exact h
     have e2:clm Q.V (j+1)=u+1:=by rw [EU2.out,w1]
     have E2:Hid (clm Q.V (j+1)=u+1):=e2
     have YU2:Hid (Y u=(P.V j).hi-X j):=YU
     have hu3:(u:Int)*3=((u*3:Nat):Int):=by omega
     have hui:(u:Int)<(n:Int):=by omega
     clear e2 w1 YU emm
     go_wp2_with fail
     clear n4 r0 r1 r2 r3 r4 r5 r6 r7 r8 r9 r10 r11 r12
     rw [← eW4]
     have HBX:∀ w',Below W4.heap.size W4 w'→(w'.cell? ⟨bx,ox+j*3,none⟩=some (.bool pA)∧w'.cell? ⟨bx,ox+j*3+1,none⟩=some (.slice aA' nA cA')∧w'.cell? ⟨bx,ox+j*3+2,none⟩=some (.slice dA mA lA)∧w'.cell? ⟨w3.heap.size,5,none⟩=some (.bool pl)∧w'.cell? ⟨w3.heap.size,6,none⟩=some (.slice al nl cl)∧w'.cell? ⟨w3.heap.size,7,none⟩=some (.slice dl ml ll)∧w'.cell? ⟨w3.heap.size,9,none⟩=some (.bool ph)∧w'.cell? ⟨w3.heap.size,10,none⟩=some (.slice ah nh ch)∧w'.cell? ⟨w3.heap.size,11,none⟩=some (.slice dh mh lh)):=fun w' h=>⟨aG h k0,aG h k1,aG h k2,aG h n5,aG h n6,aG h n7,aG h n9,aG h n10,aG h n11⟩
     refine wp_region_noPanic (aS 11 HBX (by as_aux_lemma=>kernel_rfl) ?_)
     have hc0:Below W4.heap.size W4 W4.drew:=aK _
     generalize W4.drew=z0 at *
     refine wpAnyG.tT 0 (v:=.slice (some ⟨gY,0,none⟩) n n) (by decide) 11 (by as_aux_lemma=>kernel_rfl) (by rfl) ?y0 (HBX _ hc0) ?_
     case y0 =>
      rintro w' ⟨q0,q1,q2,q3,q4,q5,q6,q7,q8⟩
      simp only [lgA,lgZ]
      go_simp
     simp only [lgA,lgZ,Act.put,lsA,lsZ,lsS]
     refine wpAnyG.tT 1 (v:=.int .i64 (u:Nat)) (by decide) 11 (by as_aux_lemma=>kernel_rfl) (by rfl) ?y1 (HBX _ hc0) ?_
     case y1 =>
      rintro w' ⟨q0,q1,q2,q3,q4,q5,q6,q7,q8⟩
      simp only [lgA,lgZ,lgS]
      go_simp
     simp only [lgA,lgZ,lgS,Act.put,lsA,lsZ,lsS]
     refine wpAnyG.tT 2 (v:=.pointer (some ⟨w3.heap.size,8,none⟩)) (by decide) 11 (by as_aux_lemma=>kernel_rfl) (by rfl) ?y2 (HBX _ hc0) ?_
     case y2 =>
      rintro w' ⟨q0,q1,q2,q3,q4,q5,q6,q7,q8⟩
      simp only [lgA,lgZ,lgS]
      go_simp
     simp only [lgA,lgZ,lgS,Act.put,lsA,lsZ,lsS]
     refine wpAnyG.tT 3 (v:=.pointer (some ⟨w3.heap.size,9,none⟩)) (by decide) 11 (by as_aux_lemma=>kernel_rfl) (by rfl) ?y3 (HBX _ hc0) ?_
     case y3 =>
      rintro w' ⟨q0,q1,q2,q3,q4,q5,q6,q7,q8⟩
      simp only [lgA,lgZ,lgS]
      go_simp
     simp only [lgA,lgZ,lgS,Act.put,lsA,lsZ,lsS]
     refine wpAnyG.tT 4 (v:=.agg #[.bool ph,.slice ah nh ch,.slice dh mh lh]) (by decide) 11 (by as_aux_lemma=>kernel_rfl) (by rfl) ?y4 (HBX _ hc0) ?_
     case y4 =>
      rintro w' ⟨q0,q1,q2,q3,q4,q5,q6,q7,q8⟩
      simp only [lgA,lgZ,lgS]
      go_simp
     simp only [lgA,lgZ,lgS,Act.put,lsA,lsZ,lsS]
     refine wpAnyG.tT 5 (v:=.slice (some ⟨bx,ox,none⟩) P.vn xc) (by decide) 11 (by as_aux_lemma=>kernel_rfl) (by rfl) ?y5 (HBX _ hc0) ?_
     case y5 =>
      rintro w' ⟨q0,q1,q2,q3,q4,q5,q6,q7,q8⟩
      simp only [lgA,lgZ,lgS]
      go_simp
     simp only [lgA,lgZ,lgS,Act.put,lsA,lsZ,lsS]
     refine wpAnyG.tT 6 (v:=.int .i64 (j:Nat)) (by decide) 11 (by as_aux_lemma=>kernel_rfl) (by rfl) ?y6 (HBX _ hc0) ?_
     case y6 =>
      rintro w' ⟨q0,q1,q2,q3,q4,q5,q6,q7,q8⟩
      simp only [lgA,lgZ,lgS]
      go_simp
     simp only [lgA,lgZ,lgS,Act.put,lsA,lsZ,lsS]
     refine wpAnyG.tT 7 (v:=.pointer (some ⟨bx,ox+j*3,none⟩)) (by decide) 11 (by as_aux_lemma=>kernel_rfl) (by rfl) ?y7 (HBX _ hc0) ?_
     case y7 =>
      rintro w' ⟨q0,q1,q2,q3,q4,q5,q6,q7,q8⟩
      simp only [lgA,lgZ,lgS]
      go_simp
     simp only [lgA,lgZ,lgS,Act.put,lsA,lsZ,lsS]
     refine wpAnyG.tT 8 (v:=.agg #[.bool pA,.slice aA' nA cA',.slice dA mA lA]) (by decide) 11 (by as_aux_lemma=>kernel_rfl) (by rfl) ?y8 (HBX _ hc0) ?_
     case y8 =>
      rintro w' ⟨q0,q1,q2,q3,q4,q5,q6,q7,q8⟩
      simp only [lgA,lgZ,lgS]
      go_simp
     simp only [lgA,lgZ,lgS,Act.put,lsA,lsZ,lsS]
     refine wpAnyG.one 9 (by as_aux_lemma=>kernel_rfl) (by decide) (by rfl) (fun K hK=>?_)
     simp only [lgA,lgZ,lgS]
     go_simp
     refine (jB z0 (hhi.below hc0) (hTx.below hc0) (by omega) hs1v hT1 (hT.below (aF hb4 hc0))).mono ?_
     rintro e z1 ⟨f1,c1',n1',k1',d1',m1',l1',rfl,G1,hk1⟩
     have hc1:Below W4.heap.size W4 z1:=aF hc0 hk1
     have V5:=V4.below hc1
     have RP5:=RP4.below hc1
     have RD5:=RD4.below hc1
     have hb5:=aF hb4 hc1
     dsimp only
     refine hK _ _ ⟨fun _=>HBX _ hc1,fun _=>trivial⟩ ?_
     clear hK K
     refine wpAnyG.tT 10 (v:=.pointer (some ⟨gY,u*3,none⟩)) (by decide) 11 (by as_aux_lemma=>kernel_rfl) (by rfl) ?y10 (HBX _ hc1) ?_
     case y10 =>
      rintro w' ⟨q0,q1,q2,q3,q4,q5,q6,q7,q8⟩
      simp only [lgA,lgZ,lgS]
      go_simp
     simp only [lgA,lgZ,lgS,Act.put,lsA,lsZ,lsS]
     refine wpAnyG.one 11 (by as_aux_lemma=>kernel_rfl) (by decide) (by rfl) (fun K hK=>?_)
     simp only [lgA,lgZ,lgS]
     obtain ⟨u0,u1,u2,c3',c4',c5',c6',c7',c8'⟩:=V5.three (i:=u) (by omega)
     go_simp
     refine hK _ _ ⟨fun h=>absurd h (by decide),fun _=>trivial⟩ ?_
     clear c3' c4' c5' c6' c7' c8'
     clear hK K
     refine wpAnyG.done (by as_aux_lemma=>kernel_rfl) (NoPanic.normal ?_)
     obtain ⟨VN,ON⟩:=V5.put (i:=u) (Y:=zn (clm Q.V (j+1)) Y) (r:=Y u) (by omega) (.inl ((((G1.mono (B':=0) (Nat.zero_le _)).val YU2.out.symm)).fit (HYW.out u))) (pF (c:=u) (i:=u) (fun q h1 h2 h3=>by have:=E2.out;omega) (Nat.le_refl _) (by rw [E2.out];omega) _)
     have RPN:=RP5.off ON (by omega)
     have RDN:=RD5.off ON (by omega)
     have hbN:Below w.heap.size w (((z1.setCell ⟨gY,u*3,none⟩ (.bool f1)).setCell ⟨gY,u*3+1,none⟩ (.slice c1' n1' k1')).setCell ⟨gY,u*3+2,none⟩ (.slice d1' m1' l1')):=hb5.trans (ON.below (by omega))
     clear HBX hc0 hc1 hk1 G1 V4 RP4 RD4 V5 RP5 RD5 hb5 hb4 ON k0 k1 k2 n5 n6 n7 n9 n10 n11 hTx hlo hhi
     generalize ((z1.setCell ⟨gY,u*3,none⟩ (.bool f1)).setCell ⟨gY,u*3+1,none⟩ (.slice c1' n1' k1')).setCell ⟨gY,u*3+2,none⟩ (.slice d1' m1' l1')=w9 at *
     try rw [← hva]
     go_wp2
     go_roundw
     case rel=>first|exact ⟨j+1,by omega,by go_num,RPN,VN,RDN,hbN⟩|((repeat apply Exists.intro);refine ⟨?_,rfl⟩;exact ⟨j+1,by omega,by go_num,RPN,VN,RDN,hbN⟩)
     case measure=>simp [intOf];omega
   ·obtain rfl:mm = -1:=emm.trans (if_pos rfl)
    have w1:wid (Q.V j)=1:=HEW.out.trans (if_pos rfl)
    rw [if_pos rfl] at hcl
    have YU:Y u=X j-(P.V j).lo:=by
     have h:=HYJ.out 0 (by rw [w1];omega)
     rw [HEC.out,if_pos rfl] at h
     exact h
    have e2:clm Q.V (j+1)=u+1:=by rw [EU2.out,w1]
    have E2:Hid (clm Q.V (j+1)=u+1):=e2
    have YU2:Hid (Y u=X j-(P.V j).lo):=YU
    have hu3:(u:Int)*3=((u*3:Nat):Int):=by omega
    have hui:(u:Int)<(n:Int):=by omega
    clear e2 w1 YU emm
    go_wp2_with fail
    clear n4 r0 r1 r2 r3 r4 r5 r6 r7 r8 r9 r10 r11 r12
    rw [← eW4]
    have HBX:∀ w',Below W4.heap.size W4 w'→(w'.cell? ⟨bx,ox+j*3,none⟩=some (.bool pA)∧w'.cell? ⟨bx,ox+j*3+1,none⟩=some (.slice aA' nA cA')∧w'.cell? ⟨bx,ox+j*3+2,none⟩=some (.slice dA mA lA)∧w'.cell? ⟨w3.heap.size,5,none⟩=some (.bool pl)∧w'.cell? ⟨w3.heap.size,6,none⟩=some (.slice al nl cl)∧w'.cell? ⟨w3.heap.size,7,none⟩=some (.slice dl ml ll)∧w'.cell? ⟨w3.heap.size,9,none⟩=some (.bool ph)∧w'.cell? ⟨w3.heap.size,10,none⟩=some (.slice ah nh ch)∧w'.cell? ⟨w3.heap.size,11,none⟩=some (.slice dh mh lh)):=fun w' h=>⟨aG h k0,aG h k1,aG h k2,aG h n5,aG h n6,aG h n7,aG h n9,aG h n10,aG h n11⟩
    refine wp_region_noPanic (aS 11 HBX (by as_aux_lemma=>kernel_rfl) ?_)
    have hc0:Below W4.heap.size W4 W4.drew:=aK _
    generalize W4.drew=z0 at *
    refine wpAnyG.tT 0 (v:=.slice (some ⟨gY,0,none⟩) n n) (by decide) 11 (by as_aux_lemma=>kernel_rfl) (by rfl) ?y0 (HBX _ hc0) ?_
    case y0 =>
     rintro w' ⟨q0,q1,q2,q3,q4,q5,q6,q7,q8⟩
     simp only [lgA,lgZ]
     go_simp
    simp only [lgA,lgZ,Act.put,lsA,lsZ,lsS]
    refine wpAnyG.tT 1 (v:=.int .i64 (u:Nat)) (by decide) 11 (by as_aux_lemma=>kernel_rfl) (by rfl) ?y1 (HBX _ hc0) ?_
    case y1 =>
     rintro w' ⟨q0,q1,q2,q3,q4,q5,q6,q7,q8⟩
     simp only [lgA,lgZ,lgS]
     go_simp
    simp only [lgA,lgZ,lgS,Act.put,lsA,lsZ,lsS]
    refine wpAnyG.tT 2 (v:=.slice (some ⟨bx,ox,none⟩) P.vn xc) (by decide) 11 (by as_aux_lemma=>kernel_rfl) (by rfl) ?y2 (HBX _ hc0) ?_
    case y2 =>
     rintro w' ⟨q0,q1,q2,q3,q4,q5,q6,q7,q8⟩
     simp only [lgA,lgZ,lgS]
     go_simp
    simp only [lgA,lgZ,lgS,Act.put,lsA,lsZ,lsS]
    refine wpAnyG.tT 3 (v:=.int .i64 (j:Nat)) (by decide) 11 (by as_aux_lemma=>kernel_rfl) (by rfl) ?y3 (HBX _ hc0) ?_
    case y3 =>
     rintro w' ⟨q0,q1,q2,q3,q4,q5,q6,q7,q8⟩
     simp only [lgA,lgZ,lgS]
     go_simp
    simp only [lgA,lgZ,lgS,Act.put,lsA,lsZ,lsS]
    refine wpAnyG.tT 4 (v:=.pointer (some ⟨bx,ox+j*3,none⟩)) (by decide) 11 (by as_aux_lemma=>kernel_rfl) (by rfl) ?y4 (HBX _ hc0) ?_
    case y4 =>
     rintro w' ⟨q0,q1,q2,q3,q4,q5,q6,q7,q8⟩
     simp only [lgA,lgZ,lgS]
     go_simp
    simp only [lgA,lgZ,lgS,Act.put,lsA,lsZ,lsS]
    refine wpAnyG.tT 5 (v:=.agg #[.bool pA,.slice aA' nA cA',.slice dA mA lA]) (by decide) 11 (by as_aux_lemma=>kernel_rfl) (by rfl) ?y5 (HBX _ hc0) ?_
    case y5 =>
     rintro w' ⟨q0,q1,q2,q3,q4,q5,q6,q7,q8⟩
     simp only [lgA,lgZ,lgS]
     go_simp
    simp only [lgA,lgZ,lgS,Act.put,lsA,lsZ,lsS]
    refine wpAnyG.tT 6 (v:=.pointer (some ⟨w3.heap.size,4,none⟩)) (by decide) 11 (by as_aux_lemma=>kernel_rfl) (by rfl) ?y6 (HBX _ hc0) ?_
    case y6 =>
     rintro w' ⟨q0,q1,q2,q3,q4,q5,q6,q7,q8⟩
     simp only [lgA,lgZ,lgS]
     go_simp
    simp only [lgA,lgZ,lgS,Act.put,lsA,lsZ,lsS]
    refine wpAnyG.tT 7 (v:=.pointer (some ⟨w3.heap.size,5,none⟩)) (by decide) 11 (by as_aux_lemma=>kernel_rfl) (by rfl) ?y7 (HBX _ hc0) ?_
    case y7 =>
     rintro w' ⟨q0,q1,q2,q3,q4,q5,q6,q7,q8⟩
     simp only [lgA,lgZ,lgS]
     go_simp
    simp only [lgA,lgZ,lgS,Act.put,lsA,lsZ,lsS]
    refine wpAnyG.tT 8 (v:=.agg #[.bool pl,.slice al nl cl,.slice dl ml ll]) (by decide) 11 (by as_aux_lemma=>kernel_rfl) (by rfl) ?y8 (HBX _ hc0) ?_
    case y8 =>
     rintro w' ⟨q0,q1,q2,q3,q4,q5,q6,q7,q8⟩
     simp only [lgA,lgZ,lgS]
     go_simp
    simp only [lgA,lgZ,lgS,Act.put,lsA,lsZ,lsS]
    refine wpAnyG.one 9 (by as_aux_lemma=>kernel_rfl) (by decide) (by rfl) (fun K hK=>?_)
    simp only [lgA,lgZ,lgS]
    go_simp
    refine (jB z0 (hTx.below hc0) (hlo.below hc0) (by omega) hT1 hs1v (hT.below (aF hb4 hc0))).mono ?_
    rintro e z1 ⟨f1,c1',n1',k1',d1',m1',l1',rfl,G1,hk1⟩
    have hc1:Below W4.heap.size W4 z1:=aF hc0 hk1
    have V5:=V4.below hc1
    have RP5:=RP4.below hc1
    have RD5:=RD4.below hc1
    have hb5:=aF hb4 hc1
    dsimp only
    refine hK _ _ ⟨fun _=>HBX _ hc1,fun _=>trivial⟩ ?_
    clear hK K
    refine wpAnyG.tT 10 (v:=.pointer (some ⟨gY,u*3,none⟩)) (by decide) 11 (by as_aux_lemma=>kernel_rfl) (by rfl) ?y10 (HBX _ hc1) ?_
    case y10 =>
     rintro w' ⟨q0,q1,q2,q3,q4,q5,q6,q7,q8⟩
     simp only [lgA,lgZ,lgS]
     go_simp
    simp only [lgA,lgZ,lgS,Act.put,lsA,lsZ,lsS]
    refine wpAnyG.one 11 (by as_aux_lemma=>kernel_rfl) (by decide) (by rfl) (fun K hK=>?_)
    simp only [lgA,lgZ,lgS]
    obtain ⟨u0,u1,u2,c3',c4',c5',c6',c7',c8'⟩:=V5.three (i:=u) (by omega)
    go_simp
    refine hK _ _ ⟨fun h=>absurd h (by decide),fun _=>trivial⟩ ?_
    clear c3' c4' c5' c6' c7' c8'
    clear hK K
    refine wpAnyG.done (by as_aux_lemma=>kernel_rfl) (NoPanic.normal ?_)
    obtain ⟨VN,ON⟩:=V5.put (i:=u) (Y:=zn (clm Q.V (j+1)) Y) (r:=Y u) (by omega) (.inl ((((G1.mono (B':=0) (Nat.zero_le _)).val YU2.out.symm)).fit (HYW.out u))) (pF (c:=u) (i:=u) (fun q h1 h2 h3=>by have:=E2.out;omega) (Nat.le_refl _) (by rw [E2.out];omega) _)
    have RPN:=RP5.off ON (by omega)
    have RDN:=RD5.off ON (by omega)
    have hbN:Below w.heap.size w (((z1.setCell ⟨gY,u*3,none⟩ (.bool f1)).setCell ⟨gY,u*3+1,none⟩ (.slice c1' n1' k1')).setCell ⟨gY,u*3+2,none⟩ (.slice d1' m1' l1')):=hb5.trans (ON.below (by omega))
    clear HBX hc0 hc1 hk1 G1 V4 RP4 RD4 V5 RP5 RD5 hb5 hb4 ON k0 k1 k2 n5 n6 n7 n9 n10 n11 hTx hlo hhi
    generalize ((z1.setCell ⟨gY,u*3,none⟩ (.bool f1)).setCell ⟨gY,u*3+1,none⟩ (.slice c1' n1' k1')).setCell ⟨gY,u*3+2,none⟩ (.slice d1' m1' l1')=w9 at *
    try rw [← hva]
    go_wp2
    go_roundw
    case rel=>first|exact ⟨j+1,by omega,by go_num,RPN,VN,RDN,hbN⟩|((repeat apply Exists.intro);refine ⟨?_,rfl⟩;exact ⟨j+1,by omega,by go_num,RPN,VN,RDN,hbN⟩)
    case measure=>simp [intOf];omega
  ·obtain rfl:j=P.vn:=by omega
   have hkI:¬ (P.vn:Int)<(P.vn:Int):=by omega
   go_wp2_with fail
   clear y5 hlt hj
   obtain ⟨wv,ewv⟩:∃ x,x=wr:=⟨_,rfl⟩
   subst ewv
   go_loopw [14,15] (fun s14 s15 wr=>∃ (j:Nat),j≤P.vn∧s15 = .int .i64 j∧s14 = .int .i64 (clm Q.V j:Nat)∧Rw 31 wr bP #[.bool P.mx,.string P.nm,.bool P.p,.slice P.a P.na P.ca,.slice P.d P.nd P.cd,.slice P.va P.vn P.vc,.slice P.ra P.rn P.rc]∧RY wr w.heap.size gY n (zn (clm Q.V P.vn) Y) Wz∧Rw 39 wr bD #[.slice aA es.length cA,.slice aB es.length cB,.slice (some ⟨gC,0,none⟩) n n,.bool fK,.slice cK nK kK,.slice dK mK lK]∧Below w.heap.size w wr) (fun _ t _=>P.vn-(intOf t).toNat)
   case atStart=>exact ⟨0,Nat.zero_le _,rfl,rfl,RP,V,RD,hbr⟩
   case round =>
    clear RP V RD hbr hkI
    obtain ⟨j,hj,rfl,rfl,RP,V,RD,hbr⟩:=hrel
    have y5:=(RP.cell 5).trans (show _=some (.slice P.va P.vn P.vc) from rfl)
    by_cases hlt:j<P.vn
    ·have hkI:(j:Int)<(P.vn:Int):=by omega
     go_wp2_with fail
     refine (zT wr (hSH.below hbr) (by rw [HVN.out];exact hlt)).mono ?_
     rintro e w3 ⟨rfl,h3⟩
     have RP3:=RP.below h3
     have RD3:=RD.below h3
     have V3:=V.below h3
     have hb3:=aF hbr h3
     clear y5 RP RD V hbr h3
     obtain ⟨u,eu⟩:∃ u,u=clm Q.V j:=⟨_,rfl⟩
     have eu2:clm Q.V (j+1)=u+wid (Q.V j):=by rw [eu];rfl
     have hcl:=nN Q.V (j:=j) (n:=P.vn) hlt
     have EU2:Hid (clm Q.V (j+1)=u+wid (Q.V j)):=eu2
     rw [← eu] at hcl ⊢
     clear eu eu2
     have hu2:u≤2097152:=Nat.le_trans (Nat.le_trans (Nat.le_trans (Nat.le_add_right _ _) hcl) (sZ _ _)) (Nat.mul_le_mul_left 2 hvl)
     obtain ⟨mm,emm⟩:∃ mm,mm=mns (Q.V j) u:=⟨_,rfl⟩
     rw [← emm]
     by_cases hb:(Q.V j).hlo=true∨(Q.V j).hhi=true
     ·have e1:mm = -1∧wid (Q.V j)=1:=by
       rw [emm]
       unfold mns wid
       rcases hb with h|h
       ·rw [if_pos h,if_pos h];exact ⟨rfl,rfl⟩
       ·rw [if_pos h]
        rw [if_pos h]
        split <;> exact ⟨rfl,rfl⟩
      obtain ⟨e1,e2⟩:=e1
      have e3:clm Q.V (j+1)=u+1:=by rw [EU2.out,e2]
      have E3:Hid (clm Q.V (j+1)=u+1):=e3
      obtain ⟨hw,hm1,hm2⟩:=max_lo u mm e1 hu2
      clear e1 e2 e3 emm hb hu2 hcl
      go_wp2
      go_roundw
      case rel=>first|exact ⟨j+1,by omega,by go_num,by rw [E3.out];rfl,RP3,V3,RD3,hb3⟩|((repeat apply Exists.intro);refine ⟨?_,rfl⟩;exact ⟨j+1,by omega,by go_num,by rw [E3.out];rfl,RP3,V3,RD3,hb3⟩)
      case measure=>simp [intOf];omega
     ·have e1:mm=((u+1:Nat):Int)∧wid (Q.V j)=2:=by
       rw [emm]
       unfold mns wid
       rw [if_neg (fun h=>hb (.inl h)),if_neg (fun h=>hb (.inr h)),if_neg (fun h=>hb (.inl h)),if_neg (fun h=>hb (.inr h))]
       exact ⟨rfl,rfl⟩
      obtain ⟨rfl,e2⟩:=e1
      have e3:clm Q.V (j+1)=u+2:=by rw [EU2.out,e2]
      have E3:Hid (clm Q.V (j+1)=u+2):=e3
      obtain ⟨v,ev⟩:∃ v,v=u+1:=⟨_,rfl⟩
      rw [← ev]
      obtain ⟨hw,hm1,hm2⟩:=max_fr u v ev hu2
      have EV:Hid (v=u+1):=ev
      clear e2 e3 emm hb ev
      go_wp2
      go_roundw
      case rel=>first|exact ⟨j+1,by omega,by go_num,by rw [E3.out];have:=EV.out;exact congrArg _ (by omega),RP3,V3,RD3,hb3⟩|((repeat apply Exists.intro);refine ⟨?_,rfl⟩;exact ⟨j+1,by omega,by go_num,by rw [E3.out];have:=EV.out;exact congrArg _ (by omega),RP3,V3,RD3,hb3⟩)
      case measure=>simp [intOf];omega
    ·obtain rfl:j=P.vn:=by omega
     have hkI:¬ (P.vn:Int)<(P.vn:Int):=by omega
     go_wp2_with fail
     clear y5 hlt hj RP qP qPD
     obtain ⟨f,ef⟩:∃ f,f=clm Q.V P.vn:=⟨_,rfl⟩
     rw [← ef] at V HLA hcn ⊢
     clear ef
     go_loopw [18] (fun s wr=>∃ (i k:Nat),i≤es.length∧s = .int .i64 i∧f≤k∧Hid (Lai f Y H k (es.drop i) n)∧RY wr w.heap.size gY n (zn k Y) Wz∧Rw 39 wr bD #[.slice aA es.length cA,.slice aB es.length cB,.slice (some ⟨gC,0,none⟩) n n,.bool fK,.slice cK nK kK,.slice dK mK lK]∧Below w.heap.size w wr) (fun t _=>es.length-(intOf t).toNat)
     case atStart=>exact ⟨0,f,Nat.zero_le _,rfl,Nat.le_refl _,HLA,V,RD,hbr⟩
     case round =>
      clear V RD hbr HLA hkI
      obtain ⟨i,k,hil,rfl,hfk,HL,V,RD,hbr⟩:=hrel
      have y1:=(RD.cell 1).trans (show _=some (.slice aB es.length cB) from rfl)
      by_cases hi:i<es.length
      ·have hkI:(i:Int)<((es.length:Nat):Int):=by omega
       have hkI3:(i:Int)*3=((i*3:Nat):Int):=by omega
       obtain ⟨gB,pb,ab,nb,cb,db,mb,lb,egB,b0,b1,b2,GBi⟩:=(HBL.out.below hbr).at hi
       rw [egB] at y1
       have HC:Hid (LaiC f Y H k n i es (es.getD i ⟨[],0⟩)):=HL.out.at hi
       have HPE:Hid (PzE Y Wz (es.getD i ⟨[],0⟩)):=HPZ.out _ (getD_mem hi)
       have hz:=aI wr (.cells #[.bool pb,.slice ab nb cb,.slice db mb lb] 27)
       have RS:=Rw.new 27 wr #[.bool pb,.slice ab nb cb,.slice db mb lb]
       have V2:=V.below hz
       have RD2:=RD.below hz
       have hb2:=aF hbr hz
       have GS:GR _ 0 pb ab nb cb db mb lb (lfv (es.getD i ⟨[],0⟩) (zn k Y) 0) Wz:=(((GBi.mono (B':=0) (Nat.zero_le _)).below hz).val (lfv_zero _ _).symm).fit (lfv_sz HPE.out k (by omega))
       have qs:gY<wr.heap.size:=V.lt
       go_wp2_with fail
       clear V RD hbr HL hz y1 b0 b1 b2 GBi
       try rw [← egB]
       clear egB
       generalize wr.alloc (.cells #[.bool pb,.slice ab nb cb,.slice db mb lb] 27)=W1 at *
       obtain ⟨bS,ebS⟩:∃ x,x=wr.heap.size:=⟨_,rfl⟩
       rw [← ebS] at RS qs ⊢
       clear ebS
       go_loopw [20,21] (fun s20 s21 wr=>∃ (j:Nat),j≤n∧s21 = .int .i64 j∧s20 = .int .i64 (frv (es.getD i ⟨[],0⟩).l f j)∧Rw 27 wr bS #[.bool pb,.slice ab nb cb,.slice db mb lb]∧GR wr 0 pb ab nb cb db mb lb (lfv (es.getD i ⟨[],0⟩) (zn k Y) 0) Wz∧RY wr w.heap.size gY n (zn k Y) Wz∧Rw 39 wr bD #[.slice aA es.length cA,.slice aB es.length cB,.slice (some ⟨gC,0,none⟩) n n,.bool fK,.slice cK nK kK,.slice dK mK lK]∧Below w.heap.size w wr) (fun _ t _=>n-(intOf t).toNat)
       case atStart=>exact ⟨0,Nat.zero_le _,rfl,rfl,RS,GS,V2,RD2,hb2⟩
       case round =>
        clear RS GS V2 RD2 hb2
        obtain ⟨j,hjn,rfl,rfl,RS,GS,V,RD,hbr⟩:=hrel
        by_cases hjl:j<n
        ·have hkJ:(j:Int)<(n:Int):=by omega
         have d0:=(RD.cell 0).trans (show _=some (.slice aA es.length cA) from rfl);have d1:=(RD.cell 1).trans (show _=some (.slice aB es.length cB) from rfl);have d2:=(RD.cell 2).trans (show _=some (.slice (some ⟨gC,0,none⟩) n n) from rfl);have d3:=(RD.cell 3).trans (show _=some (.bool fK) from rfl);have d4:=(RD.cell 4).trans (show _=some (.slice cK nK kK) from rfl);have d5:=(RD.cell 5).trans (show _=some (.slice dK mK lK) from rfl)
         obtain ⟨fr,efr⟩:∃ x,x=frv (es.getD i ⟨[],0⟩).l f j:=⟨_,rfl⟩
         rw [← efr]
         have EFR:Hid (fr=frv (es.getD i ⟨[],0⟩).l f j):=efr
         clear efr
         go_wp2_with fail
         refine (uD i j wr (HAL.out.below hbr) hi hjl hS1 (by omega)).mono ?_
         clear d0 d1 d2 d3 d4 d5
         rintro e w5 ⟨f1,c1,n1,k1,d1,m1,l1,rfl,G1,h5⟩
         have hx5:=aI w5 (.cells #[.bool f1,.slice c1 n1 k1,.slice d1 m1 l1] 27)
         have N:=aQ w5 #[.bool f1,.slice c1 n1 k1,.slice d1 m1 l1] 27
         have n0:=N 0 _ rfl;have n1':=N 1 _ rfl;have n2:=N 2 _ rfl
         have RS5:=(RS.below h5).below hx5
         have GS5:=(GS.below h5).below hx5
         have V5:=(V.below h5).below hx5
         have RD5:=(RD.below h5).below hx5
         have hb5:=aF (aF hbr h5) hx5
         replace G1:=(G1.below hx5).fit (HSC.out i hi j)
         clear N RS GS V RD hbr h5 hx5
         by_cases hfj:f≤j
         ·have hfj1:(f:Int)≤(j:Int):=by omega
          go_wp2_with fail
          clear n0 n1' n2
          obtain ⟨t,et⟩:∃ t,t=(bV (es.getD i ⟨[],0⟩).l j).num.sign:=⟨_,rfl⟩
          refine (wQ t _ G1.tr (by omega) hSc1 et).mono ?_
          rintro e w6 ⟨rfl,h6⟩
          generalize w5.alloc (.cells #[.bool f1,.slice c1 n1 k1,.slice d1 m1 l1] 27)=w5' at *
          have RS6:=RS5.below h6
          have GS6:=GS5.below h6
          have V6:=V5.below h6
          have RD6:=RD5.below h6
          have hb6:=aF hb5 h6
          clear RS5 GS5 V5 RD5 hb5 h6 G1
          by_cases ht:t=0
          ·have e2:frv (es.getD i ⟨[],0⟩).l f (j+1)=fr:=by
            rw [EFR.out]
            show (if f≤j∧bV (es.getD i ⟨[],0⟩).l j≠0 then _ else _)=_
            rw [if_neg (fun h=>h.2 (Rat.num_eq_zero.1 (Int.sign_eq_zero_iff_zero.1 (by rw [← et];exact ht))))]
           have E2:Hid (frv (es.getD i ⟨[],0⟩).l f (j+1)=fr):=e2
           clear e2 et
           subst ht
           go_wp2
           go_roundw
           case rel=>first|exact ⟨j+1,by omega,by go_num,by rw [E2.out],RS6,GS6,V6,RD6,hb6⟩|((repeat apply Exists.intro);refine ⟨?_,rfl⟩;exact ⟨j+1,by omega,by go_num,by rw [E2.out],RS6,GS6,V6,RD6,hb6⟩)
           case measure=>simp [intOf];omega
          ·have e2:frv (es.getD i ⟨[],0⟩).l f (j+1)=(j:Nat):=by
            show (if f≤j∧bV (es.getD i ⟨[],0⟩).l j≠0 then _ else _)=_
            rw [if_pos ⟨hfj,fun h=>ht (by rw [et,h];rfl)⟩]
           have E2:Hid (frv (es.getD i ⟨[],0⟩).l f (j+1)=(j:Nat)):=e2
           clear e2 et
           go_wp2
           go_roundw
           case rel=>first|exact ⟨j+1,by omega,by go_num,by rw [E2.out],RS6,GS6,V6,RD6,hb6⟩|((repeat apply Exists.intro);refine ⟨?_,rfl⟩;exact ⟨j+1,by omega,by go_num,by rw [E2.out],RS6,GS6,V6,RD6,hb6⟩)
           case measure=>simp [intOf];omega
         ·have hfj1:¬ (f:Int)≤(j:Int):=by omega
          have e2:frv (es.getD i ⟨[],0⟩).l f (j+1)=fr:=by
           rw [EFR.out]
           show (if f≤j∧bV (es.getD i ⟨[],0⟩).l j≠0 then _ else _)=_
           rw [if_neg (fun h=>hfj h.1)]
          have E2:Hid (frv (es.getD i ⟨[],0⟩).l f (j+1)=fr):=e2
          clear e2
          go_wp2
          clear n0 n1' n2
          go_roundw
          case rel=>first|exact ⟨j+1,by omega,by go_num,by rw [E2.out],RS5,GS5,V5,RD5,hb5⟩|((repeat apply Exists.intro);refine ⟨?_,rfl⟩;exact ⟨j+1,by omega,by go_num,by rw [E2.out],RS5,GS5,V5,RD5,hb5⟩)
          case measure=>simp [intOf];omega
        ·obtain rfl:j=n:=by omega
         have hkJ:¬ (j:Int)<(j:Int):=by omega
         obtain ⟨fr,efr⟩:∃ x,x=frv (es.getD i ⟨[],0⟩).l f j:=⟨_,rfl⟩
         rw [← efr]
         have EFR:Hid (fr=frv (es.getD i ⟨[],0⟩).l f j):=efr
         clear efr
         go_wp2_with fail
         clear hjl hjn
         obtain ⟨wv,ewv⟩:∃ x,x=wr:=⟨_,rfl⟩
         subst ewv
         obtain ⟨n,en⟩:∃ n,n=j:=⟨_,rfl⟩
         subst en
         go_loopw [23] (fun s wr=>∃ (j:Nat) (fs:Bool) (cs:Option Addr) (ns ks:Nat) (ds:Option Addr) (ms ls:Nat),j≤n∧s = .int .i64 j∧Rw 27 wr bS #[.bool fs,.slice cs ns ks,.slice ds ms ls]∧GR wr 0 fs cs ns ks ds ms ls (lfv (es.getD i ⟨[],0⟩) (zn k Y) j) Wz∧RY wr w.heap.size gY n (zn k Y) Wz∧Rw 39 wr bD #[.slice aA es.length cA,.slice aB es.length cB,.slice (some ⟨gC,0,none⟩) n n,.bool fK,.slice cK nK kK,.slice dK mK lK]∧Below w.heap.size w wr) (fun t _=>n-(intOf t).toNat)
         case atStart=>exact ⟨0,_,_,_,_,_,_,_,Nat.zero_le _,rfl,RS,GS,V,RD,hbr⟩
         case round =>
          clear RS GS V RD hbr hkJ
          obtain ⟨j,fs,cs,ns,ks,ds,ms,ls,hjn,rfl,RS,GS,V,RD,hbr⟩:=hrel
          by_cases hjl:j<n
          ·have hkJ:(j:Int)<(n:Int):=by omega
           have hkJ3:(j:Int)*3=((j*3:Nat):Int):=by omega
           by_cases hjf:(j:Int)=fr
           ·have hy0:zn k Y j=0:=by
             have h0:=EFR.out
             rcases HC.out with ⟨l,s,e1,e2,e3,e4,e5,_⟩|⟨e1,_⟩
             ·rw [e1,xP e3 (jJ (y:=0) e2).2 hfk n e5] at h0
              exact if_neg (by omega)
             ·rw [uG e1] at h0
              omega
            have GN:=GS.val (lfv_skip (es.getD i ⟨[],0⟩) hy0).symm
            have HJF:Hid ((j:Int)=fr):=hjf
            clear hy0
            subst hjf
            go_wp2
            go_roundw
            case rel=>first|exact ⟨j+1,_,_,_,_,_,_,_,by omega,by go_num,RS,GN,V,RD,hbr⟩|((repeat apply Exists.intro);refine ⟨?_,rfl⟩;exact ⟨j+1,_,_,_,_,_,_,_,by omega,by go_num,RS,GN,V,RD,hbr⟩)
            case measure=>simp [intOf];omega
           ·obtain ⟨pY,aY,nY,cY,dY,mY,lY,q0,q1,q2,EYj⟩:=V.el j hjl
            go_wp2_with fail
            have HBX:∀ w',Below wr.heap.size wr w'→(w'.cell? ⟨bS,0,none⟩=some (.bool fs)∧w'.cell? ⟨bS,1,none⟩=some (.slice cs ns ks)∧w'.cell? ⟨bS,2,none⟩=some (.slice ds ms ls)∧w'.cell? ⟨bD,0,none⟩=some (.slice aA es.length cA)∧w'.cell? ⟨bD,1,none⟩=some (.slice aB es.length cB)∧w'.cell? ⟨bD,2,none⟩=some (.slice (some ⟨gC,0,none⟩) n n)∧w'.cell? ⟨bD,3,none⟩=some (.bool fK)∧w'.cell? ⟨bD,4,none⟩=some (.slice cK nK kK)∧w'.cell? ⟨bD,5,none⟩=some (.slice dK mK lK)∧w'.cell? ⟨gY,j*3,none⟩=some (.bool pY)∧w'.cell? ⟨gY,j*3+1,none⟩=some (.slice aY nY cY)∧w'.cell? ⟨gY,j*3+2,none⟩=some (.slice dY mY lY)):=fun w' h=>⟨((RS.below h).cell 0).trans rfl,((RS.below h).cell 1).trans rfl,((RS.below h).cell 2).trans rfl,((RD.below h).cell 0).trans rfl,((RD.below h).cell 1).trans rfl,((RD.below h).cell 2).trans rfl,((RD.below h).cell 3).trans rfl,((RD.below h).cell 4).trans rfl,((RD.below h).cell 5).trans rfl,aG h q0,aG h q1,aG h q2⟩
            clear q0 q1 q2
            refine wp_region_noPanic (aS 11 HBX (by as_aux_lemma=>kernel_rfl) ?_)
            have hc0:Below wr.heap.size wr wr.drew:=aK _
            generalize wr.drew=z0 at *
            refine wpAnyG.tT 0 (v:=.agg #[.bool fs,.slice cs ns ks,.slice ds ms ls]) (by decide) 11 (by as_aux_lemma=>kernel_rfl) (by rfl) ?y0 (HBX _ hc0) ?_
            case y0 =>
             rintro w' ⟨q0,q1,q2,q3,q4,q5,q6,q7,q8,q9,q10,q11⟩
             simp only [lgA,lgZ]
             go_simp
            simp only [lgA,lgZ,Act.put,lsA,lsZ,lsS]
            refine wpAnyG.tT 1 (v:=.agg #[.slice aA es.length cA,.slice aB es.length cB,.slice (some ⟨gC,0,none⟩) n n,.bool fK,.slice cK nK kK,.slice dK mK lK]) (by decide) 11 (by as_aux_lemma=>kernel_rfl) (by rfl) ?y1 (HBX _ hc0) ?_
            case y1 =>
             rintro w' ⟨q0,q1,q2,q3,q4,q5,q6,q7,q8,q9,q10,q11⟩
             simp only [lgA,lgZ,lgS]
             go_simp
            simp only [lgA,lgZ,lgS,Act.put,lsA,lsZ,lsS]
            refine wpAnyG.tT 2 (v:=.int .i64 (i:Nat)) (by decide) 11 (by as_aux_lemma=>kernel_rfl) (by rfl) ?y2 (HBX _ hc0) ?_
            case y2 =>
             rintro w' ⟨q0,q1,q2,q3,q4,q5,q6,q7,q8,q9,q10,q11⟩
             simp only [lgA,lgZ,lgS]
             go_simp
            simp only [lgA,lgZ,lgS,Act.put,lsA,lsZ,lsS]
            refine wpAnyG.tT 3 (v:=.int .i64 (j:Nat)) (by decide) 11 (by as_aux_lemma=>kernel_rfl) (by rfl) ?y3 (HBX _ hc0) ?_
            case y3 =>
             rintro w' ⟨q0,q1,q2,q3,q4,q5,q6,q7,q8,q9,q10,q11⟩
             simp only [lgA,lgZ,lgS]
             go_simp
            simp only [lgA,lgZ,lgS,Act.put,lsA,lsZ,lsS]
            refine wpAnyG.tT 5 (v:=.slice (some ⟨gY,0,none⟩) n n) (by decide) 11 (by as_aux_lemma=>kernel_rfl) (by rfl) ?y5 (HBX _ hc0) ?_
            case y5 =>
             rintro w' ⟨q0,q1,q2,q3,q4,q5,q6,q7,q8,q9,q10,q11⟩
             simp only [lgA,lgZ,lgS]
             go_simp
            simp only [lgA,lgZ,lgS,Act.put,lsA,lsZ,lsS]
            refine wpAnyG.tT 6 (v:=.int .i64 (j:Nat)) (by decide) 11 (by as_aux_lemma=>kernel_rfl) (by rfl) ?y6 (HBX _ hc0) ?_
            case y6 =>
             rintro w' ⟨q0,q1,q2,q3,q4,q5,q6,q7,q8,q9,q10,q11⟩
             simp only [lgA,lgZ,lgS]
             go_simp
            simp only [lgA,lgZ,lgS,Act.put,lsA,lsZ,lsS]
            refine wpAnyG.tT 7 (v:=.pointer (some ⟨gY,j*3,none⟩)) (by decide) 11 (by as_aux_lemma=>kernel_rfl) (by rfl) ?y7 (HBX _ hc0) ?_
            case y7 =>
             rintro w' ⟨q0,q1,q2,q3,q4,q5,q6,q7,q8,q9,q10,q11⟩
             simp only [lgA,lgZ,lgS]
             go_simp
            simp only [lgA,lgZ,lgS,Act.put,lsA,lsZ,lsS]
            refine wpAnyG.tT 8 (v:=.agg #[.bool pY,.slice aY nY cY,.slice dY mY lY]) (by decide) 11 (by as_aux_lemma=>kernel_rfl) (by rfl) ?y8 (HBX _ hc0) ?_
            case y8 =>
             rintro w' ⟨q0,q1,q2,q3,q4,q5,q6,q7,q8,q9,q10,q11⟩
             simp only [lgA,lgZ,lgS]
             go_simp
            simp only [lgA,lgZ,lgS,Act.put,lsA,lsZ,lsS]
            refine wpAnyG.one 4 (by as_aux_lemma=>kernel_rfl) (by decide) (by rfl) (fun K hK=>?_)
            simp only [lgA,lgZ,lgS]
            go_simp
            refine (uD i j z0 (HAL.out.below (aF hbr hc0)) hi hjl hS1 (by omega)).mono ?_
            rintro e z1 ⟨f1,c1,n1,k1,d1,m1,l1,rfl,G1,hk1⟩
            have hc1:Below wr.heap.size wr z1:=aF hc0 hk1
            dsimp only
            refine hK _ _ ⟨fun _=>HBX _ hc1,fun _=>trivial⟩ ?_
            clear hK K
            refine wpAnyG.one 9 (by as_aux_lemma=>kernel_rfl) (by decide) (by rfl) (fun K hK=>?_)
            simp only [lgA,lgZ,lgS]
            go_simp
            refine (mulQ z1 (G1.fit (HSC.out i hi j)).tr (EYj.tr.below hc1) (by omega) hSc1 (by omega) (hT.below (aF hbr hc1))).mono ?_
            rintro e z2 ⟨f3,c3,n3,k3,d3,m3,l3,rfl,G3,hk2⟩
            have hc2:Below wr.heap.size wr z2:=aF hc1 hk2
            dsimp only
            refine hK _ _ ⟨fun _=>HBX _ hc2,fun _=>trivial⟩ ?_
            clear hK K
            refine wpAnyG.one 10 (by as_aux_lemma=>kernel_rfl) (by decide) (by rfl) (fun K hK=>?_)
            simp only [lgA,lgZ,lgS]
            go_simp
            refine (jB z2 (GS.tr.below hc2) G3.tr (by omega) (by omega) (by omega) (hT.below (aF hbr hc2))).mono ?_
            rintro e z3 ⟨f4,c4,n4,k4,d4,m4,l4,rfl,G4,hk3⟩
            have hc3:Below wr.heap.size wr z3:=aF hc2 hk3
            dsimp only
            refine hK _ _ ⟨fun _=>HBX _ hc3,fun _=>trivial⟩ ?_
            clear hK K
            refine wpAnyG.one 11 (by as_aux_lemma=>kernel_rfl) (by decide) (by rfl) (fun K hK=>?_)
            simp only [lgA,lgZ,lgS]
            have RS4:=RS.below hc3
            have t0:=(RS4.cell 0).trans (show _=some (.bool fs) from rfl);have t1:=(RS4.cell 1).trans (show _=some (.slice cs ns ks) from rfl);have t2:=(RS4.cell 2).trans (show _=some (.slice ds ms ls) from rfl)
            have v0:=RS4.frozen 0;have v1:=RS4.frozen 1;have v2:=RS4.frozen 2
            go_simp
            refine hK _ _ ⟨fun h=>absurd h (by decide),fun _=>trivial⟩ ?_
            clear t0 t1 t2 v0 v1 v2
            clear hK K
            refine wpAnyG.done (by as_aux_lemma=>kernel_rfl) (NoPanic.normal ?_)
            obtain ⟨RN,ON⟩:=(RS.below hc3).set3 (.bool f4) (.slice c4 n4 k4) (.slice d4 m4 l4)
            have nwS:=(RS.below hc3).noW (by decide)
            have GN:GR (((z3.setCell ⟨bS,0,none⟩ (.bool f4)).setCell ⟨bS,1,none⟩ (.slice c4 n4 k4)).setCell ⟨bS,2,none⟩ (.slice d4 m4 l4)) 0 f4 c4 n4 k4 d4 m4 l4 (lfv (es.getD i ⟨[],0⟩) (zn k Y) (j+1)) Wz:=(((G4.mono (B':=0) (Nat.zero_le _)).keep (row:=some bS) nwS ON.grown).val (zU _ _ j)).fit (lfv_sz HPE.out k (by omega))
            have VN:=(V.below hc3).off ON nwS (by omega) (by omega)
            have RDN:=(RD.below hc3).off ON (by omega)
            have hbN:Below w.heap.size w (((z3.setCell ⟨bS,0,none⟩ (.bool f4)).setCell ⟨bS,1,none⟩ (.slice c4 n4 k4)).setCell ⟨bS,2,none⟩ (.slice d4 m4 l4)):=(aF hbr hc3).trans (ON.below (by omega))
            clear HBX hc0 hc1 hc2 hc3 hk1 hk2 hk3 G1 G3 G4 ON RS GS V RD hbr EYj nwS
            generalize ((z3.setCell ⟨bS,0,none⟩ (.bool f4)).setCell ⟨bS,1,none⟩ (.slice c4 n4 k4)).setCell ⟨bS,2,none⟩ (.slice d4 m4 l4)=w9 at *
            go_wp2
            go_roundw
            case rel=>first|exact ⟨j+1,_,_,_,_,_,_,_,by omega,by go_num,RN,GN,VN,RDN,hbN⟩|((repeat apply Exists.intro);refine ⟨?_,rfl⟩;exact ⟨j+1,_,_,_,_,_,_,_,by omega,by go_num,RN,GN,VN,RDN,hbN⟩)
            case measure=>simp [intOf];omega
          ·obtain rfl:j=n:=by omega
           have hkJ:¬ (j:Int)<(j:Int):=by omega
           rcases HC.out with ⟨l,s,e1,e2,e3,e4,e5,hLN⟩|⟨e1,hLN⟩
           ·have hfr:fr=(k:Nat):=by rw [EFR.out,e1];exact xP e3 (jJ (y:=0) e2).2 hfk j e5
            have hk0:(0:Int)≤((k:Nat):Int):=by omega
            have hkk:(k:Int)<(j:Int):=by omega
            have hk3:(k:Int)*3=((k*3:Nat):Int):=by omega
            have GS2:=GS.val (lfv_end e1 e3 e4 e5)
            have HSP:Hid (bV (es.getD i ⟨[],0⟩).l k=s):=by
             show bV (es.getD i ⟨[],0⟩).l k=s
             rw [e1,iO,if_pos rfl]
            have HLN:Hid (Lai f Y H (k+1) (es.drop (i+1)) j):=hLN
            have HE2:Hid (s=1∨s = -1):=e2
            have HKN:k<j:=e5
            clear hLN e1 e2 e3 e4 e5 GS HC EFR
            subst hfr
            have d0:=(RD.cell 0).trans (show _=some (.slice aA es.length cA) from rfl);have d1:=(RD.cell 1).trans (show _=some (.slice aB es.length cB) from rfl);have d2:=(RD.cell 2).trans (show _=some (.slice (some ⟨gC,0,none⟩) j j) from rfl);have d3:=(RD.cell 3).trans (show _=some (.bool fK) from rfl);have d4:=(RD.cell 4).trans (show _=some (.slice cK nK kK) from rfl);have d5:=(RD.cell 5).trans (show _=some (.slice dK mK lK) from rfl)
            go_wp2_with fail
            clear d0 d1 d2 d3 d4 d5
            have HBX:∀ w',Below wr.heap.size wr w'→(w'.cell? ⟨bS,0,none⟩=some (.bool fs)∧w'.cell? ⟨bS,1,none⟩=some (.slice cs ns ks)∧w'.cell? ⟨bS,2,none⟩=some (.slice ds ms ls)∧w'.cell? ⟨bD,0,none⟩=some (.slice aA es.length cA)∧w'.cell? ⟨bD,1,none⟩=some (.slice aB es.length cB)∧w'.cell? ⟨bD,2,none⟩=some (.slice (some ⟨gC,0,none⟩) j j)∧w'.cell? ⟨bD,3,none⟩=some (.bool fK)∧w'.cell? ⟨bD,4,none⟩=some (.slice cK nK kK)∧w'.cell? ⟨bD,5,none⟩=some (.slice dK mK lK)):=fun w' h=>⟨((RS.below h).cell 0).trans rfl,((RS.below h).cell 1).trans rfl,((RS.below h).cell 2).trans rfl,((RD.below h).cell 0).trans rfl,((RD.below h).cell 1).trans rfl,((RD.below h).cell 2).trans rfl,((RD.below h).cell 3).trans rfl,((RD.below h).cell 4).trans rfl,((RD.below h).cell 5).trans rfl⟩
            refine xA (fun a0 a' w'=>∃ (u0 u1 u2 u3 u4 u5 u6 u7:Value) (RW:Nat) (f1:Bool) (c1:Option Addr) (n1 k1:Nat) (d1:Option Addr) (m1 l1:Nat),a'=(((((((((((a0.put (some 190) u0).put (some 191) u1).put (some 192) u2).put (some 193) u3).put (some 194) u4).put (some 195) u5).put (some 189) u6).put (some 196) u7).put (some 197) (.nilIface)).put (some 24) (.pointer (some ⟨RW,0,none⟩))).put (some 25) (.nilIface))∧Rw 27 w' RW #[.bool f1,.slice c1 n1 k1,.slice d1 m1 l1]∧GR w' 0 f1 c1 n1 k1 d1 m1 l1 (Y k) Wz∧wr.heap.size≤RW∧Below wr.heap.size wr w') ?_ ?_
            ·refine wp_region_noPanic (aS 11 HBX (by as_aux_lemma=>kernel_rfl) ?_)
             have hc0:Below wr.heap.size wr wr.drew:=aK _
             generalize wr.drew=z0 at *
             refine wpAnyG.tT 0 (v:=.agg #[.bool fs,.slice cs ns ks,.slice ds ms ls]) (by decide) 11 (by as_aux_lemma=>kernel_rfl) (by rfl) ?y0 (HBX _ hc0) ?_
             case y0 =>
              rintro w' ⟨q0,q1,q2,q3,q4,q5,q6,q7,q8⟩
              simp only [lgA,lgZ]
              go_simp
             simp only [lgA,lgZ,Act.put,lsA,lsZ,lsS]
             refine wpAnyG.tT 1 (v:=.agg #[.slice aA es.length cA,.slice aB es.length cB,.slice (some ⟨gC,0,none⟩) j j,.bool fK,.slice cK nK kK,.slice dK mK lK]) (by decide) 11 (by as_aux_lemma=>kernel_rfl) (by rfl) ?y1 (HBX _ hc0) ?_
             case y1 =>
              rintro w' ⟨q0,q1,q2,q3,q4,q5,q6,q7,q8⟩
              simp only [lgA,lgZ,lgS]
              go_simp
             simp only [lgA,lgZ,lgS,Act.put,lsA,lsZ,lsS]
             refine wpAnyG.tT 2 (v:=.int .i64 (i:Nat)) (by decide) 11 (by as_aux_lemma=>kernel_rfl) (by rfl) ?y2 (HBX _ hc0) ?_
             case y2 =>
              rintro w' ⟨q0,q1,q2,q3,q4,q5,q6,q7,q8⟩
              simp only [lgA,lgZ,lgS]
              go_simp
             simp only [lgA,lgZ,lgS,Act.put,lsA,lsZ,lsS]
             refine wpAnyG.tT 3 (v:=.int .i64 (k:Nat)) (by decide) 11 (by as_aux_lemma=>kernel_rfl) (by rfl) ?y3 (HBX _ hc0) ?_
             case y3 =>
              rintro w' ⟨q0,q1,q2,q3,q4,q5,q6,q7,q8⟩
              simp only [lgA,lgZ,lgS]
              go_simp
             simp only [lgA,lgZ,lgS,Act.put,lsA,lsZ,lsS]
             refine wpAnyG.two 4 9 (by as_aux_lemma=>kernel_rfl) (by decide) (by decide) (by rfl) (by rfl) (fun K hK=>?_) (fun K hK=>?_)
             ·simp only [lgA,lgZ,lgS]
              go_simp
              refine (uD i k z0 (HAL.out.below (aF hbr hc0)) hi HKN hS1 (by omega)).mono ?_
              rintro e z1 ⟨f1,c1,n1,k1,d1,m1,l1,rfl,G0,hk⟩
              have G1:=(G0.fit (HSC.out i hi k)).val HSP.out
              have hc1:=aF hc0 hk
              dsimp only
              refine hK _ _ ⟨fun _=>HBX _ hc1,fun _=>trivial⟩ ?_
              clear hK K hk G0
              refine wpAnyG.two 5 9 (by as_aux_lemma=>kernel_rfl) (by decide) (by decide) (by rfl) (by rfl) (fun K hK=>?_) (fun K hK=>?_)
              ·simp only [lgA,lgZ,lgS]
               go_simp
               refine (quoQ z1 (GS2.tr.below hc1) G1.tr (by omega) (by omega) hSc1 (jJ (y:=0) HE2.out).2 (hT.below (aF hbr hc1))).mono ?_
               rintro e z2 ⟨f2,c2,n2,k2,d2,m2,l2,rfl,G0,hk⟩
               have G2:=((G0.mono (B':=0) (Nat.zero_le _)).val (jJ HE2.out).1).fit (HYW.out k)
               have hc2:=aF hc1 hk
               dsimp only
               refine hK _ _ ⟨fun _=>HBX _ hc2,fun _=>trivial⟩ ?_
               clear hK K hk G0
               refine wpAnyG.tT 6 (v:=.tuple #[.agg #[.bool f2,.slice c2 n2 k2,.slice d2 m2 l2],.nilIface]) (by decide) 11 (by as_aux_lemma=>kernel_rfl) (by rfl) ?y6 (HBX _ hc2) ?_
               case y6 =>
                rintro w' ⟨q0,q1,q2,q3,q4,q5,q6,q7,q8⟩
                simp only [lgA,lgZ,lgS]
                go_simp
               simp only [lgA,lgZ,lgS,Act.put,lsA,lsZ,lsS]
               refine wpAnyG.tT 7 (v:=.agg #[.bool f2,.slice c2 n2 k2,.slice d2 m2 l2]) (by decide) 11 (by as_aux_lemma=>kernel_rfl) (by rfl) ?y7 (HBX _ hc2) ?_
               case y7 =>
                rintro w' ⟨q0,q1,q2,q3,q4,q5,q6,q7,q8⟩
                simp only [lgA,lgZ,lgS]
                go_simp
               simp only [lgA,lgZ,lgS,Act.put,lsA,lsZ,lsS]
               refine wpAnyG.tT 8 (v:=.nilIface) (by decide) 11 (by as_aux_lemma=>kernel_rfl) (by rfl) ?y8 (HBX _ hc2) ?_
               case y8 =>
                rintro w' ⟨q0,q1,q2,q3,q4,q5,q6,q7,q8⟩
                simp only [lgA,lgZ,lgS]
                go_simp
               simp only [lgA,lgZ,lgS,Act.put,lsA,lsZ,lsS]
               refine wpAnyG.one 9 (by as_aux_lemma=>kernel_rfl) (by decide) (by rfl) (fun K hK=>?_)
               simp only [lgA,lgZ,lgS]
               go_simp
               have hx:=aI z2 (.cells #[.bool false,.slice none 0 0,.slice none 0 0] 27)
               have VA3:=Rw.new 27 z2 #[.bool false,.slice none 0 0,.slice none 0 0]
               have hR0:wr.heap.size≤z2.heap.size:=hc2.size
               have hc3:=aF hc2 hx
               have G3:=G2.below hx
               refine hK _ _ ⟨fun _=>HBX _ hc3,fun _=>trivial⟩ ?_
               clear hK K hx
               generalize z2.alloc (.cells #[.bool false,.slice none 0 0,.slice none 0 0] 27)=z3 at *
               refine wpAnyG.one 10 (by as_aux_lemma=>kernel_rfl) (by decide) (by rfl) (fun K hK=>?_)
               have t0:=(VA3.cell 0).trans (show _=some (.bool false) from rfl);have t1:=(VA3.cell 1).trans (show _=some (.slice none 0 0) from rfl);have t2:=(VA3.cell 2).trans (show _=some (.slice none 0 0) from rfl)
               have v0:=VA3.frozen 0;have v1:=VA3.frozen 1;have v2:=VA3.frozen 2
               simp only [lgA,lgZ,lgS]
               go_simp
               obtain ⟨VN,ON⟩:=VA3.set3 (.bool f2) (.slice c2 n2 k2) (.slice d2 m2 l2)
               have GN:=G3.keep (row:=some z2.heap.size) (VA3.noW (by decide)) ON.grown
               refine hK _ _ ⟨fun _=>HBX _ (hc3.trans (ON.below hR0)),fun _=>trivial⟩ ?_
               clear hK K t0 t1 t2 v0 v1 v2
               refine wpAnyG.one 11 (by as_aux_lemma=>kernel_rfl) (by decide) (by rfl) (fun K hK=>?_)
               simp only [lgA,lgZ,lgS]
               go_simp
               refine hK _ _ ⟨fun h=>absurd h (by decide),fun _=>trivial⟩ ?_
               clear hK K
               refine wpAnyG.done (by as_aux_lemma=>kernel_rfl) (NoPanic.normal ?_)
               exact ⟨rfl,_,_,_,_,_,_,_,_,z2.heap.size,f2,c2,n2,k2,d2,m2,l2,rfl,VN,GN,hR0,hc3.trans (ON.below hR0)⟩
              ·simp only [lgA,lgZ,lgS]
               go_simp
               have hx:=aI z1 (.cells #[.bool false,.slice none 0 0,.slice none 0 0] 27)
               have VA2:=Rw.new 27 z1 #[.bool false,.slice none 0 0,.slice none 0 0]
               have hR0:wr.heap.size≤z1.heap.size:=hc1.size
               have hc2:=aF hc1 hx
               have G2:=G1.below hx
               refine hK _ _ ⟨fun _=>HBX _ hc2,fun _=>trivial⟩ ?_
               clear hK K hx
               generalize z1.alloc (.cells #[.bool false,.slice none 0 0,.slice none 0 0] 27)=z2 at *
               refine wpAnyG.one 5 (by as_aux_lemma=>kernel_rfl) (by decide) (by rfl) (fun K hK=>?_)
               simp only [lgA,lgZ,lgS]
               go_simp
               refine (quoQ z2 (GS2.tr.below hc2) G2.tr (by omega) (by omega) hSc1 (jJ (y:=0) HE2.out).2 (hT.below (aF hbr hc2))).mono ?_
               rintro e z3 ⟨f2,c2,n2,k2,d2,m2,l2,rfl,G0,hk⟩
               have G3:=((G0.mono (B':=0) (Nat.zero_le _)).val (jJ HE2.out).1).fit (HYW.out k)
               have hc3:=aF hc2 hk
               have VA3:=VA2.below hk
               dsimp only
               refine hK _ _ ⟨fun _=>HBX _ hc3,fun _=>trivial⟩ ?_
               clear hK K hk G0
               refine wpAnyG.tT 6 (v:=.tuple #[.agg #[.bool f2,.slice c2 n2 k2,.slice d2 m2 l2],.nilIface]) (by decide) 11 (by as_aux_lemma=>kernel_rfl) (by rfl) ?y6 (HBX _ hc3) ?_
               case y6 =>
                rintro w' ⟨q0,q1,q2,q3,q4,q5,q6,q7,q8⟩
                simp only [lgA,lgZ,lgS]
                go_simp
               simp only [lgA,lgZ,lgS,Act.put,lsA,lsZ,lsS]
               refine wpAnyG.tT 7 (v:=.agg #[.bool f2,.slice c2 n2 k2,.slice d2 m2 l2]) (by decide) 11 (by as_aux_lemma=>kernel_rfl) (by rfl) ?y7 (HBX _ hc3) ?_
               case y7 =>
                rintro w' ⟨q0,q1,q2,q3,q4,q5,q6,q7,q8⟩
                simp only [lgA,lgZ,lgS]
                go_simp
               simp only [lgA,lgZ,lgS,Act.put,lsA,lsZ,lsS]
               refine wpAnyG.tT 8 (v:=.nilIface) (by decide) 11 (by as_aux_lemma=>kernel_rfl) (by rfl) ?y8 (HBX _ hc3) ?_
               case y8 =>
                rintro w' ⟨q0,q1,q2,q3,q4,q5,q6,q7,q8⟩
                simp only [lgA,lgZ,lgS]
                go_simp
               simp only [lgA,lgZ,lgS,Act.put,lsA,lsZ,lsS]
               refine wpAnyG.one 10 (by as_aux_lemma=>kernel_rfl) (by decide) (by rfl) (fun K hK=>?_)
               have t0:=(VA3.cell 0).trans (show _=some (.bool false) from rfl);have t1:=(VA3.cell 1).trans (show _=some (.slice none 0 0) from rfl);have t2:=(VA3.cell 2).trans (show _=some (.slice none 0 0) from rfl)
               have v0:=VA3.frozen 0;have v1:=VA3.frozen 1;have v2:=VA3.frozen 2
               simp only [lgA,lgZ,lgS]
               go_simp
               obtain ⟨VN,ON⟩:=VA3.set3 (.bool f2) (.slice c2 n2 k2) (.slice d2 m2 l2)
               have GN:=G3.keep (row:=some z1.heap.size) (VA3.noW (by decide)) ON.grown
               refine hK _ _ ⟨fun _=>HBX _ (hc3.trans (ON.below hR0)),fun _=>trivial⟩ ?_
               clear hK K t0 t1 t2 v0 v1 v2
               refine wpAnyG.one 11 (by as_aux_lemma=>kernel_rfl) (by decide) (by rfl) (fun K hK=>?_)
               simp only [lgA,lgZ,lgS]
               go_simp
               refine hK _ _ ⟨fun h=>absurd h (by decide),fun _=>trivial⟩ ?_
               clear hK K
               refine wpAnyG.done (by as_aux_lemma=>kernel_rfl) (NoPanic.normal ?_)
               exact ⟨rfl,_,_,_,_,_,_,_,_,z1.heap.size,f2,c2,n2,k2,d2,m2,l2,rfl,VN,GN,hR0,hc3.trans (ON.below hR0)⟩
             ·simp only [lgA,lgZ,lgS]
              go_simp
              have hx:=aI z0 (.cells #[.bool false,.slice none 0 0,.slice none 0 0] 27)
              have VA1:=Rw.new 27 z0 #[.bool false,.slice none 0 0,.slice none 0 0]
              have hR0:wr.heap.size≤z0.heap.size:=hc0.size
              have hc1:=aF hc0 hx
              refine hK _ _ ⟨fun _=>HBX _ hc1,fun _=>trivial⟩ ?_
              clear hK K hx
              generalize z0.alloc (.cells #[.bool false,.slice none 0 0,.slice none 0 0] 27)=z1 at *
              refine wpAnyG.one 4 (by as_aux_lemma=>kernel_rfl) (by decide) (by rfl) (fun K hK=>?_)
              simp only [lgA,lgZ,lgS]
              go_simp
              refine (uD i k z1 (HAL.out.below (aF hbr hc1)) hi HKN hS1 (by omega)).mono ?_
              rintro e z2 ⟨f1,c1,n1,k1,d1,m1,l1,rfl,G0,hk⟩
              have G2:=(G0.fit (HSC.out i hi k)).val HSP.out
              have hc2:=aF hc1 hk
              have VA2:=VA1.below hk
              dsimp only
              refine hK _ _ ⟨fun _=>HBX _ hc2,fun _=>trivial⟩ ?_
              clear hK K hk G0
              refine wpAnyG.one 5 (by as_aux_lemma=>kernel_rfl) (by decide) (by rfl) (fun K hK=>?_)
              simp only [lgA,lgZ,lgS]
              go_simp
              refine (quoQ z2 (GS2.tr.below hc2) G2.tr (by omega) (by omega) hSc1 (jJ (y:=0) HE2.out).2 (hT.below (aF hbr hc2))).mono ?_
              rintro e z3 ⟨f2,c2,n2,k2,d2,m2,l2,rfl,G0,hk⟩
              have G3:=((G0.mono (B':=0) (Nat.zero_le _)).val (jJ HE2.out).1).fit (HYW.out k)
              have hc3:=aF hc2 hk
              have VA3:=VA2.below hk
              dsimp only
              refine hK _ _ ⟨fun _=>HBX _ hc3,fun _=>trivial⟩ ?_
              clear hK K hk G0
              refine wpAnyG.tT 6 (v:=.tuple #[.agg #[.bool f2,.slice c2 n2 k2,.slice d2 m2 l2],.nilIface]) (by decide) 11 (by as_aux_lemma=>kernel_rfl) (by rfl) ?y6 (HBX _ hc3) ?_
              case y6 =>
               rintro w' ⟨q0,q1,q2,q3,q4,q5,q6,q7,q8⟩
               simp only [lgA,lgZ,lgS]
               go_simp
              simp only [lgA,lgZ,lgS,Act.put,lsA,lsZ,lsS]
              refine wpAnyG.tT 7 (v:=.agg #[.bool f2,.slice c2 n2 k2,.slice d2 m2 l2]) (by decide) 11 (by as_aux_lemma=>kernel_rfl) (by rfl) ?y7 (HBX _ hc3) ?_
              case y7 =>
               rintro w' ⟨q0,q1,q2,q3,q4,q5,q6,q7,q8⟩
               simp only [lgA,lgZ,lgS]
               go_simp
              simp only [lgA,lgZ,lgS,Act.put,lsA,lsZ,lsS]
              refine wpAnyG.tT 8 (v:=.nilIface) (by decide) 11 (by as_aux_lemma=>kernel_rfl) (by rfl) ?y8 (HBX _ hc3) ?_
              case y8 =>
               rintro w' ⟨q0,q1,q2,q3,q4,q5,q6,q7,q8⟩
               simp only [lgA,lgZ,lgS]
               go_simp
              simp only [lgA,lgZ,lgS,Act.put,lsA,lsZ,lsS]
              refine wpAnyG.one 10 (by as_aux_lemma=>kernel_rfl) (by decide) (by rfl) (fun K hK=>?_)
              have t0:=(VA3.cell 0).trans (show _=some (.bool false) from rfl);have t1:=(VA3.cell 1).trans (show _=some (.slice none 0 0) from rfl);have t2:=(VA3.cell 2).trans (show _=some (.slice none 0 0) from rfl)
              have v0:=VA3.frozen 0;have v1:=VA3.frozen 1;have v2:=VA3.frozen 2
              simp only [lgA,lgZ,lgS]
              go_simp
              obtain ⟨VN,ON⟩:=VA3.set3 (.bool f2) (.slice c2 n2 k2) (.slice d2 m2 l2)
              have GN:=G3.keep (row:=some z0.heap.size) (VA3.noW (by decide)) ON.grown
              refine hK _ _ ⟨fun _=>HBX _ (hc3.trans (ON.below hR0)),fun _=>trivial⟩ ?_
              clear hK K t0 t1 t2 v0 v1 v2
              refine wpAnyG.one 11 (by as_aux_lemma=>kernel_rfl) (by decide) (by rfl) (fun K hK=>?_)
              simp only [lgA,lgZ,lgS]
              go_simp
              refine hK _ _ ⟨fun h=>absurd h (by decide),fun _=>trivial⟩ ?_
              clear hK K
              refine wpAnyG.done (by as_aux_lemma=>kernel_rfl) (NoPanic.normal ?_)
              exact ⟨rfl,_,_,_,_,_,_,_,_,z0.heap.size,f2,c2,n2,k2,d2,m2,l2,rfl,VN,GN,hR0,hc3.trans (ON.below hR0)⟩
            rintro a9 w9 ⟨u0,u1,u2,u3,u4,u5,u6,u7,RW,f1,c1,n1,k1,d1,m1,l1,rfl,RQ,GQ,hRW,hk9⟩
            have V9:=V.below hk9
            have RD9:=RD.below hk9
            have hb9:=aF hbr hk9
            clear V RD hbr hk9 HBX RS GS2
            have t0:=(RQ.cell 0).trans (show _=some (.bool f1) from rfl);have t1:=(RQ.cell 1).trans (show _=some (.slice c1 n1 k1) from rfl);have t2:=(RQ.cell 2).trans (show _=some (.slice d1 m1 l1) from rfl)
            obtain ⟨x0,x1,x2,c3',c4',c5',c6',c7',c8'⟩:=V9.three (i:=k) HKN
            obtain ⟨VN,ON⟩:=V9.put (i:=k) (Y:=zn (k+1) Y) (r:=Y k) HKN (.inl GQ) (pF (c:=k) (i:=k) (fun q h1 h2 h3=>by omega) (Nat.le_refl _) (Nat.lt_succ_self _) _)
            have RDN:=RD9.off ON (by omega)
            have hbN:Below w.heap.size w _:=hb9.trans (ON.below (by omega))
            clear V9 RD9 hb9 ON GQ RQ
            go_wp2
            clear c3' c4' c5' c6' c7' c8' t0 t1 t2
            go_roundw
            case rel=>first|exact ⟨i+1,k+1,by omega,by go_num,by omega,HLN,VN,RDN,hbN⟩|((repeat apply Exists.intro);refine ⟨?_,rfl⟩;exact ⟨i+1,k+1,by omega,by go_num,by omega,HLN,VN,RDN,hbN⟩)
            case measure=>simp [intOf];omega
           ·have hfr:fr = -1:=by rw [EFR.out];exact uG e1 j
            have hk0:¬ (0:Int)≤(-1:Int):=by omega
            have HLN:Hid (Lai f Y H k (es.drop (i+1)) j):=hLN
            clear hLN e1 GS HC EFR
            subst hfr
            go_wp2
            go_roundw
            case rel=>first|exact ⟨i+1,k,by omega,by go_num,hfk,HLN,V,RD,hbr⟩|((repeat apply Exists.intro);refine ⟨?_,rfl⟩;exact ⟨i+1,k,by omega,by go_num,hfk,HLN,V,RD,hbr⟩)
            case measure=>simp [intOf];omega
      ·obtain rfl:i=es.length:=by omega
       have hkI:¬ ((es.length:Nat):Int)<((es.length:Nat):Int):=by omega
       have hkn:k=n:=by
        have h:=HL.out
        rw [List.drop_length] at h
        exact h
       have VQ:=(V.congr (Y:=Y) fun q hq=>if_pos (by omega)).lq
       go_wp2
       go_ret
       exact ⟨gY,rfl,VQ,hbr⟩
end Go.Proofs.YtmeimjakdheidaaGreatDoor
