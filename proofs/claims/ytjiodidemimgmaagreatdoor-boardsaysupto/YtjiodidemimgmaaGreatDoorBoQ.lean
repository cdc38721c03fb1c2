import Derived.Test.YtjiodidemimgmaaGreatDoorBoP
namespace Go.Proofs.YtjiodidemimgmaaGreatDoor
open Go.RowKit
set_option maxRecDepth 100000 in
set_option maxHeartbeats 8000000 in
theorem atF {B S:Nat} {va:Option Addr} {n vc:Nat} {l:List (Nat × Rat)} (k:Int) (w:World) (hL:LnE w B (.slice va n vc) l S) (hR:Rise l) (hn:l.length≤100000000) :
  ∃ p a na ca d nd cd,NZ w p a na ca d nd cd (latI l k) S∧∀ w',Below w.heap.size w w'→Calls Tryz.prog 35 #[.slice va n vc,.int .i64 k] w' fun e w''=>e = .returned (.agg #[.bool p,.slice a na ca,.slice d nd cd])∧Below w'.heap.size w' w'':=by
 have HN:Hid (n = l.length):=by
  obtain ⟨a',c',e,_⟩:=hL.form
  simp only [Value.slice.injEq] at e
  exact e.2.1
 have HR:Hid (Rise l):=hR
 by_cases hin:∃ (i:Nat) (x:Nat × Rat),l[i]? = some x∧(x.1:Int) = k
 ·obtain ⟨i,x,hx,hk⟩:=hin
  obtain ⟨g,p,b,nb,cb,d,nd,cd,hva,y0,y1,y2,y3,G⟩:=hL.get hx
  subst hva
  refine ⟨p,b,nb,cb,d,nd,cd,.inr (by rw [latI_at hR hx hk];exact G),fun w' hw=>?_⟩
  replace y1:=kept_c hw y1
  replace y2:=kept_c hw y2
  replace y3:=kept_c hw y3
  have R0:=var3_new w' (.bool false) (.slice none 0 0) (.slice none 0 0) 29
  have hb0:=bel_d0 w' (.cells #[.bool false,.slice none 0 0,.slice none 0 0] 29)
  have hL0:=(hL.below hw).below hb0
  have hil:i < l.length:=(List.getElem?_eq_some_iff.1 hx).1
  have hiI:(i:Int) < (n:Int):=by have:=HN.out;omega
  have hi0:¬ (i:Int) < 0:=by omega
  have hi4:(i:Int) * 4 = ((i * 4:Nat):Int):=by omega
  have HX:Hid (l[i]? = some x∧((x:Nat × Rat).1:Int) = k):=⟨hx,hk⟩
  clear hL y0 G hx hk
  go_enter Tryz.func35,Tryz.ntmps35
  go_wp2_with fail
  generalize w'.alloc (.cells #[.bool false,.slice none 0 0,.slice none 0 0] 29) = W0 at *
  refine (searchB k W0 hL0 hR hn).mono ?_
  rintro e w1 ⟨i',ff,rfl,h1,h2,hb1⟩
  obtain rfl:ff = true:=by
   cases ff with
   | true=>rfl
   | false=>exact absurd HX.out.2 (h2 rfl i x HX.out.1)
  obtain rfl:i' = i:=by
   obtain ⟨x',hx',hk'⟩:=h1 rfl
   have e2:=HX.out
   rcases Nat.lt_trichotomy i' i with c | c | c
   ·have:=HR.out i' i x' x hx' e2.1 c;omega
   ·exact c
   ·have:=HR.out i i' x x' e2.1 hx' c;omega
  replace R0:=R0.below hb1
  replace hb0:=bel_tr hb0 hb1
  obtain ⟨r0,r1,r2,r3,r4,r5⟩:=id R0
  replace y1:=kept_c hb0 y1
  replace y2:=kept_c hb0 y2
  replace y3:=kept_c hb0 y3
  obtain ⟨V,O⟩:=R0.set (.bool p) (.slice b nb cb) (.slice d nd cd)
  have hw2:=hb0.trans (O.below (Nat.le_refl _))
  clear h1 h2 hL0 hR hn hb1
  go_wp2
  exact bodyPost_ret (v:=.agg #[.bool p,.slice b nb cb,.slice d nd cd]) (by simp [results,Tryz.results35,go_sem,V.c0,V.c1,V.c2]) rfl ⟨rfl,hw2⟩
 ·have hno:∀ (j:Nat) (x:Nat × Rat),l[j]? = some x→(x.1:Int) ≠ k:=fun j x hx e=>hin ⟨j,x,hx,e⟩
  refine ⟨false,none,0,0,none,0,0,by rw [latI_none hno];exact NZ.zero _ _,fun w' hw=>?_⟩
  have R0:=var3_new w' (.bool false) (.slice none 0 0) (.slice none 0 0) 29
  have hb0:=bel_d0 w' (.cells #[.bool false,.slice none 0 0,.slice none 0 0] 29)
  have hL0:=(hL.below hw).below hb0
  have HX:Hid (∀ (j:Nat) (x:Nat × Rat),l[j]? = some x→(x.1:Int) ≠ k):=hno
  clear hL hno hin
  go_enter Tryz.func35,Tryz.ntmps35
  go_wp2_with fail
  generalize w'.alloc (.cells #[.bool false,.slice none 0 0,.slice none 0 0] 29) = W0 at *
  refine (searchB k W0 hL0 hR hn).mono ?_
  rintro e w1 ⟨i',ff,rfl,h1,h2,hb1⟩
  obtain rfl:ff = false:=by
   cases ff with
   | false=>rfl
   | true =>
    obtain ⟨x,hx,hk⟩:=h1 rfl
    exact absurd hk (HX.out i' x hx)
  replace R0:=R0.below hb1
  replace hb0:=bel_tr hb0 hb1
  obtain ⟨r0,r1,r2,r3,r4,r5⟩:=id R0
  obtain ⟨V,O⟩:=R0.set (.bool false) (.slice none 0 0) (.slice none 0 0)
  have hw2:=hb0.trans (O.below (Nat.le_refl _))
  clear h1 h2 hL0 hR hn hb1
  go_wp2
  exact bodyPost_ret (v:=.agg #[.bool false,.slice none 0 0,.slice none 0 0]) (by simp [results,Tryz.results35,go_sem,V.c0,V.c1,V.c2]) rfl ⟨rfl,hw2⟩
theorem Rw.set3 {t:TypeId} {w:World} {R:Nat} {a0 a1 a2:Value} (h:Rw t w R #[a0,a1,a2]) (b0 b1 b2:Value) :
  Rw t (((w.setCell ⟨R,0,none⟩ b0).setCell ⟨R,1,none⟩ b1).setCell ⟨R,2,none⟩ b2) R #[b0,b1,b2]∧Off R w (((w.setCell ⟨R,0,none⟩ b0).setCell ⟨R,1,none⟩ b1).setCell ⟨R,2,none⟩ b2):=by
 refine ⟨?_,(((Off.refl _ _).set 0 b0).set 1 b1).set 2 b2⟩
 have:=(((h.setK 0 b0).1.setK 1 b1).1.setK 2 b2).1
 simpa using this
theorem wp_known {o:Oper} {a:Act} {w:World} {K:Act→World→Prop} {Q:Exit→Act→World→Prop} (x y:Operand) (ats:Array TypeId) (ho:o.op = .call { callee:=.value x,args:=#[y],argTypes:=ats }) {fid:FuncId} {caps:Array Value} (hf:FnE fid) (hx:a.eval x = .func (.func fid) #[] caps) {v u:Value} (hy:a.eval y = v)
  (hC:Calls Tryz.prog fid (#[v] ++ caps) w fun e w'=>e = .returned u∧Below w.heap.size w w') (hK:∀ w',Below w.heap.size w w'→K (a.put o.dst u) w'):Oper.wp Tryz.prog o a w K Q:=by
 refine wp_callV x #[y] ats fid caps ho hx hf (Post:=fun e w'=>e = .returned u∧Below w.heap.size w w') ?_ (fun e w' h=>⟨_,h.1,hK w' h.2⟩)
 have e:(#[y].map a.eval ++ caps:Array Value) = #[v] ++ caps:=by simp [hy]
 rw [e]
 exact hC
def rowV (v:Value) (p:Bool) (a:Option Addr) (na ca:Nat) (d:Option Addr) (nd cd:Nat) (x:RoD):Value:=.agg #[v,.bool p,.slice a na ca,.slice d nd cd,.int .i64 x.bas,.bool x.tu]
def RowFn (w:World) (f:Bf) (X:Nat→RoD) (S:Nat) (fid:FuncId) (caps:Array Value) (A:Nat→Rat):Prop:=∀ q,q < f.m→∀ p0 a0 n0 c0 d0 m0 e0,GR w 0 p0 a0 n0 c0 d0 m0 e0 (X q).r S→∃ p a na ca d nd cd,NZ w p a na ca d nd cd (A q) S∧∀ w',Below w.heap.size w w'→Calls Tryz.prog fid (#[rowV (f.V q) p0 a0 n0 c0 d0 m0 e0 (X q)] ++ caps) w' fun e w''=>e = .returned (.agg #[.bool p,.slice a na ca,.slice d nd cd])∧Below w'.heap.size w' w''
def NumP (w:World) (r:Rat) (T:Nat) (e:Ending) (w':World):Prop:=∃ p a na ca d nd cd,e = .returned (.agg #[.bool p,.slice a na ca,.slice d nd cd])∧GR w' w.heap.size p a na ca d nd cd r T∧Below w.heap.size w w'
def bco (X:Nat→RoD) (lc:List (Nat × Rat)) (A:Nat→Rat) (q:Nat):Rat:=if (X q).bas = -1 then 0 else latI lc (X q).bas * A q
set_option maxRecDepth 100000 in
set_option maxHeartbeats 8000000 in
theorem basisB {F:Nat} {f:Bf} {n:Nat} {X:Nat→RoD} {lc:List (Nat × Rat)} {S Sc:Nat} {fid:FuncId} {caps:Array Value} {A:Nat→Rat} {T:Nat} (w:World) (h:BD w F f n X lc S Sc) (hfe:FnE fid) (hA:RowFn w f X S fid caps A) (hS:1≤S) (hSc:1≤Sc) (hTT:1≤T∧Sc + S≤6000000∧T + (Sc + S)≤6000000) (hz:∀ k,k≤f.m→SzR (rsum (bco X lc A) k) T) (hN:n + f.m≤3000000) (hT:TB w) :
  Calls Tryz.prog 44 #[.pointer (some ⟨f.b,0,none⟩),.func (.func fid) #[] caps] w fun e w'=>NumP w (rsum (bco X lc A) f.m) T e w':=by
 have HZ:Hid (∀ k,k≤f.m→SzR (rsum (bco X lc A) k) T):=hz
 have HA:Hid (RowFn w f X S fid caps A):=hA
 obtain ⟨m,em⟩:∃ m,m = f.m:=⟨_,rfl⟩
 have HM:Hid (m = f.m):=em
 have hmN:m≤3000000:=by omega
 clear hz hA
 have R0:=var3_new w (.bool false) (.slice none 0 0) (.slice none 0 0) 29
 have hb0:=bel_d0 w (.cells #[.bool false,.slice none 0 0,.slice none 0 0] 29)
 have hs0:(w.alloc (.cells #[.bool false,.slice none 0 0,.slice none 0 0] 29)).heap.size = w.heap.size + 1:=by simp
 go_enter Tryz.func44,Tryz.ntmps44
 go_wp2_with fail
 generalize w.alloc (.cells #[.bool false,.slice none 0 0,.slice none 0 0] 29) = W0 at *
 refine (ofQ 0 W0 (by decide) (by decide)).mono ?_
 rintro e w1 ⟨gp,ga,gn,gc,gd,gm,ge,rfl,G0,hx⟩
 replace R0:=R0.below hx
 replace hb0:=bel_tr hb0 hx
 have hs1:=hx.size
 have hz1:=bel_d0 w1 (.cells #[.bool gp,.slice ga gn gc,.slice gd gm ge] 29)
 have V0:=var3_new w1 (.bool gp) (.slice ga gn gc) (.slice gd gm ge) 29
 have hs2:(w1.alloc (.cells #[.bool gp,.slice ga gn gc,.slice gd gm ge] 29)).heap.size = w1.heap.size + 1:=by simp
 obtain ⟨R5,e5⟩:∃ R5,R5 = w1.heap.size:=⟨_,rfl⟩
 have G1:GX w1 (w.heap.size + 1) R5 gp ga gn gc gd gm ge (rsum (bco X lc A) 0) T:=((((G0.mono (B':=w.heap.size + 1) (by omega)).le hTT.1).val (by show ((0:Int):Rat) = 0;rfl)).gx (.inr (by omega)))
 replace G1:=G1.below hz1
 replace R0:=R0.below hz1
 replace hb0:=bel_tr hb0 hz1
 have B1:=h.below hb0
 obtain ⟨ra,rc,erv,hrc⟩:=h.rlen
 have x1:=(B1.rw.cell 1).trans (show _ = some f.rv from rfl)
 rw [erv,← em] at x1
 rw [← e5] at V0 hs2
 clear hz1 hx G0 em
 go_wp2_with fail
 try rw [← e5]
 have hR5:w.heap.size + 1≤R5:=by omega
 have hs5:R5 + 1≤(w1.alloc (.cells #[.bool gp,.slice ga gn gc,.slice gd gm ge] 29)).heap.size:=by omega
 clear e5 hs2 hs1
 generalize w1.alloc (.cells #[.bool gp,.slice ga gn gc,.slice gd gm ge] 29) = W1 at *
 go_loopw [16] (fun sq wr=>∃ (i:Nat) (sp:Bool) (sa:Option Addr) (sn sc:Nat) (sd:Option Addr) (sm se:Nat),i≤m∧sq = .int .i64 i∧Var3 wr R5 (.bool sp) (.slice sa sn sc) (.slice sd sm se)∧GX wr (w.heap.size + 1) R5 sp sa sn sc sd sm se (rsum (bco X lc A) i) T∧Var3 wr w.heap.size (.bool false) (.slice none 0 0) (.slice none 0 0)∧Below w.heap.size w wr∧R5 + 1≤wr.heap.size) (fun x _=>m - (intOf x).toNat)
 case atStart=>exact ⟨0,gp,ga,gn,gc,gd,gm,ge,Nat.zero_le _,rfl,V0,G1,R0,hb0,hs5⟩
 case round =>
  clear V0 G1 R0 hb0 B1 x1 hs5
  obtain ⟨i,sp,sa,sn,sc,sd,sm,se,hi,rfl,V5,GS,RR,hbw,hsw⟩:=hrel
  by_cases hlt:i < m
  ·have hiI:(i:Int) < (m:Int):=by omega
   have hi0:¬ (i:Int) < 0:=by omega
   have hi6:(i:Int) * 6 = ((i * 6:Nat):Int):=by omega
   have hif:i < f.m:=by rw [← HM.out];exact hlt
   have BQ:=h.below hbw
   obtain ⟨rg,rc',p,a,na,ca,d,nd,cd,erv',y0,y1,y2,y3,y4,y5,GR0⟩:=h.get hif
   have hra:ra = some ⟨rg,0,none⟩:=by
    rw [erv] at erv'
    simp only [Value.slice.injEq] at erv'
    exact erv'.1
   obtain ⟨ap,aa,an,ac,ad,am,ae,ZA,HF0⟩:=HA.out i hif p a na ca d nd cd GR0
   have hkc:=h.kc
   have hlenc:=hkc.1.len _ hkc.2
   obtain ⟨ua,uc,ecv,_⟩:=h.c.form
   obtain ⟨um,eum⟩:∃ um,um = lc.length:=⟨_,rfl⟩
   rw [← eum] at ecv hlenc
   have LC:=h.c
   rw [ecv] at LC
   obtain ⟨kp,ka,kn,kc,kd,km,ke,ZK,HAT0⟩:=atF (X i).bas w LC hkc.1 (by rw [← eum];omega)
   obtain ⟨va,vc,eva,_⟩:=(h.t i hif).form
   obtain ⟨vn,evn⟩:∃ vn,vn = (X i).l.length:=⟨_,rfl⟩
   rw [← evn] at eva
   rw [eva] at y0 HF0
   have xr:=(BQ.rw.cell 2).trans (show _ = some f.cv from rfl)
   rw [ecv] at xr
   replace y0:=kept_c hbw y0
   replace y1:=kept_c hbw y1
   replace y2:wr.cell? ⟨rg,i * 6 + 2,none⟩ = some (.slice a na ca):=kept_c hbw y2
   replace y3:wr.cell? ⟨rg,i * 6 + 3,none⟩ = some (.slice d nd cd):=kept_c hbw y3
   replace y4:=kept_c hbw y4
   replace y5:=kept_c hbw y5
   have hTw:=hT.below hbw
   have BX:=box_new wr #[.slice va vn vc,.bool p,.slice a na ca,.slice d nd cd,.int .i64 (X i).bas,.bool (X i).tu] 67
   have hz:=bel_d0 wr (.cells #[.slice va vn vc,.bool p,.slice a na ca,.slice d nd cd,.int .i64 (X i).bas,.bool (X i).tu] 67)
   have hsz:(wr.alloc (.cells #[.slice va vn vc,.bool p,.slice a na ca,.slice d nd cd,.int .i64 (X i).bas,.bool (X i).tu] 67)).heap.size = wr.heap.size + 1:=by simp
   have x4:=BX 4 _ rfl
   clear BQ erv' GR0 eum evn LC hlenc
   subst hra
   have ers:rsum (bco X lc A) (i + 1) = rsum (bco X lc A) i + bco X lc A i:=rfl
   have HRS:Hid (rsum (bco X lc A) (i + 1) = rsum (bco X lc A) i + bco X lc A i):=ers
   clear ers
   by_cases hgn:(X i).bas = -1
   ·have hd:decide ((X i).bas = -1) = true:=decide_eq_true hgn
    have HGN:Hid ((X i).bas = -1):=hgn
    have HD:Hid (decide ((X i).bas = -1) = true):=hd
    clear hgn hd
    go_wp2_with fail
    generalize wr.alloc (.cells #[.slice va vn vc,.bool p,.slice a na ca,.slice d nd cd,.int .i64 (X i).bas,.bool (X i).tu] 67) = U at *
    refine (goneB wr.heap.size 0 (X i).bas U x4).mono ?_
    rintro e w' ⟨rfl,rfl⟩
    rw [HD.out]
    have G2:GX w' (w.heap.size + 1) R5 sp sa sn sc sd sm se (rsum (bco X lc A) (i + 1)) T:=⟨(GS.below hz).1.val (by rw [HRS.out];unfold bco;rw [if_pos HGN.out];grind),(GS.below hz).2⟩
    have V2:=V5.below hz
    have RR2:=RR.below hz
    have hb2:=bel_tr hbw hz
    clear V5 GS RR hbw y0 y1 y2 y3 y4 y5 x4 BX xr hz
    go_wp2
    go_roundw
    case rel=>first | exact ⟨i + 1,sp,sa,sn,sc,sd,sm,se,by omega,by go_num,V2,G2,RR2,hb2,by omega⟩ | ((repeat apply Exists.intro);refine ⟨?_,rfl⟩;exact ⟨i + 1,sp,sa,sn,sc,sd,sm,se,by omega,by go_num,V2,G2,RR2,hb2,by omega⟩)
    case measure=>simp [intOf];omega
   ·have hd:decide ((X i).bas = -1) = false:=decide_eq_false hgn
    have HGN:Hid (¬ (X i).bas = -1):=hgn
    have ebc:bco X lc A i = latI lc (X i).bas * A i:=if_neg hgn
    have HBC:Hid (bco X lc A i = latI lc (X i).bas * A i):=ebc
    obtain ⟨kk,ekk⟩:∃ kk,kk = latI lc (X i).bas:=⟨_,rfl⟩
    rw [← ekk] at ZK
    have HKK:Hid (kk = latI lc (X i).bas):=ekk
    obtain ⟨aq,eaq⟩:∃ aq,aq = A i:=⟨_,rfl⟩
    rw [← eaq] at ZA
    have HAQ:Hid (aq = A i):=eaq
    clear hgn ebc ekk eaq
    go_wp2_with fail
    have V2:=V5.below hz
    have GS2:=GS.below hz
    have RR2:=RR.below hz
    have hbU:=bel_tr hbw hz
    have xr2:=kept_c hz xr
    generalize wr.alloc (.cells #[.slice va vn vc,.bool p,.slice a na ca,.slice d nd cd,.int .i64 (X i).bas,.bool (X i).tu] 67) = U at *
    refine (goneB wr.heap.size 0 (X i).bas U x4).mono ?_
    rintro e w' ⟨rfl,rfl⟩
    rw [hd]
    have HAT:∀ z,Below w'.heap.size w' z→Calls Tryz.prog 35 #[.slice ua um uc,.int .i64 (X i).bas] z fun e w''=>e = .returned (.agg #[.bool kp,.slice ka kn kc,.slice kd km ke])∧Below z.heap.size z w'':=fun z hz=>HAT0 z (bel_tr hbU hz)
    have HFN:∀ z,Below w'.heap.size w' z→Calls Tryz.prog fid (#[.agg #[.slice va vn vc,.bool p,.slice a na ca,.slice d nd cd,.int .i64 (X i).bas,.bool (X i).tu]] ++ caps) z fun e w''=>e = .returned (.agg #[.bool ap,.slice aa an ac,.slice ad am ae])∧Below z.heap.size z w'':=fun z hz=>HF0 z (bel_tr hbU hz)
    have HBX:∀ z,Below w'.heap.size w' z→(z.cell? ⟨f.b,2,none⟩ = some (.slice ua um uc)∧z.cell? ⟨wr.heap.size,0,none⟩ = some (.slice va vn vc)∧z.cell? ⟨wr.heap.size,1,none⟩ = some (.bool p)∧z.cell? ⟨wr.heap.size,2,none⟩ = some (.slice a na ca)∧z.cell? ⟨wr.heap.size,3,none⟩ = some (.slice d nd cd)∧z.cell? ⟨wr.heap.size,4,none⟩ = some (.int .i64 (X i).bas)∧z.cell? ⟨wr.heap.size,5,none⟩ = some (.bool (X i).tu)):=fun z h=>⟨kept_c h xr2,kept_c h (BX 0 _ rfl),kept_c h (BX 1 _ rfl),kept_c h (BX 2 _ rfl),kept_c h (BX 3 _ rfl),kept_c h (BX 4 _ rfl),kept_c h (BX 5 _ rfl)⟩
    clear V5 GS RR hbw y0 y1 y2 y3 y4 y5 xr hd HAT0 HF0 x4 hz
    go_wp2_with fail
    generalize eU:w' = U at *
    refine wp_cutB (fun a0 a' w'=>∃ (u1 u2 u3 u4 u5 u6 u7 u8 u9 u10:Value) (RA RB:Nat),a' = ((((((((((((a0.put (some 21) u1).put (some 22) u2).put (some 23) u3).put (some 24) u4).put (some 25) u5).put (some 26) u6).put (some 28) u7).put (some 29) u8).put (some 27) u9).put (some 30) u10).put (some 8) (.pointer (some ⟨RA,0,none⟩))).put (some 9) (.pointer (some ⟨RB,0,none⟩)))∧Rw 29 w' RA #[.bool kp,.slice ka kn kc,.slice kd km ke]∧Rw 29 w' RB #[.bool ap,.slice aa an ac,.slice ad am ae]∧RA ≠ RB∧U.heap.size≤RA∧U.heap.size≤RB∧Below U.heap.size U w') ?_ ?_
    ·refine wp_region_noPanic (wp_region_guard (fun _ w'=>w'.cell? ⟨f.b,2,none⟩ = some (.slice ua um uc)∧w'.cell? ⟨wr.heap.size,0,none⟩ = some (.slice va vn vc)∧w'.cell? ⟨wr.heap.size,1,none⟩ = some (.bool p)∧w'.cell? ⟨wr.heap.size,2,none⟩ = some (.slice a na ca)∧w'.cell? ⟨wr.heap.size,3,none⟩ = some (.slice d nd cd)∧w'.cell? ⟨wr.heap.size,4,none⟩ = some (.int .i64 (X i).bas)∧w'.cell? ⟨wr.heap.size,5,none⟩ = some (.bool (X i).tu)) (by as_aux_lemma=>kernel_rfl) ?_)
     have hc0:Below U.heap.size U U.drew:=bel_d1 _
     generalize U.drew = z0 at *
     refine wpAnyG.tA 0 (v:=.pointer (some ⟨f.b,0,none⟩)) (by decide) 1 (by as_aux_lemma=>kernel_rfl) (by rfl) ?y0 (HBX _ hc0) ?_
     case y0 =>
      rintro w' ⟨q0,q1,q2,q3,q4,q5,q6⟩
      simp only [lgA,lgZ]
      go_simp
     simp only [lgA,lgZ,Act.put,lsA,lsZ,lsS]
     refine wpAnyG.tA 1 (v:=.pointer (some ⟨f.b,0,none⟩)) (by decide) 2 (by as_aux_lemma=>kernel_rfl) (by rfl) ?y1 (HBX _ hc0) ?_
     case y1 =>
      rintro w' ⟨q0,q1,q2,q3,q4,q5,q6⟩
      simp only [lgA,lgZ,lgS]
      go_simp
     simp only [lgA,lgZ,lgS,Act.put,lsA,lsZ,lsS]
     refine wpAnyG.tA 2 (v:=.pointer (some ⟨f.b,2,none⟩)) (by decide) 3 (by as_aux_lemma=>kernel_rfl) (by rfl) ?y2 (HBX _ hc0) ?_
     case y2 =>
      rintro w' ⟨q0,q1,q2,q3,q4,q5,q6⟩
      simp only [lgA,lgZ,lgS]
      go_simp
     simp only [lgA,lgZ,lgS,Act.put,lsA,lsZ,lsS]
     refine wpAnyG.tA 3 (v:=.slice ua um uc) (by decide) 6 (by as_aux_lemma=>kernel_rfl) (by rfl) ?y3 (HBX _ hc0) ?_
     case y3 =>
      rintro w' ⟨q0,q1,q2,q3,q4,q5,q6⟩
      simp only [lgA,lgZ,lgS]
      go_simp
     simp only [lgA,lgZ,lgS,Act.put,lsA,lsZ,lsS]
     refine wpAnyG.tA 4 (v:=.pointer (some ⟨wr.heap.size,4,none⟩)) (by decide) 5 (by as_aux_lemma=>kernel_rfl) (by rfl) ?y4 (HBX _ hc0) ?_
     case y4 =>
      rintro w' ⟨q0,q1,q2,q3,q4,q5,q6⟩
      simp only [lgA,lgZ,lgS]
      go_simp
     simp only [lgA,lgZ,lgS,Act.put,lsA,lsZ,lsS]
     refine wpAnyG.tA 5 (v:=.int .i64 (X i).bas) (by decide) 6 (by as_aux_lemma=>kernel_rfl) (by rfl) ?y5 (HBX _ hc0) ?_
     case y5 =>
      rintro w' ⟨q0,q1,q2,q3,q4,q5,q6⟩
      simp only [lgA,lgZ,lgS]
      go_simp
     simp only [lgA,lgZ,lgS,Act.put,lsA,lsZ,lsS]
     refine wpAnyG.tA 7 (v:=.func (.func fid) #[] caps) (by decide) 9 (by as_aux_lemma=>kernel_rfl) (by rfl) ?y7 (HBX _ hc0) ?_
     case y7 =>
      rintro w' ⟨q0,q1,q2,q3,q4,q5,q6⟩
      simp only [lgA,lgZ,lgS]
      go_simp
     simp only [lgA,lgZ,lgS,Act.put,lsA,lsZ,lsS]
     refine wpAnyG.tA 8 (v:=.agg #[.slice va vn vc,.bool p,.slice a na ca,.slice d nd cd,.int .i64 (X i).bas,.bool (X i).tu]) (by decide) 9 (by as_aux_lemma=>kernel_rfl) (by rfl) ?y8 (HBX _ hc0) ?_
     case y8 =>
      rintro w' ⟨q0,q1,q2,q3,q4,q5,q6⟩
      simp only [lgA,lgZ,lgS]
      go_simp
     simp only [lgA,lgZ,lgS,Act.put,lsA,lsZ,lsS]
     refine wpAnyG.three 6 10 11 (by as_aux_lemma=>kernel_rfl) (by decide) (by decide) (by decide) (by rfl) (by rfl) (by rfl) (fun K hK=>?_) (fun K hK=>?_) (fun K hK=>?_)
     ·simp only [lgA,lgZ,lgS]
      go_simp
      refine (HAT z0 hc0).mono ?_
      rintro e z1 ⟨rfl,hk⟩
      have hc1:=bel_tr hc0 hk
      dsimp only
      refine hK _ _ (HBX _ hc1) ?_
      clear hK K hk
      refine wpAnyG.three 9 10 11 (by as_aux_lemma=>kernel_rfl) (by decide) (by decide) (by decide) (by rfl) (by rfl) (by rfl) (fun K hK=>?_) (fun K hK=>?_) (fun K hK=>?_)
      ·simp only [lgA,lgZ,lgS]
       refine wp_known _ _ _ rfl hfe rfl rfl (HFN z1 hc1) ?_
       intro z2 hk
       have hc2:=bel_tr hc1 hk
       refine hK _ _ (HBX _ hc2) ?_
       clear hK K hk
       refine wpAnyG.two 10 11 (by as_aux_lemma=>kernel_rfl) (by decide) (by decide) (by rfl) (by rfl) (fun K hK=>?_) (fun K hK=>?_)
       ·simp only [lgA,lgZ,lgS]
        go_simp
        have hx:=bel_d0 z2 (.cells #[.bool false,.slice none 0 0,.slice none 0 0] 29)
        have RX3:=Rw.new 29 z2 #[.bool false,.slice none 0 0,.slice none 0 0]
        have hc3:=bel_tr hc2 hx
        have hRX:U.heap.size≤z2.heap.size:=hc2.size
        refine hK _ _ (HBX _ hc3) ?_
        clear hK K hx
        generalize z2.alloc (.cells #[.bool false,.slice none 0 0,.slice none 0 0] 29) = z3 at *
        refine wpAnyG.one 11 (by as_aux_lemma=>kernel_rfl) (by decide) (by rfl) (fun K hK=>?_)
        simp only [lgA,lgZ,lgS]
        go_simp
        have hlt:=RX3.lt
        have hx:=bel_d0 z3 (.cells #[.bool false,.slice none 0 0,.slice none 0 0] 29)
        have RY4:=Rw.new 29 z3 #[.bool false,.slice none 0 0,.slice none 0 0]
        have hc4:=bel_tr hc3 hx
        have hRY:U.heap.size≤z3.heap.size:=hc3.size
        have RX4:=RX3.below hx
        refine hK _ _ (HBX _ hc4) ?_
        clear hK K hx
        generalize z3.alloc (.cells #[.bool false,.slice none 0 0,.slice none 0 0] 29) = z4 at *
        refine wpAnyG.one 12 (by as_aux_lemma=>kernel_rfl) (by decide) (by rfl) (fun K hK=>?_)
        have y0:=(RX4.cell 0).trans (show _ = some (.bool false) from rfl)
        have y1:=(RX4.cell 1).trans (show _ = some (.slice none 0 0) from rfl)
        have y2:=(RX4.cell 2).trans (show _ = some (.slice none 0 0) from rfl)
        have y3:=RX4.frozen 0
        have y4:=RX4.frozen 1
        have y5:=RX4.frozen 2
        simp only [lgA,lgZ,lgS]
        go_simp
        obtain ⟨RN,O⟩:=RX4.set3 (.bool kp) (.slice ka kn kc) (.slice kd km ke)
        have RM:=RY4.off O (by omega)
        have hd:=hc4.trans (O.below hRX)
        refine hK _ _ (HBX _ hd) ?_
        clear hK K y0 y1 y2 y3 y4 y5 O
        generalize ((z4.setCell ⟨z2.heap.size,0,none⟩ (.bool kp)).setCell ⟨z2.heap.size,1,none⟩ (.slice ka kn kc)).setCell ⟨z2.heap.size,2,none⟩ (.slice kd km ke) = v0 at *
        refine wpAnyG.one 13 (by as_aux_lemma=>kernel_rfl) (by decide) (by rfl) (fun K hK=>?_)
        have y0:=(RM.cell 0).trans (show _ = some (.bool false) from rfl)
        have y1:=(RM.cell 1).trans (show _ = some (.slice none 0 0) from rfl)
        have y2:=(RM.cell 2).trans (show _ = some (.slice none 0 0) from rfl)
        have y3:=RM.frozen 0
        have y4:=RM.frozen 1
        have y5:=RM.frozen 2
        simp only [lgA,lgZ,lgS]
        go_simp
        obtain ⟨RP,O⟩:=RM.set3 (.bool ap) (.slice aa an ac) (.slice ad am ae)
        have RQ:=RN.off O (by omega)
        have he:=hd.trans (O.below hRY)
        refine hK _ _ (HBX _ he) ?_
        clear hK K y0 y1 y2 y3 y4 y5
        refine wpAnyG.done (by as_aux_lemma=>kernel_rfl) (NoPanic.normal ?_)
        exact ⟨rfl,_,_,_,_,_,_,_,_,_,_,z2.heap.size,z3.heap.size,rfl,RQ,RP,by omega,hRX,hRY,he⟩
       ·simp only [lgA,lgZ,lgS]
        go_simp
        have hx:=bel_d0 z2 (.cells #[.bool false,.slice none 0 0,.slice none 0 0] 29)
        have RY3:=Rw.new 29 z2 #[.bool false,.slice none 0 0,.slice none 0 0]
        have hc3:=bel_tr hc2 hx
        have hRY:U.heap.size≤z2.heap.size:=hc2.size
        refine hK _ _ (HBX _ hc3) ?_
        clear hK K hx
        generalize z2.alloc (.cells #[.bool false,.slice none 0 0,.slice none 0 0] 29) = z3 at *
        refine wpAnyG.one 10 (by as_aux_lemma=>kernel_rfl) (by decide) (by rfl) (fun K hK=>?_)
        simp only [lgA,lgZ,lgS]
        go_simp
        have hlt:=RY3.lt
        have hx:=bel_d0 z3 (.cells #[.bool false,.slice none 0 0,.slice none 0 0] 29)
        have RX4:=Rw.new 29 z3 #[.bool false,.slice none 0 0,.slice none 0 0]
        have hc4:=bel_tr hc3 hx
        have hRX:U.heap.size≤z3.heap.size:=hc3.size
        have RY4:=RY3.below hx
        refine hK _ _ (HBX _ hc4) ?_
        clear hK K hx
        generalize z3.alloc (.cells #[.bool false,.slice none 0 0,.slice none 0 0] 29) = z4 at *
        refine wpAnyG.one 12 (by as_aux_lemma=>kernel_rfl) (by decide) (by rfl) (fun K hK=>?_)
        have y0:=(RX4.cell 0).trans (show _ = some (.bool false) from rfl)
        have y1:=(RX4.cell 1).trans (show _ = some (.slice none 0 0) from rfl)
        have y2:=(RX4.cell 2).trans (show _ = some (.slice none 0 0) from rfl)
        have y3:=RX4.frozen 0
        have y4:=RX4.frozen 1
        have y5:=RX4.frozen 2
        simp only [lgA,lgZ,lgS]
        go_simp
        obtain ⟨RN,O⟩:=RX4.set3 (.bool kp) (.slice ka kn kc) (.slice kd km ke)
        have RM:=RY4.off O (by omega)
        have hd:=hc4.trans (O.below hRX)
        refine hK _ _ (HBX _ hd) ?_
        clear hK K y0 y1 y2 y3 y4 y5 O
        generalize ((z4.setCell ⟨z3.heap.size,0,none⟩ (.bool kp)).setCell ⟨z3.heap.size,1,none⟩ (.slice ka kn kc)).setCell ⟨z3.heap.size,2,none⟩ (.slice kd km ke) = v0 at *
        refine wpAnyG.one 13 (by as_aux_lemma=>kernel_rfl) (by decide) (by rfl) (fun K hK=>?_)
        have y0:=(RM.cell 0).trans (show _ = some (.bool false) from rfl)
        have y1:=(RM.cell 1).trans (show _ = some (.slice none 0 0) from rfl)
        have y2:=(RM.cell 2).trans (show _ = some (.slice none 0 0) from rfl)
        have y3:=RM.frozen 0
        have y4:=RM.frozen 1
        have y5:=RM.frozen 2
        simp only [lgA,lgZ,lgS]
        go_simp
        obtain ⟨RP,O⟩:=RM.set3 (.bool ap) (.slice aa an ac) (.slice ad am ae)
        have RQ:=RN.off O (by omega)
        have he:=hd.trans (O.below hRY)
        refine hK _ _ (HBX _ he) ?_
        clear hK K y0 y1 y2 y3 y4 y5
        refine wpAnyG.done (by as_aux_lemma=>kernel_rfl) (NoPanic.normal ?_)
        exact ⟨rfl,_,_,_,_,_,_,_,_,_,_,z3.heap.size,z2.heap.size,rfl,RQ,RP,by omega,hRX,hRY,he⟩
      ·simp only [lgA,lgZ,lgS]
       go_simp
       have hx:=bel_d0 z1 (.cells #[.bool false,.slice none 0 0,.slice none 0 0] 29)
       have RX2:=Rw.new 29 z1 #[.bool false,.slice none 0 0,.slice none 0 0]
       have hc2:=bel_tr hc1 hx
       have hRX:U.heap.size≤z1.heap.size:=hc1.size
       refine hK _ _ (HBX _ hc2) ?_
       clear hK K hx
       generalize z1.alloc (.cells #[.bool false,.slice none 0 0,.slice none 0 0] 29) = z2 at *
       refine wpAnyG.two 9 11 (by as_aux_lemma=>kernel_rfl) (by decide) (by decide) (by rfl) (by rfl) (fun K hK=>?_) (fun K hK=>?_)
       ·simp only [lgA,lgZ,lgS]
        refine wp_known _ _ _ rfl hfe rfl rfl (HFN z2 hc2) ?_
        intro z3 hk
        have hc3:=bel_tr hc2 hk
        have RX3:=RX2.below hk
        refine hK _ _ (HBX _ hc3) ?_
        clear hK K hk
        refine wpAnyG.one 11 (by as_aux_lemma=>kernel_rfl) (by decide) (by rfl) (fun K hK=>?_)
        simp only [lgA,lgZ,lgS]
        go_simp
        have hlt:=RX3.lt
        have hx:=bel_d0 z3 (.cells #[.bool false,.slice none 0 0,.slice none 0 0] 29)
        have RY4:=Rw.new 29 z3 #[.bool false,.slice none 0 0,.slice none 0 0]
        have hc4:=bel_tr hc3 hx
        have hRY:U.heap.size≤z3.heap.size:=hc3.size
        have RX4:=RX3.below hx
        refine hK _ _ (HBX _ hc4) ?_
        clear hK K hx
        generalize z3.alloc (.cells #[.bool false,.slice none 0 0,.slice none 0 0] 29) = z4 at *
        refine wpAnyG.one 12 (by as_aux_lemma=>kernel_rfl) (by decide) (by rfl) (fun K hK=>?_)
        have y0:=(RX4.cell 0).trans (show _ = some (.bool false) from rfl)
        have y1:=(RX4.cell 1).trans (show _ = some (.slice none 0 0) from rfl)
        have y2:=(RX4.cell 2).trans (show _ = some (.slice none 0 0) from rfl)
        have y3:=RX4.frozen 0
        have y4:=RX4.frozen 1
        have y5:=RX4.frozen 2
        simp only [lgA,lgZ,lgS]
        go_simp
        obtain ⟨RN,O⟩:=RX4.set3 (.bool kp) (.slice ka kn kc) (.slice kd km ke)
        have RM:=RY4.off O (by omega)
        have hd:=hc4.trans (O.below hRX)
        refine hK _ _ (HBX _ hd) ?_
        clear hK K y0 y1 y2 y3 y4 y5 O
        generalize ((z4.setCell ⟨z1.heap.size,0,none⟩ (.bool kp)).setCell ⟨z1.heap.size,1,none⟩ (.slice ka kn kc)).setCell ⟨z1.heap.size,2,none⟩ (.slice kd km ke) = v0 at *
        refine wpAnyG.one 13 (by as_aux_lemma=>kernel_rfl) (by decide) (by rfl) (fun K hK=>?_)
        have y0:=(RM.cell 0).trans (show _ = some (.bool false) from rfl)
        have y1:=(RM.cell 1).trans (show _ = some (.slice none 0 0) from rfl)
        have y2:=(RM.cell 2).trans (show _ = some (.slice none 0 0) from rfl)
        have y3:=RM.frozen 0
        have y4:=RM.frozen 1
        have y5:=RM.frozen 2
        simp only [lgA,lgZ,lgS]
        go_simp
        obtain ⟨RP,O⟩:=RM.set3 (.bool ap) (.slice aa an ac) (.slice ad am ae)
        have RQ:=RN.off O (by omega)
        have he:=hd.trans (O.below hRY)
        refine hK _ _ (HBX _ he) ?_
        clear hK K y0 y1 y2 y3 y4 y5
        refine wpAnyG.done (by as_aux_lemma=>kernel_rfl) (NoPanic.normal ?_)
        exact ⟨rfl,_,_,_,_,_,_,_,_,_,_,z1.heap.size,z3.heap.size,rfl,RQ,RP,by omega,hRX,hRY,he⟩
       ·simp only [lgA,lgZ,lgS]
        go_simp
        have hlt:=RX2.lt
        have hx:=bel_d0 z2 (.cells #[.bool false,.slice none 0 0,.slice none 0 0] 29)
        have RY3:=Rw.new 29 z2 #[.bool false,.slice none 0 0,.slice none 0 0]
        have hc3:=bel_tr hc2 hx
        have hRY:U.heap.size≤z2.heap.size:=hc2.size
        have RX3:=RX2.below hx
        refine hK _ _ (HBX _ hc3) ?_
        clear hK K hx
        generalize z2.alloc (.cells #[.bool false,.slice none 0 0,.slice none 0 0] 29) = z3 at *
        refine wpAnyG.one 9 (by as_aux_lemma=>kernel_rfl) (by decide) (by rfl) (fun K hK=>?_)
        simp only [lgA,lgZ,lgS]
        refine wp_known _ _ _ rfl hfe rfl rfl (HFN z3 hc3) ?_
        intro z4 hk
        have hc4:=bel_tr hc3 hk
        have RX4:=RX3.below hk
        have RY4:=RY3.below hk
        refine hK _ _ (HBX _ hc4) ?_
        clear hK K hk
        refine wpAnyG.one 12 (by as_aux_lemma=>kernel_rfl) (by decide) (by rfl) (fun K hK=>?_)
        have y0:=(RX4.cell 0).trans (show _ = some (.bool false) from rfl)
        have y1:=(RX4.cell 1).trans (show _ = some (.slice none 0 0) from rfl)
        have y2:=(RX4.cell 2).trans (show _ = some (.slice none 0 0) from rfl)
        have y3:=RX4.frozen 0
        have y4:=RX4.frozen 1
        have y5:=RX4.frozen 2
        simp only [lgA,lgZ,lgS]
        go_simp
        obtain ⟨RN,O⟩:=RX4.set3 (.bool kp) (.slice ka kn kc) (.slice kd km ke)
        have RM:=RY4.off O (by omega)
        have hd:=hc4.trans (O.below hRX)
        refine hK _ _ (HBX _ hd) ?_
        clear hK K y0 y1 y2 y3 y4 y5 O
        generalize ((z4.setCell ⟨z1.heap.size,0,none⟩ (.bool kp)).setCell ⟨z1.heap.size,1,none⟩ (.slice ka kn kc)).setCell ⟨z1.heap.size,2,none⟩ (.slice kd km ke) = v0 at *
        refine wpAnyG.one 13 (by as_aux_lemma=>kernel_rfl) (by decide) (by rfl) (fun K hK=>?_)
        have y0:=(RM.cell 0).trans (show _ = some (.bool false) from rfl)
        have y1:=(RM.cell 1).trans (show _ = some (.slice none 0 0) from rfl)
        have y2:=(RM.cell 2).trans (show _ = some (.slice none 0 0) from rfl)
        have y3:=RM.frozen 0
        have y4:=RM.frozen 1
        have y5:=RM.frozen 2
        simp only [lgA,lgZ,lgS]
        go_simp
        obtain ⟨RP,O⟩:=RM.set3 (.bool ap) (.slice aa an ac) (.slice ad am ae)
        have RQ:=RN.off O (by omega)
        have he:=hd.trans (O.below hRY)
        refine hK _ _ (HBX _ he) ?_
        clear hK K y0 y1 y2 y3 y4 y5
        refine wpAnyG.done (by as_aux_lemma=>kernel_rfl) (NoPanic.normal ?_)
        exact ⟨rfl,_,_,_,_,_,_,_,_,_,_,z1.heap.size,z2.heap.size,rfl,RQ,RP,by omega,hRX,hRY,he⟩
      ·simp only [lgA,lgZ,lgS]
       go_simp
       have hx:=bel_d0 z1 (.cells #[.bool false,.slice none 0 0,.slice none 0 0] 29)
       have RY2:=Rw.new 29 z1 #[.bool false,.slice none 0 0,.slice none 0 0]
       have hc2:=bel_tr hc1 hx
       have hRY:U.heap.size≤z1.heap.size:=hc1.size
       refine hK _ _ (HBX _ hc2) ?_
       clear hK K hx
       generalize z1.alloc (.cells #[.bool false,.slice none 0 0,.slice none 0 0] 29) = z2 at *
       refine wpAnyG.two 9 10 (by as_aux_lemma=>kernel_rfl) (by decide) (by decide) (by rfl) (by rfl) (fun K hK=>?_) (fun K hK=>?_)
       ·simp only [lgA,lgZ,lgS]
        refine wp_known _ _ _ rfl hfe rfl rfl (HFN z2 hc2) ?_
        intro z3 hk
        have hc3:=bel_tr hc2 hk
        have RY3:=RY2.below hk
        refine hK _ _ (HBX _ hc3) ?_
        clear hK K hk
        refine wpAnyG.one 10 (by as_aux_lemma=>kernel_rfl) (by decide) (by rfl) (fun K hK=>?_)
        simp only [lgA,lgZ,lgS]
        go_simp
        have hlt:=RY3.lt
        have hx:=bel_d0 z3 (.cells #[.bool false,.slice none 0 0,.slice none 0 0] 29)
        have RX4:=Rw.new 29 z3 #[.bool false,.slice none 0 0,.slice none 0 0]
        have hc4:=bel_tr hc3 hx
        have hRX:U.heap.size≤z3.heap.size:=hc3.size
        have RY4:=RY3.below hx
        refine hK _ _ (HBX _ hc4) ?_
        clear hK K hx
        generalize z3.alloc (.cells #[.bool false,.slice none 0 0,.slice none 0 0] 29) = z4 at *
        refine wpAnyG.one 12 (by as_aux_lemma=>kernel_rfl) (by decide) (by rfl) (fun K hK=>?_)
        have y0:=(RX4.cell 0).trans (show _ = some (.bool false) from rfl)
        have y1:=(RX4.cell 1).trans (show _ = some (.slice none 0 0) from rfl)
        have y2:=(RX4.cell 2).trans (show _ = some (.slice none 0 0) from rfl)
        have y3:=RX4.frozen 0
        have y4:=RX4.frozen 1
        have y5:=RX4.frozen 2
        simp only [lgA,lgZ,lgS]
        go_simp
        obtain ⟨RN,O⟩:=RX4.set3 (.bool kp) (.slice ka kn kc) (.slice kd km ke)
        have RM:=RY4.off O (by omega)
        have hd:=hc4.trans (O.below hRX)
        refine hK _ _ (HBX _ hd) ?_
        clear hK K y0 y1 y2 y3 y4 y5 O
        generalize ((z4.setCell ⟨z3.heap.size,0,none⟩ (.bool kp)).setCell ⟨z3.heap.size,1,none⟩ (.slice ka kn kc)).setCell ⟨z3.heap.size,2,none⟩ (.slice kd km ke) = v0 at *
        refine wpAnyG.one 13 (by as_aux_lemma=>kernel_rfl) (by decide) (by rfl) (fun K hK=>?_)
        have y0:=(RM.cell 0).trans (show _ = some (.bool false) from rfl)
        have y1:=(RM.cell 1).trans (show _ = some (.slice none 0 0) from rfl)
        have y2:=(RM.cell 2).trans (show _ = some (.slice none 0 0) from rfl)
        have y3:=RM.frozen 0
        have y4:=RM.frozen 1
        have y5:=RM.frozen 2
        simp only [lgA,lgZ,lgS]
        go_simp
        obtain ⟨RP,O⟩:=RM.set3 (.bool ap) (.slice aa an ac) (.slice ad am ae)
        have RQ:=RN.off O (by omega)
        have he:=hd.trans (O.below hRY)
        refine hK _ _ (HBX _ he) ?_
        clear hK K y0 y1 y2 y3 y4 y5
        refine wpAnyG.done (by as_aux_lemma=>kernel_rfl) (NoPanic.normal ?_)
        exact ⟨rfl,_,_,_,_,_,_,_,_,_,_,z3.heap.size,z1.heap.size,rfl,RQ,RP,by omega,hRX,hRY,he⟩
       ·simp only [lgA,lgZ,lgS]
        go_simp
        have hlt:=RY2.lt
        have hx:=bel_d0 z2 (.cells #[.bool false,.slice none 0 0,.slice none 0 0] 29)
        have RX3:=Rw.new 29 z2 #[.bool false,.slice none 0 0,.slice none 0 0]
        have hc3:=bel_tr hc2 hx
        have hRX:U.heap.size≤z2.heap.size:=hc2.size
        have RY3:=RY2.below hx
        refine hK _ _ (HBX _ hc3) ?_
        clear hK K hx
        generalize z2.alloc (.cells #[.bool false,.slice none 0 0,.slice none 0 0] 29) = z3 at *
        refine wpAnyG.one 9 (by as_aux_lemma=>kernel_rfl) (by decide) (by rfl) (fun K hK=>?_)
        simp only [lgA,lgZ,lgS]
        refine wp_known _ _ _ rfl hfe rfl rfl (HFN z3 hc3) ?_
        intro z4 hk
        have hc4:=bel_tr hc3 hk
        have RY4:=RY3.below hk
        have RX4:=RX3.below hk
        refine hK _ _ (HBX _ hc4) ?_
        clear hK K hk
        refine wpAnyG.one 12 (by as_aux_lemma=>kernel_rfl) (by decide) (by rfl) (fun K hK=>?_)
        have y0:=(RX4.cell 0).trans (show _ = some (.bool false) from rfl)
        have y1:=(RX4.cell 1).trans (show _ = some (.slice none 0 0) from rfl)
        have y2:=(RX4.cell 2).trans (show _ = some (.slice none 0 0) from rfl)
        have y3:=RX4.frozen 0
        have y4:=RX4.frozen 1
        have y5:=RX4.frozen 2
        simp only [lgA,lgZ,lgS]
        go_simp
        obtain ⟨RN,O⟩:=RX4.set3 (.bool kp) (.slice ka kn kc) (.slice kd km ke)
        have RM:=RY4.off O (by omega)
        have hd:=hc4.trans (O.below hRX)
        refine hK _ _ (HBX _ hd) ?_
        clear hK K y0 y1 y2 y3 y4 y5 O
        generalize ((z4.setCell ⟨z2.heap.size,0,none⟩ (.bool kp)).setCell ⟨z2.heap.size,1,none⟩ (.slice ka kn kc)).setCell ⟨z2.heap.size,2,none⟩ (.slice kd km ke) = v0 at *
        refine wpAnyG.one 13 (by as_aux_lemma=>kernel_rfl) (by decide) (by rfl) (fun K hK=>?_)
        have y0:=(RM.cell 0).trans (show _ = some (.bool false) from rfl)
        have y1:=(RM.cell 1).trans (show _ = some (.slice none 0 0) from rfl)
        have y2:=(RM.cell 2).trans (show _ = some (.slice none 0 0) from rfl)
        have y3:=RM.frozen 0
        have y4:=RM.frozen 1
        have y5:=RM.frozen 2
        simp only [lgA,lgZ,lgS]
        go_simp
        obtain ⟨RP,O⟩:=RM.set3 (.bool ap) (.slice aa an ac) (.slice ad am ae)
        have RQ:=RN.off O (by omega)
        have he:=hd.trans (O.below hRY)
        refine hK _ _ (HBX _ he) ?_
        clear hK K y0 y1 y2 y3 y4 y5
        refine wpAnyG.done (by as_aux_lemma=>kernel_rfl) (NoPanic.normal ?_)
        exact ⟨rfl,_,_,_,_,_,_,_,_,_,_,z2.heap.size,z1.heap.size,rfl,RQ,RP,by omega,hRX,hRY,he⟩
     ·simp only [lgA,lgZ,lgS]
      go_simp
      have hx:=bel_d0 z0 (.cells #[.bool false,.slice none 0 0,.slice none 0 0] 29)
      have RX1:=Rw.new 29 z0 #[.bool false,.slice none 0 0,.slice none 0 0]
      have hc1:=bel_tr hc0 hx
      have hRX:U.heap.size≤z0.heap.size:=hc0.size
      refine hK _ _ (HBX _ hc1) ?_
      clear hK K hx
      generalize z0.alloc (.cells #[.bool false,.slice none 0 0,.slice none 0 0] 29) = z1 at *
      refine wpAnyG.two 6 11 (by as_aux_lemma=>kernel_rfl) (by decide) (by decide) (by rfl) (by rfl) (fun K hK=>?_) (fun K hK=>?_)
      ·simp only [lgA,lgZ,lgS]
       go_simp
       refine (HAT z1 hc1).mono ?_
       rintro e z2 ⟨rfl,hk⟩
       have hc2:=bel_tr hc1 hk
       have RX2:=RX1.below hk
       dsimp only
       refine hK _ _ (HBX _ hc2) ?_
       clear hK K hk
       refine wpAnyG.two 9 11 (by as_aux_lemma=>kernel_rfl) (by decide) (by decide) (by rfl) (by rfl) (fun K hK=>?_) (fun K hK=>?_)
       ·simp only [lgA,lgZ,lgS]
        refine wp_known _ _ _ rfl hfe rfl rfl (HFN z2 hc2) ?_
        intro z3 hk
        have hc3:=bel_tr hc2 hk
        have RX3:=RX2.below hk
        refine hK _ _ (HBX _ hc3) ?_
        clear hK K hk
        refine wpAnyG.one 11 (by as_aux_lemma=>kernel_rfl) (by decide) (by rfl) (fun K hK=>?_)
        simp only [lgA,lgZ,lgS]
        go_simp
        have hlt:=RX3.lt
        have hx:=bel_d0 z3 (.cells #[.bool false,.slice none 0 0,.slice none 0 0] 29)
        have RY4:=Rw.new 29 z3 #[.bool false,.slice none 0 0,.slice none 0 0]
        have hc4:=bel_tr hc3 hx
        have hRY:U.heap.size≤z3.heap.size:=hc3.size
        have RX4:=RX3.below hx
        refine hK _ _ (HBX _ hc4) ?_
        clear hK K hx
        generalize z3.alloc (.cells #[.bool false,.slice none 0 0,.slice none 0 0] 29) = z4 at *
        refine wpAnyG.one 12 (by as_aux_lemma=>kernel_rfl) (by decide) (by rfl) (fun K hK=>?_)
        have y0:=(RX4.cell 0).trans (show _ = some (.bool false) from rfl)
        have y1:=(RX4.cell 1).trans (show _ = some (.slice none 0 0) from rfl)
        have y2:=(RX4.cell 2).trans (show _ = some (.slice none 0 0) from rfl)
        have y3:=RX4.frozen 0
        have y4:=RX4.frozen 1
        have y5:=RX4.frozen 2
        simp only [lgA,lgZ,lgS]
        go_simp
        obtain ⟨RN,O⟩:=RX4.set3 (.bool kp) (.slice ka kn kc) (.slice kd km ke)
        have RM:=RY4.off O (by omega)
        have hd:=hc4.trans (O.below hRX)
        refine hK _ _ (HBX _ hd) ?_
        clear hK K y0 y1 y2 y3 y4 y5 O
        generalize ((z4.setCell ⟨z0.heap.size,0,none⟩ (.bool kp)).setCell ⟨z0.heap.size,1,none⟩ (.slice ka kn kc)).setCell ⟨z0.heap.size,2,none⟩ (.slice kd km ke) = v0 at *
        refine wpAnyG.one 13 (by as_aux_lemma=>kernel_rfl) (by decide) (by rfl) (fun K hK=>?_)
        have y0:=(RM.cell 0).trans (show _ = some (.bool false) from rfl)
        have y1:=(RM.cell 1).trans (show _ = some (.slice none 0 0) from rfl)
        have y2:=(RM.cell 2).trans (show _ = some (.slice none 0 0) from rfl)
        have y3:=RM.frozen 0
        have y4:=RM.frozen 1
        have y5:=RM.frozen 2
        simp only [lgA,lgZ,lgS]
        go_simp
        obtain ⟨RP,O⟩:=RM.set3 (.bool ap) (.slice aa an ac) (.slice ad am ae)
        have RQ:=RN.off O (by omega)
        have he:=hd.trans (O.below hRY)
        refine hK _ _ (HBX _ he) ?_
        clear hK K y0 y1 y2 y3 y4 y5
        refine wpAnyG.done (by as_aux_lemma=>kernel_rfl) (NoPanic.normal ?_)
        exact ⟨rfl,_,_,_,_,_,_,_,_,_,_,z0.heap.size,z3.heap.size,rfl,RQ,RP,by omega,hRX,hRY,he⟩
       ·simp only [lgA,lgZ,lgS]
        go_simp
        have hlt:=RX2.lt
        have hx:=bel_d0 z2 (.cells #[.bool false,.slice none 0 0,.slice none 0 0] 29)
        have RY3:=Rw.new 29 z2 #[.bool false,.slice none 0 0,.slice none 0 0]
        have hc3:=bel_tr hc2 hx
        have hRY:U.heap.size≤z2.heap.size:=hc2.size
        have RX3:=RX2.below hx
        refine hK _ _ (HBX _ hc3) ?_
        clear hK K hx
        generalize z2.alloc (.cells #[.bool false,.slice none 0 0,.slice none 0 0] 29) = z3 at *
        refine wpAnyG.one 9 (by as_aux_lemma=>kernel_rfl) (by decide) (by rfl) (fun K hK=>?_)
        simp only [lgA,lgZ,lgS]
        refine wp_known _ _ _ rfl hfe rfl rfl (HFN z3 hc3) ?_
        intro z4 hk
        have hc4:=bel_tr hc3 hk
        have RX4:=RX3.below hk
        have RY4:=RY3.below hk
        refine hK _ _ (HBX _ hc4) ?_
        clear hK K hk
        refine wpAnyG.one 12 (by as_aux_lemma=>kernel_rfl) (by decide) (by rfl) (fun K hK=>?_)
        have y0:=(RX4.cell 0).trans (show _ = some (.bool false) from rfl)
        have y1:=(RX4.cell 1).trans (show _ = some (.slice none 0 0) from rfl)
        have y2:=(RX4.cell 2).trans (show _ = some (.slice none 0 0) from rfl)
        have y3:=RX4.frozen 0
        have y4:=RX4.frozen 1
        have y5:=RX4.frozen 2
        simp only [lgA,lgZ,lgS]
        go_simp
        obtain ⟨RN,O⟩:=RX4.set3 (.bool kp) (.slice ka kn kc) (.slice kd km ke)
        have RM:=RY4.off O (by omega)
        have hd:=hc4.trans (O.below hRX)
        refine hK _ _ (HBX _ hd) ?_
        clear hK K y0 y1 y2 y3 y4 y5 O
        generalize ((z4.setCell ⟨z0.heap.size,0,none⟩ (.bool kp)).setCell ⟨z0.heap.size,1,none⟩ (.slice ka kn kc)).setCell ⟨z0.heap.size,2,none⟩ (.slice kd km ke) = v0 at *
        refine wpAnyG.one 13 (by as_aux_lemma=>kernel_rfl) (by decide) (by rfl) (fun K hK=>?_)
        have y0:=(RM.cell 0).trans (show _ = some (.bool false) from rfl)
        have y1:=(RM.cell 1).trans (show _ = some (.slice none 0 0) from rfl)
        have y2:=(RM.cell 2).trans (show _ = some (.slice none 0 0) from rfl)
        have y3:=RM.frozen 0
        have y4:=RM.frozen 1
        have y5:=RM.frozen 2
        simp only [lgA,lgZ,lgS]
        go_simp
        obtain ⟨RP,O⟩:=RM.set3 (.bool ap) (.slice aa an ac) (.slice ad am ae)
        have RQ:=RN.off O (by omega)
        have he:=hd.trans (O.below hRY)
        refine hK _ _ (HBX _ he) ?_
        clear hK K y0 y1 y2 y3 y4 y5
        refine wpAnyG.done (by as_aux_lemma=>kernel_rfl) (NoPanic.normal ?_)
        exact ⟨rfl,_,_,_,_,_,_,_,_,_,_,z0.heap.size,z2.heap.size,rfl,RQ,RP,by omega,hRX,hRY,he⟩
      ·simp only [lgA,lgZ,lgS]
       go_simp
       have hlt:=RX1.lt
       have hx:=bel_d0 z1 (.cells #[.bool false,.slice none 0 0,.slice none 0 0] 29)
       have RY2:=Rw.new 29 z1 #[.bool false,.slice none 0 0,.slice none 0 0]
       have hc2:=bel_tr hc1 hx
       have hRY:U.heap.size≤z1.heap.size:=hc1.size
       have RX2:=RX1.below hx
       refine hK _ _ (HBX _ hc2) ?_
       clear hK K hx
       generalize z1.alloc (.cells #[.bool false,.slice none 0 0,.slice none 0 0] 29) = z2 at *
       refine wpAnyG.one 6 (by as_aux_lemma=>kernel_rfl) (by decide) (by rfl) (fun K hK=>?_)
       simp only [lgA,lgZ,lgS]
       go_simp
       refine (HAT z2 hc2).mono ?_
       rintro e z3 ⟨rfl,hk⟩
       have hc3:=bel_tr hc2 hk
       have RX3:=RX2.below hk
       have RY3:=RY2.below hk
       dsimp only
       refine hK _ _ (HBX _ hc3) ?_
       clear hK K hk
       refine wpAnyG.one 9 (by as_aux_lemma=>kernel_rfl) (by decide) (by rfl) (fun K hK=>?_)
       simp only [lgA,lgZ,lgS]
       refine wp_known _ _ _ rfl hfe rfl rfl (HFN z3 hc3) ?_
       intro z4 hk
       have hc4:=bel_tr hc3 hk
       have RX4:=RX3.below hk
       have RY4:=RY3.below hk
       refine hK _ _ (HBX _ hc4) ?_
       clear hK K hk
       refine wpAnyG.one 12 (by as_aux_lemma=>kernel_rfl) (by decide) (by rfl) (fun K hK=>?_)
       have y0:=(RX4.cell 0).trans (show _ = some (.bool false) from rfl)
       have y1:=(RX4.cell 1).trans (show _ = some (.slice none 0 0) from rfl)
       have y2:=(RX4.cell 2).trans (show _ = some (.slice none 0 0) from rfl)
       have y3:=RX4.frozen 0
       have y4:=RX4.frozen 1
       have y5:=RX4.frozen 2
       simp only [lgA,lgZ,lgS]
       go_simp
       obtain ⟨RN,O⟩:=RX4.set3 (.bool kp) (.slice ka kn kc) (.slice kd km ke)
       have RM:=RY4.off O (by omega)
       have hd:=hc4.trans (O.below hRX)
       refine hK _ _ (HBX _ hd) ?_
       clear hK K y0 y1 y2 y3 y4 y5 O
       generalize ((z4.setCell ⟨z0.heap.size,0,none⟩ (.bool kp)).setCell ⟨z0.heap.size,1,none⟩ (.slice ka kn kc)).setCell ⟨z0.heap.size,2,none⟩ (.slice kd km ke) = v0 at *
       refine wpAnyG.one 13 (by as_aux_lemma=>kernel_rfl) (by decide) (by rfl) (fun K hK=>?_)
       have y0:=(RM.cell 0).trans (show _ = some (.bool false) from rfl)
       have y1:=(RM.cell 1).trans (show _ = some (.slice none 0 0) from rfl)
       have y2:=(RM.cell 2).trans (show _ = some (.slice none 0 0) from rfl)
       have y3:=RM.frozen 0
       have y4:=RM.frozen 1
       have y5:=RM.frozen 2
       simp only [lgA,lgZ,lgS]
       go_simp
       obtain ⟨RP,O⟩:=RM.set3 (.bool ap) (.slice aa an ac) (.slice ad am ae)
       have RQ:=RN.off O (by omega)
       have he:=hd.trans (O.below hRY)
       refine hK _ _ (HBX _ he) ?_
       clear hK K y0 y1 y2 y3 y4 y5
       refine wpAnyG.done (by as_aux_lemma=>kernel_rfl) (NoPanic.normal ?_)
       exact ⟨rfl,_,_,_,_,_,_,_,_,_,_,z0.heap.size,z1.heap.size,rfl,RQ,RP,by omega,hRX,hRY,he⟩
     ·simp only [lgA,lgZ,lgS]
      go_simp
      have hx:=bel_d0 z0 (.cells #[.bool false,.slice none 0 0,.slice none 0 0] 29)
      have RY1:=Rw.new 29 z0 #[.bool false,.slice none 0 0,.slice none 0 0]
      have hc1:=bel_tr hc0 hx
      have hRY:U.heap.size≤z0.heap.size:=hc0.size
      refine hK _ _ (HBX _ hc1) ?_
      clear hK K hx
      generalize z0.alloc (.cells #[.bool false,.slice none 0 0,.slice none 0 0] 29) = z1 at *
      refine wpAnyG.two 6 10 (by as_aux_lemma=>kernel_rfl) (by decide) (by decide) (by rfl) (by rfl) (fun K hK=>?_) (fun K hK=>?_)
      ·simp only [lgA,lgZ,lgS]
       go_simp
       refine (HAT z1 hc1).mono ?_
       rintro e z2 ⟨rfl,hk⟩
       have hc2:=bel_tr hc1 hk
       have RY2:=RY1.below hk
       dsimp only
       refine hK _ _ (HBX _ hc2) ?_
       clear hK K hk
       refine wpAnyG.two 9 10 (by as_aux_lemma=>kernel_rfl) (by decide) (by decide) (by rfl) (by rfl) (fun K hK=>?_) (fun K hK=>?_)
       ·simp only [lgA,lgZ,lgS]
        refine wp_known _ _ _ rfl hfe rfl rfl (HFN z2 hc2) ?_
        intro z3 hk
        have hc3:=bel_tr hc2 hk
        have RY3:=RY2.below hk
        refine hK _ _ (HBX _ hc3) ?_
        clear hK K hk
        refine wpAnyG.one 10 (by as_aux_lemma=>kernel_rfl) (by decide) (by rfl) (fun K hK=>?_)
        simp only [lgA,lgZ,lgS]
        go_simp
        have hlt:=RY3.lt
        have hx:=bel_d0 z3 (.cells #[.bool false,.slice none 0 0,.slice none 0 0] 29)
        have RX4:=Rw.new 29 z3 #[.bool false,.slice none 0 0,.slice none 0 0]
        have hc4:=bel_tr hc3 hx
        have hRX:U.heap.size≤z3.heap.size:=hc3.size
        have RY4:=RY3.below hx
        refine hK _ _ (HBX _ hc4) ?_
        clear hK K hx
        generalize z3.alloc (.cells #[.bool false,.slice none 0 0,.slice none 0 0] 29) = z4 at *
        refine wpAnyG.one 12 (by as_aux_lemma=>kernel_rfl) (by decide) (by rfl) (fun K hK=>?_)
        have y0:=(RX4.cell 0).trans (show _ = some (.bool false) from rfl)
        have y1:=(RX4.cell 1).trans (show _ = some (.slice none 0 0) from rfl)
        have y2:=(RX4.cell 2).trans (show _ = some (.slice none 0 0) from rfl)
        have y3:=RX4.frozen 0
        have y4:=RX4.frozen 1
        have y5:=RX4.frozen 2
        simp only [lgA,lgZ,lgS]
        go_simp
        obtain ⟨RN,O⟩:=RX4.set3 (.bool kp) (.slice ka kn kc) (.slice kd km ke)
        have RM:=RY4.off O (by omega)
        have hd:=hc4.trans (O.below hRX)
        refine hK _ _ (HBX _ hd) ?_
        clear hK K y0 y1 y2 y3 y4 y5 O
        generalize ((z4.setCell ⟨z3.heap.size,0,none⟩ (.bool kp)).setCell ⟨z3.heap.size,1,none⟩ (.slice ka kn kc)).setCell ⟨z3.heap.size,2,none⟩ (.slice kd km ke) = v0 at *
        refine wpAnyG.one 13 (by as_aux_lemma=>kernel_rfl) (by decide) (by rfl) (fun K hK=>?_)
        have y0:=(RM.cell 0).trans (show _ = some (.bool false) from rfl)
        have y1:=(RM.cell 1).trans (show _ = some (.slice none 0 0) from rfl)
        have y2:=(RM.cell 2).trans (show _ = some (.slice none 0 0) from rfl)
        have y3:=RM.frozen 0
        have y4:=RM.frozen 1
        have y5:=RM.frozen 2
        simp only [lgA,lgZ,lgS]
        go_simp
        obtain ⟨RP,O⟩:=RM.set3 (.bool ap) (.slice aa an ac) (.slice ad am ae)
        have RQ:=RN.off O (by omega)
        have he:=hd.trans (O.below hRY)
        refine hK _ _ (HBX _ he) ?_
        clear hK K y0 y1 y2 y3 y4 y5
        refine wpAnyG.done (by as_aux_lemma=>kernel_rfl) (NoPanic.normal ?_)
        exact ⟨rfl,_,_,_,_,_,_,_,_,_,_,z3.heap.size,z0.heap.size,rfl,RQ,RP,by omega,hRX,hRY,he⟩
       ·simp only [lgA,lgZ,lgS]
        go_simp
        have hlt:=RY2.lt
        have hx:=bel_d0 z2 (.cells #[.bool false,.slice none 0 0,.slice none 0 0] 29)
        have RX3:=Rw.new 29 z2 #[.bool false,.slice none 0 0,.slice none 0 0]
        have hc3:=bel_tr hc2 hx
        have hRX:U.heap.size≤z2.heap.size:=hc2.size
        have RY3:=RY2.below hx
        refine hK _ _ (HBX _ hc3) ?_
        clear hK K hx
        generalize z2.alloc (.cells #[.bool false,.slice none 0 0,.slice none 0 0] 29) = z3 at *
        refine wpAnyG.one 9 (by as_aux_lemma=>kernel_rfl) (by decide) (by rfl) (fun K hK=>?_)
        simp only [lgA,lgZ,lgS]
        refine wp_known _ _ _ rfl hfe rfl rfl (HFN z3 hc3) ?_
        intro z4 hk
        have hc4:=bel_tr hc3 hk
        have RY4:=RY3.below hk
        have RX4:=RX3.below hk
        refine hK _ _ (HBX _ hc4) ?_
        clear hK K hk
        refine wpAnyG.one 12 (by as_aux_lemma=>kernel_rfl) (by decide) (by rfl) (fun K hK=>?_)
        have y0:=(RX4.cell 0).trans (show _ = some (.bool false) from rfl)
        have y1:=(RX4.cell 1).trans (show _ = some (.slice none 0 0) from rfl)
        have y2:=(RX4.cell 2).trans (show _ = some (.slice none 0 0) from rfl)
        have y3:=RX4.frozen 0
        have y4:=RX4.frozen 1
        have y5:=RX4.frozen 2
        simp only [lgA,lgZ,lgS]
        go_simp
        obtain ⟨RN,O⟩:=RX4.set3 (.bool kp) (.slice ka kn kc) (.slice kd km ke)
        have RM:=RY4.off O (by omega)
        have hd:=hc4.trans (O.below hRX)
        refine hK _ _ (HBX _ hd) ?_
        clear hK K y0 y1 y2 y3 y4 y5 O
        generalize ((z4.setCell ⟨z2.heap.size,0,none⟩ (.bool kp)).setCell ⟨z2.heap.size,1,none⟩ (.slice ka kn kc)).setCell ⟨z2.heap.size,2,none⟩ (.slice kd km ke) = v0 at *
        refine wpAnyG.one 13 (by as_aux_lemma=>kernel_rfl) (by decide) (by rfl) (fun K hK=>?_)
        have y0:=(RM.cell 0).trans (show _ = some (.bool false) from rfl)
        have y1:=(RM.cell 1).trans (show _ = some (.slice none 0 0) from rfl)
        have y2:=(RM.cell 2).trans (show _ = some (.slice none 0 0) from rfl)
        have y3:=RM.frozen 0
        have y4:=RM.frozen 1
        have y5:=RM.frozen 2
        simp only [lgA,lgZ,lgS]
        go_simp
        obtain ⟨RP,O⟩:=RM.set3 (.bool ap) (.slice aa an ac) (.slice ad am ae)
        have RQ:=RN.off O (by omega)
        have he:=hd.trans (O.below hRY)
        refine hK _ _ (HBX _ he) ?_
        clear hK K y0 y1 y2 y3 y4 y5
        refine wpAnyG.done (by as_aux_lemma=>kernel_rfl) (NoPanic.normal ?_)
        exact ⟨rfl,_,_,_,_,_,_,_,_,_,_,z2.heap.size,z0.heap.size,rfl,RQ,RP,by omega,hRX,hRY,he⟩
      ·simp only [lgA,lgZ,lgS]
       go_simp
       have hlt:=RY1.lt
       have hx:=bel_d0 z1 (.cells #[.bool false,.slice none 0 0,.slice none 0 0] 29)
       have RX2:=Rw.new 29 z1 #[.bool false,.slice none 0 0,.slice none 0 0]
       have hc2:=bel_tr hc1 hx
       have hRX:U.heap.size≤z1.heap.size:=hc1.size
       have RY2:=RY1.below hx
       refine hK _ _ (HBX _ hc2) ?_
       clear hK K hx
       generalize z1.alloc (.cells #[.bool false,.slice none 0 0,.slice none 0 0] 29) = z2 at *
       refine wpAnyG.one 6 (by as_aux_lemma=>kernel_rfl) (by decide) (by rfl) (fun K hK=>?_)
       simp only [lgA,lgZ,lgS]
       go_simp
       refine (HAT z2 hc2).mono ?_
       rintro e z3 ⟨rfl,hk⟩
       have hc3:=bel_tr hc2 hk
       have RY3:=RY2.below hk
       have RX3:=RX2.below hk
       dsimp only
       refine hK _ _ (HBX _ hc3) ?_
       clear hK K hk
       refine wpAnyG.one 9 (by as_aux_lemma=>kernel_rfl) (by decide) (by rfl) (fun K hK=>?_)
       simp only [lgA,lgZ,lgS]
       refine wp_known _ _ _ rfl hfe rfl rfl (HFN z3 hc3) ?_
       intro z4 hk
       have hc4:=bel_tr hc3 hk
       have RY4:=RY3.below hk
       have RX4:=RX3.below hk
       refine hK _ _ (HBX _ hc4) ?_
       clear hK K hk
       refine wpAnyG.one 12 (by as_aux_lemma=>kernel_rfl) (by decide) (by rfl) (fun K hK=>?_)
       have y0:=(RX4.cell 0).trans (show _ = some (.bool false) from rfl)
       have y1:=(RX4.cell 1).trans (show _ = some (.slice none 0 0) from rfl)
       have y2:=(RX4.cell 2).trans (show _ = some (.slice none 0 0) from rfl)
       have y3:=RX4.frozen 0
       have y4:=RX4.frozen 1
       have y5:=RX4.frozen 2
       simp only [lgA,lgZ,lgS]
       go_simp
       obtain ⟨RN,O⟩:=RX4.set3 (.bool kp) (.slice ka kn kc) (.slice kd km ke)
       have RM:=RY4.off O (by omega)
       have hd:=hc4.trans (O.below hRX)
       refine hK _ _ (HBX _ hd) ?_
       clear hK K y0 y1 y2 y3 y4 y5 O
       generalize ((z4.setCell ⟨z1.heap.size,0,none⟩ (.bool kp)).setCell ⟨z1.heap.size,1,none⟩ (.slice ka kn kc)).setCell ⟨z1.heap.size,2,none⟩ (.slice kd km ke) = v0 at *
       refine wpAnyG.one 13 (by as_aux_lemma=>kernel_rfl) (by decide) (by rfl) (fun K hK=>?_)
       have y0:=(RM.cell 0).trans (show _ = some (.bool false) from rfl)
       have y1:=(RM.cell 1).trans (show _ = some (.slice none 0 0) from rfl)
       have y2:=(RM.cell 2).trans (show _ = some (.slice none 0 0) from rfl)
       have y3:=RM.frozen 0
       have y4:=RM.frozen 1
       have y5:=RM.frozen 2
       simp only [lgA,lgZ,lgS]
       go_simp
       obtain ⟨RP,O⟩:=RM.set3 (.bool ap) (.slice aa an ac) (.slice ad am ae)
       have RQ:=RN.off O (by omega)
       have he:=hd.trans (O.below hRY)
       refine hK _ _ (HBX _ he) ?_
       clear hK K y0 y1 y2 y3 y4 y5
       refine wpAnyG.done (by as_aux_lemma=>kernel_rfl) (NoPanic.normal ?_)
       exact ⟨rfl,_,_,_,_,_,_,_,_,_,_,z1.heap.size,z0.heap.size,rfl,RQ,RP,by omega,hRX,hRY,he⟩
    ·rintro a' W3 ⟨u1,u2,u3,u4,u5,u6,u7,u8,u9,u10,RA,RB,rfl,KA,KB,hne,hRA,hRB,hb3⟩
     simp only [Act.put,List.setIfInBounds_toArray,List.set_cons_zero,List.set_cons_succ]
     have V3:=V2.below hb3
     have GS3:=GS2.below hb3
     have RR3:=RR2.below hb3
     have hbW:=bel_tr hbU hb3
     have hs3:=hb3.size
     have ZK3:=ZK.below hbW
     have ZA3:=ZA.below hbW
     have hT3:=hT.below hbW
     obtain ⟨sk,esk⟩:∃ sk,sk = kk.num.sign:=⟨_,rfl⟩
     have ESK:Hid (sk = kk.num.sign):=esk
     obtain ⟨sg,esg⟩:∃ sg,sg = aq.num.sign:=⟨_,rfl⟩
     have ESG:Hid (sg = aq.num.sign):=esg
     have k0:=(KA.cell 0).trans (show _ = some (.bool kp) from rfl)
     have k1:=(KA.cell 1).trans (show _ = some (.slice ka kn kc) from rfl)
     have k2:=(KA.cell 2).trans (show _ = some (.slice kd km ke) from rfl)
     clear esk esg HBX HAT HFN V2 GS2 RR2 hbU xr2 BX ZK ZA
     go_wp2_with fail
     clear k0 k1 k2
     refine (rsignB sk W3 ZK3.tr (by omega) hSc ESK.out).mono ?_
     rintro e W3a ⟨rfl,hb4⟩
     replace V3:=V3.below hb4
     replace GS3:=GS3.below hb4
     replace RR3:=RR3.below hb4
     replace hbW:=bel_tr hbW hb4
     replace ZK3:=ZK3.below hb4
     replace ZA3:=ZA3.below hb4
     replace hT3:=hT3.below hb4
     replace KA:=KA.below hb4
     replace KB:=KB.below hb4
     have hs4:=hb4.size
     clear hb4
     by_cases hk0:kk = 0
     ·obtain rfl:sk = 0:=by rw [ESK.out,hk0];rfl
      have G2:GX W3a (w.heap.size + 1) R5 sp sa sn sc sd sm se (rsum (bco X lc A) (i + 1)) T:=⟨GS3.1.val (by rw [HRS.out,HBC.out,← HKK.out,hk0];grind),GS3.2⟩
      clear KA KB ZK3 ZA3 GS3 hT3 hb3
      go_wp2
      go_roundw
      case rel=>first | exact ⟨i + 1,sp,sa,sn,sc,sd,sm,se,by omega,by go_num,V3,G2,RR3,hbW,by omega⟩ | ((repeat apply Exists.intro);refine ⟨?_,rfl⟩;exact ⟨i + 1,sp,sa,sn,sc,sd,sm,se,by omega,by go_num,V3,G2,RR3,hbW,by omega⟩)
      case measure=>simp [intOf];omega
     ·have hsk:¬ sk = 0:=fun e=>hk0 (by
       have h1:=ESK.out
       rw [e] at h1
       exact Rat.num_eq_zero.1 (Int.sign_eq_zero_iff_zero.1 h1.symm))
      have hsk2:(sk == 0) = false:=by simpa using hsk
      have hsk3:(sk != 0) = true:=by simpa using hsk
      have k0:=(KB.cell 0).trans (show _ = some (.bool ap) from rfl)
      have k1:=(KB.cell 1).trans (show _ = some (.slice aa an ac) from rfl)
      have k2:=(KB.cell 2).trans (show _ = some (.slice ad am ae) from rfl)
      go_wp2_with fail
      clear k0 k1 k2
      refine (rsignB sg W3a ZA3.tr (by omega) hS ESG.out).mono ?_
      rintro e W4 ⟨rfl,hb4⟩
      have V4:=V3.below hb4
      have GS:=GS3.below hb4
      have RR4:=RR3.below hb4
      replace hbW:=bel_tr hbW hb4
      have ZK:=(ZK3.below hb4).tr
      have ZA:=(ZA3.below hb4).tr
      have hT4:=hT3.below hb4
      replace KA:=KA.below hb4
      replace KB:=KB.below hb4
      have hs5:=hb4.size
      clear hb4 V3 GS3 RR3 ZK3 ZA3 hT3 hb3
      by_cases ha0:aq = 0
      ·obtain rfl:sg = 0:=by rw [ESG.out,ha0];rfl
       have G2:GX W4 (w.heap.size + 1) R5 sp sa sn sc sd sm se (rsum (bco X lc A) (i + 1)) T:=⟨GS.1.val (by rw [HRS.out,HBC.out,← HAQ.out,ha0];grind),GS.2⟩
       clear KA KB ZK ZA GS hT4
       go_wp2
       go_roundw
       case rel=>first | exact ⟨i + 1,sp,sa,sn,sc,sd,sm,se,by omega,by go_num,V4,G2,RR4,hbW,by omega⟩ | ((repeat apply Exists.intro);refine ⟨?_,rfl⟩;exact ⟨i + 1,sp,sa,sn,sc,sd,sm,se,by omega,by go_num,V4,G2,RR4,hbW,by omega⟩)
       case measure=>simp [intOf];omega
      ·have hsg:¬ sg = 0:=fun e=>ha0 (by
        have h1:=ESG.out
        rw [e] at h1
        exact Rat.num_eq_zero.1 (Int.sign_eq_zero_iff_zero.1 h1.symm))
       have hsg2:(sg == 0) = false:=by simpa using hsg
       have hsg3:(sg != 0) = true:=by simpa using hsg
       have HB8:∀ w',Below W4.heap.size W4 w'→(w'.cell? ⟨R5,0,none⟩ = some (.bool sp)∧w'.cell? ⟨R5,1,none⟩ = some (.slice sa sn sc)∧w'.cell? ⟨R5,2,none⟩ = some (.slice sd sm se)∧w'.cell? ⟨RA,0,none⟩ = some (.bool kp)∧w'.cell? ⟨RA,1,none⟩ = some (.slice ka kn kc)∧w'.cell? ⟨RA,2,none⟩ = some (.slice kd km ke)∧w'.cell? ⟨RB,0,none⟩ = some (.bool ap)∧w'.cell? ⟨RB,1,none⟩ = some (.slice aa an ac)∧w'.cell? ⟨RB,2,none⟩ = some (.slice ad am ae)):=fun w' h=>⟨kept_c h V4.c0,kept_c h V4.c1,kept_c h V4.c2,kept_c h ((KA.cell 0).trans rfl),kept_c h ((KA.cell 1).trans rfl),kept_c h ((KA.cell 2).trans rfl),kept_c h ((KB.cell 0).trans rfl),kept_c h ((KB.cell 1).trans rfl),kept_c h ((KB.cell 2).trans rfl)⟩
       go_wp2_with fail
       refine wp_region_noPanic (wp_region_guardT 5 HB8 (by as_aux_lemma=>kernel_rfl) ?_)
       have hc0:Below W4.heap.size W4 W4.drew:=bel_d1 _
       generalize W4.drew = y0 at *
       refine wpAnyG.tT 0 (v:=.agg #[.bool sp,.slice sa sn sc,.slice sd sm se]) (by decide) 5 (by as_aux_lemma=>kernel_rfl) (by rfl) ?y0 (HB8 _ hc0) ?_
       case y0 =>
        rintro w' ⟨q0,q1,q2,q3,q4,q5,q6,q7,q8⟩
        simp only [lgA,lgZ]
        go_simp
       simp only [lgA,lgZ,Act.put,lsA,lsZ,lsS]
       refine wpAnyG.tT 1 (v:=.agg #[.bool kp,.slice ka kn kc,.slice kd km ke]) (by decide) 5 (by as_aux_lemma=>kernel_rfl) (by rfl) ?y1 (HB8 _ hc0) ?_
       case y1 =>
        rintro w' ⟨q0,q1,q2,q3,q4,q5,q6,q7,q8⟩
        simp only [lgA,lgZ,lgS]
        go_simp
       simp only [lgA,lgZ,lgS,Act.put,lsA,lsZ,lsS]
       refine wpAnyG.tT 2 (v:=.agg #[.bool ap,.slice aa an ac,.slice ad am ae]) (by decide) 5 (by as_aux_lemma=>kernel_rfl) (by rfl) ?y2 (HB8 _ hc0) ?_
       case y2 =>
        rintro w' ⟨q0,q1,q2,q3,q4,q5,q6,q7,q8⟩
        simp only [lgA,lgZ,lgS]
        go_simp
       simp only [lgA,lgZ,lgS,Act.put,lsA,lsZ,lsS]
       refine wpAnyG.one 3 (by as_aux_lemma=>kernel_rfl) (by decide) (by rfl) (fun K hK=>?_)
       simp only [lgA,lgZ,lgS]
       go_simp
       refine (mulQ y0 (ZK.below hc0) (ZA.below hc0) hTT.2.1 hSc hS (hT4.below hc0)).mono ?_
       rintro e y1 ⟨g4,v4,i4,j4,o4,t4,x4,rfl,G4,hk1⟩
       have hc1:Below W4.heap.size W4 y1:=bel_tr hc0 hk1
       dsimp only
       refine hK _ _ ⟨fun _=>HB8 _ hc1,fun _=>trivial⟩ ?_
       clear hK K
       refine wpAnyG.one 4 (by as_aux_lemma=>kernel_rfl) (by decide) (by rfl) (fun K hK=>?_)
       simp only [lgA,lgZ,lgS]
       go_simp
       refine (addQ y1 (GS.1.tr.below hc1) G4.tr hTT.2.2 hTT.1 (by omega) (hT4.below hc1)).mono ?_
       rintro e y2 ⟨g5,v5,i5,j5,o5,t5,x5,rfl,G5,hk2⟩
       have hc2:Below W4.heap.size W4 y2:=bel_tr hc1 hk2
       dsimp only
       refine hK _ _ ⟨fun _=>HB8 _ hc2,fun _=>trivial⟩ ?_
       clear hK K
       refine wpAnyG.one 5 (by as_aux_lemma=>kernel_rfl) (by decide) (by rfl) (fun K hK=>?_)
       simp only [lgA,lgZ,lgS]
       have VS:=V4.below hc2
       obtain ⟨y0,y1,y2,y3,y4,y5⟩:=id VS
       go_simp
       refine hK _ _ ⟨fun h=>absurd h (by decide),fun _=>trivial⟩ ?_
       clear hK K
       refine wpAnyG.done (by as_aux_lemma=>kernel_rfl) (NoPanic.normal ?_)
       have hsy:=hc1.size
       have HS1:Hid (SzR (rsum (bco X lc A) i + kk * aq) T):=by
        have h1:=HZ.out (i + 1) (by omega)
        rw [HRS.out,HBC.out,← HKK.out,← HAQ.out] at h1
        exact h1
       have GN:=((G5.fit HS1.out).gx (R:=R5) (.inl (by omega))).mono (B':=w.heap.size + 1) (by omega)
       obtain ⟨V',O⟩:=VS.set (.bool g5) (.slice v5 i5 j5) (.slice o5 t5 x5)
       have R':=(RR4.below hc2).off O (by omega)
       have hbel':Below w.heap.size w _:=(bel_tr hbW hc2).trans (O.below (by omega))
       have GN':=GN.off O
       have GN2:GX _ (w.heap.size + 1) R5 g5 v5 i5 j5 o5 t5 x5 (rsum (bco X lc A) (i + 1)) T:=⟨GN'.1.val (by rw [HRS.out,HBC.out,← HKK.out,← HAQ.out]),GN'.2⟩
       have hsO:=O.size
       have hs2':=hc2.size
       clear HB8 V4 GS RR4 hbW ZK ZA hT4 KA KB VS G4 G5 GN GN' O hc0 hc1 hc2 hk1 hk2 y0 y1 y2 y3 y4 y5
       go_wp2
       go_roundw
       case rel=>first | exact ⟨i + 1,_,_,_,_,_,_,_,by omega,by go_num,V',GN2,R',hbel',by omega⟩ | ((repeat apply Exists.intro);refine ⟨?_,rfl⟩;exact ⟨i + 1,_,_,_,_,_,_,_,by omega,by go_num,V',GN2,R',hbel',by omega⟩)
       case measure=>simp [intOf];omega
  ·have hiI:¬ (i:Int) < (m:Int):=by omega
   obtain rfl:i = m:=by omega
   obtain ⟨v0,v1,v2,v3,v4,v5⟩:=id V5
   obtain ⟨r0,r1,r2,r3,r4,r5⟩:=id RR
   obtain ⟨VV,O⟩:=RR.set (.bool sp) (.slice sa sn sc) (.slice sd sm se)
   have GF:=(GS.1.off O (by omega)).mono (B':=w.heap.size) (by omega)
   rw [HM.out] at GF
   have hw:=hbw.trans (O.below (by omega))
   clear RR O GS hbw V5
   go_wp2
   exact bodyPost_ret (v:=.agg #[.bool sp,.slice sa sn sc,.slice sd sm se]) (by simp [results,Tryz.results44,go_sem,VV.c0,VV.c1,VV.c2]) rfl ⟨_,_,_,_,_,_,_,rfl,GF,hw⟩
end Go.Proofs.YtjiodidemimgmaaGreatDoor
