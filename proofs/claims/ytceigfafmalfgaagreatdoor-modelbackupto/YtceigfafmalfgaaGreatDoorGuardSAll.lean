import Derived.Test.YtceigfafmalfgaaGreatDoorWhEAll
import Derived.Test.YtceigfafmalfgaaGreatDoorPqCAll
import Derived.Deep.RegionHeld3
import Derived.Test.YtceigfafmalfgaaGreatDoorMbB
import Derived.Test.YtceigfafmalfgaaGreatDoorPrLBll
namespace Go.Proofs.YtceigfafmalfgaaGreatDoor
open Go.RowKit
end Go.Proofs.YtceigfafmalfgaaGreatDoor
namespace Go.Proofs.YtceigfafmalfgaaGreatDoor
open Go.RowKit Go.Maps
def setL (v:PV) (sl sh hl:Bool) (lo:Rat) (hh:Bool) (hi:Rat):PV :=
 { v with hlo:=if sl=true then hl else v.hlo,lo:=if sl=true then lo else v.lo,hhi:=if sh=true then hh else v.hhi,hi:=if sh=true then hi else v.hi }
set_option maxRecDepth 100000 in
set_option maxHeartbeats 8000000 in
theorem limitedQ {w0 w:World} {B g n m:Nat} {V:Nat→PV} {Y:Nat→Nat} (h:VS w0 w B g n m V Y) (hmn:m≤n) {j:Nat} (hj:j<m) {nm:ByteArray} {ln cl:Int} {sl sh hl hh:Bool} {p2 p3:Bool} {a2 a3:Option Addr} {n2 k2 n3 k3:Nat} {d2 d3:Option Addr} {m2 l2 m3 l3:Nat} {lo hi:Rat}
  (hlo:ON w0 w B [.bool p2,.slice a2 n2 k2,.slice d2 m2 l2] lo (Y j)) (hhi:ON w0 w B [.bool p3,.slice a3 n3 k3,.slice d3 m3 l3] hi (Y j)) :
  Calls Tryz.prog 34 #[.pointer (some ⟨g,j*13,none⟩),.agg #[.string nm,.int .i64 ln,.int .i64 cl,.bool sl,.bool sh,.bool hl,.bool p2,.slice a2 n2 k2,.slice d2 m2 l2,.bool hh,.bool p3,.slice a3 n3 k3,.slice d3 m3 l3]] w fun e w'=>e = .returned (.tuple #[])∧VS w0 w' B g n m (fun i=>if i=j then setL (V j) sl sh hl lo hh hi else V i) Y∧Near g w w':=by
 have hb:=bel_d0 w (.cells #[.string nm,.int .i64 ln,.int .i64 cl,.bool sl,.bool sh,.bool hl,.bool p2,.slice a2 n2 k2,.slice d2 m2 l2,.bool hh,.bool p3,.slice a3 n3 k3,.slice d3 m3 l3] 77)
 have Lb:=box_new w #[.string nm,.int .i64 ln,.int .i64 cl,.bool sl,.bool sh,.bool hl,.bool p2,.slice a2 n2 k2,.slice d2 m2 l2,.bool hh,.bool p3,.slice a3 n3 k3,.slice d3 m3 l3] 77
 have y3:=Lb 3 _ rfl
 have y4:=Lb 4 _ rfl
 have y5:=Lb 5 _ rfl
 have y6:=Lb 6 _ rfl
 have y7:=Lb 7 _ rfl
 have y8:=Lb 8 _ rfl
 have y9:=Lb 9 _ rfl
 have y10:=Lb 10 _ rfl
 have y11:=Lb 11 _ rfl
 have y12:=Lb 12 _ rfl
 have hgl:=h.lt
 replace h:=h.below hb
 replace hlo:=hlo.below hb
 replace hhi:=hhi.below hb
 have hne:w.heap.size≠g:=by omega
 have hN:Near g w _:=near_of hb
 have HJ:Hid (j<m∧m≤n):=⟨hj,hmn⟩
 clear hj hmn
 cases sl with
 | false =>
  cases sh with
  | false =>
   go_enter Tryz.func34,Tryz.ntmps34
   go_wp2
   go_end0
   exact ⟨rfl,h.congr (fun i _=>by by_cases e:i=j <;> simp [e,setL]),hN⟩
  | true =>
   go_enter Tryz.func34,Tryz.ntmps34
   obtain ⟨W,hW⟩:∃ W,W=w.alloc (.cells #[.string nm,.int .i64 ln,.int .i64 cl,.bool false,.bool true,.bool hl,.bool p2,.slice a2 n2 k2,.slice d2 m2 l2,.bool hh,.bool p3,.slice a3 n3 k3,.slice d3 m3 l3] 77):=⟨_,rfl⟩
   rw [← hW] at h hlo hhi y3 y4 y5 y6 y7 y8 y9 y10 y11 y12 hN
   have t2:W.there g (j*13+8) 4:=h.there (by have:=HJ.out;omega)
   have P2:=h.putHi (hh:=hh) HJ.out.1 HJ.out.2 hhi
   have O2:=cellsOff g [.bool hh,.bool p3,.slice a3 n3 k3,.slice d3 m3 l3] (j*13+8) W
   replace hN:=hN.trans O2.near
   rw [hW] at t2 P2 hN y3 y4 y9 y10 y11 y12
   clear hW O2 h hlo hhi
   go_wp2_with (refine wpList_store_mid rfl 49 _ _ rfl g (j*13+8) #[.bool hh,.bool p3,.slice a3 n3 k3,.slice d3 m3 l3] rfl rfl t2 bndI (by simp [Value.oneCell']) ?_)
   go_wp2
   go_end0
   exact ⟨rfl,P2.congr (fun i _=>by by_cases e:i=j <;> simp [e,setL]),hN⟩
 | true =>
  cases sh with
  | false =>
   go_enter Tryz.func34,Tryz.ntmps34
   obtain ⟨W,hW⟩:∃ W,W=w.alloc (.cells #[.string nm,.int .i64 ln,.int .i64 cl,.bool true,.bool false,.bool hl,.bool p2,.slice a2 n2 k2,.slice d2 m2 l2,.bool hh,.bool p3,.slice a3 n3 k3,.slice d3 m3 l3] 77):=⟨_,rfl⟩
   rw [← hW] at h hlo hhi y3 y4 y5 y6 y7 y8 y9 y10 y11 y12 hN
   have t1:W.there g (j*13+4) 4:=h.there (by have:=HJ.out;omega)
   have P1:=h.putLo (hh:=hl) HJ.out.1 HJ.out.2 hlo
   have O1:=cellsOff g [.bool hl,.bool p2,.slice a2 n2 k2,.slice d2 m2 l2] (j*13+4) W
   have z4:(W.setCells g (j*13+4) [.bool hl,.bool p2,.slice a2 n2 k2,.slice d2 m2 l2]).cell? ⟨w.heap.size,4,none⟩=some (.bool false):=(O1.cell hne).trans y4
   replace hN:=hN.trans O1.near
   obtain ⟨W1,hW1⟩:∃ W1,W1=W.setCells g (j*13+4) [.bool hl,.bool p2,.slice a2 n2 k2,.slice d2 m2 l2]:=⟨_,rfl⟩
   rw [← hW1] at P1 z4 hN
   have HW1:Hid (W1=W.setCells g (j*13+4) [.bool hl,.bool p2,.slice a2 n2 k2,.slice d2 m2 l2]):=hW1
   clear hW1
   rw [hW] at t1 HW1 y3 y5 y6 y7 y8
   clear hW O1 h hlo hhi y4 y9 y10 y11 y12 Lb hb
   go_wp2_with (refine wpList_storeW rfl 49 _ _ rfl g (j*13+4) #[.bool hl,.bool p2,.slice a2 n2 k2,.slice d2 m2 l2] rfl rfl t1 bndI (by simp [Value.oneCell']) W1 HW1 ?_;clear HW1 t1 y3 y5 y6 y7 y8)
   go_wp2
   go_end0
   exact ⟨rfl,P1.congr (fun i _=>by by_cases e:i=j <;> simp [e,setL]),hN⟩
  | true =>
   go_enter Tryz.func34,Tryz.ntmps34
   obtain ⟨W,hW⟩:∃ W,W=w.alloc (.cells #[.string nm,.int .i64 ln,.int .i64 cl,.bool true,.bool true,.bool hl,.bool p2,.slice a2 n2 k2,.slice d2 m2 l2,.bool hh,.bool p3,.slice a3 n3 k3,.slice d3 m3 l3] 77):=⟨_,rfl⟩
   rw [← hW] at h hlo hhi y3 y4 y5 y6 y7 y8 y9 y10 y11 y12 hN
   have t1:W.there g (j*13+4) 4:=h.there (by have:=HJ.out;omega)
   have P1:=h.putLo (hh:=hl) HJ.out.1 HJ.out.2 hlo
   have O1:=cellsOff g [.bool hl,.bool p2,.slice a2 n2 k2,.slice d2 m2 l2] (j*13+4) W
   have hhi1:=hhi.keep h.noW O1.grown
   have z4:=(O1.cell (p:=⟨w.heap.size,4,none⟩) hne).trans y4
   have z9:=(O1.cell (p:=⟨w.heap.size,9,none⟩) hne).trans y9
   have z10:=(O1.cell (p:=⟨w.heap.size,10,none⟩) hne).trans y10
   have z11:=(O1.cell (p:=⟨w.heap.size,11,none⟩) hne).trans y11
   have z12:=(O1.cell (p:=⟨w.heap.size,12,none⟩) hne).trans y12
   replace hN:=hN.trans O1.near
   obtain ⟨W1,hW1⟩:∃ W1,W1=W.setCells g (j*13+4) [.bool hl,.bool p2,.slice a2 n2 k2,.slice d2 m2 l2]:=⟨_,rfl⟩
   rw [← hW1] at P1 z4 z9 z10 z11 z12 hN hhi1
   have HW1:Hid (W1=W.setCells g (j*13+4) [.bool hl,.bool p2,.slice a2 n2 k2,.slice d2 m2 l2]):=hW1
   clear hW1
   rw [hW] at t1 HW1 y3 y5 y6 y7 y8
   clear hW O1 h hlo hhi y4 y9 y10 y11 y12 Lb hb
   have t2:W1.there g (j*13+8) 4:=P1.there (by have:=HJ.out;omega)
   have P2:=P1.putHi (hh:=hh) HJ.out.1 HJ.out.2 hhi1
   have O2:=cellsOff g [.bool hh,.bool p3,.slice a3 n3 k3,.slice d3 m3 l3] (j*13+8) W1
   replace hN:=hN.trans O2.near
   obtain ⟨W2,hW2⟩:∃ W2,W2=W1.setCells g (j*13+8) [.bool hh,.bool p3,.slice a3 n3 k3,.slice d3 m3 l3]:=⟨_,rfl⟩
   rw [← hW2] at P2 hN
   have HW2:Hid (W2=W1.setCells g (j*13+8) [.bool hh,.bool p3,.slice a3 n3 k3,.slice d3 m3 l3]):=hW2
   clear P1 hhi1 O2 hW2
   go_wp2_with (first|(refine wpList_storeW rfl 49 _ _ rfl g (j*13+4) #[.bool hl,.bool p2,.slice a2 n2 k2,.slice d2 m2 l2] rfl rfl t1 bndI (by simp [Value.oneCell']) W1 HW1 ?_;clear HW1 t1 y3 y5 y6 y7 y8)|(refine wpList_storeW rfl 49 _ _ rfl g (j*13+8) #[.bool hh,.bool p3,.slice a3 n3 k3,.slice d3 m3 l3] rfl rfl t2 bndI (by simp [Value.oneCell']) W2 HW2 ?_;clear HW2 t2))
   go_wp2
   go_end0
   exact ⟨rfl,P2.congr (fun i _=>by by_cases e:i=j <;> simp [e,setL]),hN⟩
end Go.Proofs.YtceigfafmalfgaaGreatDoor
namespace Go.Proofs.YtceigfafmalfgaaGreatDoor
open Go.RowKit Go.Maps
theorem make1V (w:World):(Instr.makeSlice 28 (.int .i64 1) (.int .i64 1)).run Tryz.prog w = .ok (.slice (some ⟨w.heap.size,0,none⟩) 1 1) (w.alloc (.cells #[.string ⟨#[]⟩,.bool false,.slice none 0 0,.slice none 0 0,.bool false,.bool false,.slice none 0 0,.slice none 0 0,.bool false,.bool false,.slice none 0 0,.slice none 0 0,.bool false] 51)):=by kernel_rfl
theorem varI:(Tryz.prog.info? 51).map (·.size)=some 13:=by kernel_rfl
theorem Gath.one {t:Nat→PT} {nt:Nat} {u:Nat→PT} {m:Nat} (h:Gath t nt 1 u m) (h0:gsum t nt 0≠0):m=1∧u 0=⟨0,gsum t nt 0⟩:=by
 obtain ⟨i,hi,e⟩:=h.all 0 (by omega) (by omega) h0
 have h1:∀ j,j<m→(u j).var=0:=fun j hj=>by have:=h.lt j hj;omega
 have hm:m=1:=by
  by_cases hm:m=1
  ·exact hm
  ·have:=h.up 0 1 (by omega) (by omega)
   have:=h1 0 (by omega)
   have:=h1 1 (by omega)
   omega
 refine ⟨hm,?_⟩
 have h2:=h1 0 (by omega)
 have h3:=(h.co 0 (by omega)).1
 cases hu:u 0 with
 | mk v c =>
  rw [hu] at h2 h3
  simp only at h2 h3
  subst h2
  rw [h3]
theorem Rw.set13 {t:TypeId} {w:World} {R:Nat} {cs:List Value} (h:Rw t w R cs.toArray) (b1 b2 b3:Value) :
  Rw t (((w.setCell ⟨R,1,none⟩ b1).setCell ⟨R,2,none⟩ b2).setCell ⟨R,3,none⟩ b3) R (((cs.set 1 b1).set 2 b2).set 3 b3).toArray∧Off R w (((w.setCell ⟨R,1,none⟩ b1).setCell ⟨R,2,none⟩ b2).setCell ⟨R,3,none⟩ b3):=by
 refine ⟨?_,((Off.refl _ _).set 1 b1).set 2 b2 |>.set 3 b3⟩
 have:=(((h.set 1 b1).1.set 2 b2).1.set 3 b3).1
 simpa using this
theorem Pl.below_of {w w':World} {B p q b:Nat} {D:DataW Value} {ns:List ByteArray} (h:Pl w B p q b D ns) (hb:Below w.heap.size w w'):Pl w' B p q b D ns:=h.below hb
theorem Pl.text {w:World} {B p q b:Nat} {D:DataW Value} {nm:ByteArray} (h:Pl w B p q b D [nm]) {na:Option Addr} {nc:Nat} (hq:Rw 68 w q #[.slice na 1 nc]):∃ g,na=some ⟨g,0,none⟩∧w.cell? ⟨g,0,none⟩=some (.string nm):=by
 obtain ⟨v,E,h1,h2,h3⟩:=h.nm
 unfold Rw at h1 hq
 rw [h1] at hq
 simp at hq
 subst hq
 rcases h2.cell with h0|⟨g,e,hc⟩
 ·simp at h0
 ·refine ⟨g,e,?_⟩
  have:=hc 0 (by simp) 0 (.string nm) (by rw [h3 0 nm rfl];rfl)
  simpa using this
set_option maxRecDepth 100000 in
set_option maxHeartbeats 8000000 in
theorem variablesA (T:Txt) {w:World} {B p q b:Nat} {D:DataW Value} {nm:ByteArray} {na:Option Addr} {nc:Nat} (hT:TX w T) (hNL:T.la=none∧T.ln=0∧T.lc=0∧T.wa=none∧T.wn=0∧T.wc=0) (hK:T.K≤1048576) (h:Pl w B p q b D [nm]) (hq:Rw 68 w q #[.slice na 1 nc]) (hnm:nm.size≤1048576) (hI:∀ i,i<T.n→(T.I i).nm=nm) (hg0:gsum (fun i=>⟨0,(T.I i).coef⟩) T.n 0≠0) (hTB:TB w) :
  Calls Tryz.prog 17 #[T.val,.map (some b),.slice na 1 nc] w fun e w'=>∃ RV f1 c1 n1 k1 d1 m1 l1 f c n k c' n' k',e = .returned (.slice (some ⟨RV,0,none⟩) 1 1)∧Rw 51 w' RV #[.string nm,.bool f1,.slice c1 n1 k1,.slice d1 m1 l1,.bool true,.bool f,.slice c n k,.slice c' n' k',.bool false,.bool false,.slice none 0 0,.slice none 0 0,.bool false]∧GR w' w.heap.size f1 c1 n1 k1 d1 m1 l1 (gsum (fun i=>⟨0,(T.I i).coef⟩) T.n 0) T.K∧GR w' w.heap.size f c n k c' n' k' 0 1∧Below w.heap.size w w':=by
 have hmk:=make1V
 obtain ⟨g,rfl,cN⟩:=h.text hq
 have hnn:T.n≤1048576:=by have:=hT.all;have:=tot_len T.ZI T.n;omega
 have X0:=Rw.new 43 w #[.bool T.mx,.string T.nm,.slice T.ia T.n T.ic,.slice T.ca T.cn T.cc,.slice none 0 0,.slice none 0 0,.slice none 0 0]
 have hb0:=bel_d0 w (.cells #[.bool T.mx,.string T.nm,.slice T.ia T.n T.ic,.slice T.ca T.cn T.cc,.slice none 0 0,.slice none 0 0,.slice none 0 0] 43)
 have es:(w.alloc (.cells #[.bool T.mx,.string T.nm,.slice T.ia T.n T.ic,.slice T.ca T.cn T.cc,.slice none 0 0,.slice none 0 0,.slice none 0 0] 43)).heap.size=w.heap.size+1:=by simp
 have RV0:=Rw.new 51 (w.alloc (.cells #[.bool T.mx,.string T.nm,.slice T.ia T.n T.ic,.slice T.ca T.cn T.cc,.slice none 0 0,.slice none 0 0,.slice none 0 0] 43)) #[.string ⟨#[]⟩,.bool false,.slice none 0 0,.slice none 0 0,.bool false,.bool false,.slice none 0 0,.slice none 0 0,.bool false,.bool false,.slice none 0 0,.slice none 0 0,.bool false]
 rw [es] at RV0
 have hb1:=bel_tr hb0 (bel_d0 (w.alloc (.cells #[.bool T.mx,.string T.nm,.slice T.ia T.n T.ic,.slice T.ca T.cn T.cc,.slice none 0 0,.slice none 0 0,.slice none 0 0] 43)) (.cells #[.string ⟨#[]⟩,.bool false,.slice none 0 0,.slice none 0 0,.bool false,.bool false,.slice none 0 0,.slice none 0 0,.bool false,.bool false,.slice none 0 0,.slice none 0 0,.bool false] 51))
 replace X0:=X0.below (bel_d0 (w.alloc (.cells #[.bool T.mx,.string T.nm,.slice T.ia T.n T.ic,.slice T.ca T.cn T.cc,.slice none 0 0,.slice none 0 0,.slice none 0 0] 43)) (.cells #[.string ⟨#[]⟩,.bool false,.slice none 0 0,.slice none 0 0,.bool false,.bool false,.slice none 0 0,.slice none 0 0,.bool false,.bool false,.slice none 0 0,.slice none 0 0,.bool false] 51))
 have eV:T.val = .agg #[.bool T.mx,.string T.nm,.slice T.ia T.n T.ic,.slice T.ca T.cn T.cc,.slice none 0 0,.slice none 0 0,.slice none 0 0]:=by unfold Txt.val;obtain ⟨e1,e2,e3,e4,e5,e6⟩:=hNL;rw [e1,e2,e3,e4,e5,e6]
 rw [eV]
 clear eV hNL
 go_enter Tryz.func17,Tryz.ntmps17
 go_wp2
 clear hmk es hb0
 generalize (w.alloc (.cells #[.bool T.mx,.string T.nm,.slice T.ia T.n T.ic,.slice T.ca T.cn T.cc,.slice none 0 0,.slice none 0 0,.slice none 0 0] 43)).alloc (.cells #[.string ⟨#[]⟩,.bool false,.slice none 0 0,.slice none 0 0,.bool false,.bool false,.slice none 0 0,.slice none 0 0,.bool false,.bool false,.slice none 0 0,.slice none 0 0,.bool false] 51)=W at *
 go_loopw [29] (fun s29 wr=>(s29 = .int .i64 0∧wr=W)∨(s29 = .int .i64 1∧∃ f c n k c' n' k',Rw 51 wr (w.heap.size+1) #[.string nm,.bool false,.slice none 0 0,.slice none 0 0,.bool true,.bool f,.slice c n k,.slice c' n' k',.bool false,.bool false,.slice none 0 0,.slice none 0 0,.bool false]∧GR wr w.heap.size f c n k c' n' k' 0 1∧Near (w.heap.size+1) W wr)) (fun s29 _=>1-(intOf s29).toNat)
 case atStart=>exact .inl ⟨rfl,rfl⟩
 case round =>
  rcases hrel with ⟨rfl,rfl⟩|⟨rfl,f,c,n,k,c',n',k',RV1,G1,hN⟩
  ·have c1:=kept_c hb1 cN
   go_wp2_with fail
   refine (boundOfQ 0 _ (by decide) (by decide)).mono ?_
   rintro e w2 ⟨f,c,n,k,c',n',k',rfl,G,hb⟩
   have RV1:=RV0.below hb
   go_wp2_with (refine RV1.put #[.string nm,.bool false,.slice none 0 0,.slice none 0 0,.bool true,.bool f,.slice c n k,.slice c' n' k',.bool false,.bool false,.slice none 0 0,.slice none 0 0,.bool false] rfl _ _ rfl rfl rfl varI rfl (by simp [Value.oneCell']) ?_)
   intro w3 RV2 O3
   have hs1:=hb1.size
   have G2:=(G.keep (RV1.noW (by decide)) O3.grown).mono (show w.heap.size≤_ by omega)
   have hN:Near (w.heap.size+1) wr w3:=(near_of hb).trans O3.near
   clear RV0 RV1 hb O3 G c1
   go_wp2
   go_roundw
   case rel=>exact .inr ⟨rfl,f,c,n,k,c',n',k',RV2,G2.val rfl,hN⟩
   case measure=>simp [intOf]
  ·have hbw:Below w.heap.size w wr:=hb1.trans (hN.below (Nat.le_succ _) hb1.size)
   have X1:=hN.rw X0 (by omega)
   have x2:=(X1.cell 2).trans (show _=some (.slice T.ia T.n T.ic) from rfl)
   clear RV0
   have HTR:=termsA (ic:=T.ic) (h.below_of hbw) (hT.i.below hbw) (fun i hi=>by rw [hI i hi];omega) hnn (fun _=>0) (fun i hi=>by rw [hI i hi];rfl) (by simp)
   go_wp2_with fail
   refine HTR.mono ?_
   rintro e w4 ⟨ta,tc,rfl,hLT,htc,hb4⟩
   have hLT':LT w4 ta T.n (fun i=>⟨0,(T.I i).coef⟩) T.ZI:=hLT
   have HGA:=gatherQ ta T.n tc (fun i=>⟨0,(T.I i).coef⟩) T.ZI 1 w4 hLT' (by have:=hT.all;omega) (by omega) ((hTB.below hbw).below hb4)
   have HZ0:Hid (zs (fun i=>⟨0,(T.I i).coef⟩) T.ZI 0 T.n≤T.K):=by
    have:=zs_le (fun i=>⟨0,(T.I i).coef⟩) T.ZI 0 T.n
    have:=hT.all
    exact (by omega:zs (fun i=>⟨0,(T.I i).coef⟩) T.ZI 0 T.n≤T.K)
   clear hLT hLT' HTR
   go_wp2_with fail
   refine HGA.mono ?_
   rintro e w5 ⟨tv,m,u,rfl,HG,hTL,hb5⟩
   obtain ⟨rfl,hu0⟩:=HG.one hg0
   obtain ⟨E,hSL,hTC⟩:=hTL
   obtain ⟨ua,uc,rfl,huc⟩:=hSL.form
   obtain ⟨p1,a1,n1,k1,d1,m1,l1,eE,GT⟩:=hTC 0 (by omega)
   rcases hSL.cell with h0|⟨gt,rfl,hcell⟩
   ·omega
   have hc0:=hcell 0 (by omega)
   rw [eE,hu0] at hc0
   replace GT:GR w5 w4.heap.size p1 a1 n1 k1 d1 m1 l1 (u 0).coef (zs (fun i=>⟨0,(T.I i).coef⟩) T.ZI (u 0).var T.n-1):=GT
   rw [hu0] at GT
   have e0:w5.cell? ⟨gt,0,none⟩=some (.int .i64 0):=by have:=hc0 0 _ rfl;simpa using this
   have e1:w5.cell? ⟨gt,1,none⟩=some (.bool p1):=by have:=hc0 1 _ rfl;simpa using this
   have e2:w5.cell? ⟨gt,2,none⟩=some (.slice a1 n1 k1):=by have:=hc0 2 _ rfl;simpa using this
   have e3:w5.cell? ⟨gt,3,none⟩=some (.slice d1 m1 l1):=by have:=hc0 3 _ rfl;simpa using this
   have hb45:=bel_tr hb4 hb5
   have RV5:=RV1.below hb45
   have G5:=G1.below hb45
   have X5:=X1.below hb45
   have hbw5:=bel_tr hbw hb45
   have hs5:=hbw5.size
   have hs4:=hb4.size
   have hsw:=hbw.size
   have GT5:=(GT.mono (show w.heap.size≤_ by omega)).le (show zs (fun i=>⟨0,(T.I i).coef⟩) T.ZI 0 T.n-1≤T.K by have:=HZ0.out;omega)
   have hR5:=RV5.lt
   clear hc0 hcell eE GT hTC hSL HG HGA RV1 G1 X1 hb4 hb5 hb45 x2 hu0
   go_wp2
   go_loopw [49] (fun s49 wq=>(s49 = .int .i64 0∧wq=w5)∨(s49 = .int .i64 1∧Rw 51 wq (w.heap.size+1) #[.string nm,.bool p1,.slice a1 n1 k1,.slice d1 m1 l1,.bool true,.bool f,.slice c n k,.slice c' n' k',.bool false,.bool false,.slice none 0 0,.slice none 0 0,.bool false]∧Near (w.heap.size+1) w5 wq)) (fun s49 _=>1-(intOf s49).toNat)
   case atStart=>exact .inl ⟨rfl,rfl⟩
   case round =>
    rcases hrel with ⟨rfl,rfl⟩|⟨rfl,RV6,hN6⟩
    ·have z1:=(RV5.cell 1).trans (show _=some (.bool false) from rfl)
     have z2:=(RV5.cell 2).trans (show _=some (.slice none 0 0) from rfl)
     have z3:=(RV5.cell 3).trans (show _=some (.slice none 0 0) from rfl)
     have y1:=RV5.frozen 1
     have y2:=RV5.frozen 2
     have y3:=RV5.frozen 3
     obtain ⟨RV6,O7⟩:=Rw.set13 (cs:=[.string nm,.bool false,.slice none 0 0,.slice none 0 0,.bool true,.bool f,.slice c n k,.slice c' n' k',.bool false,.bool false,.slice none 0 0,.slice none 0 0,.bool false]) RV5 (.bool p1) (.slice a1 n1 k1) (.slice d1 m1 l1)
     have RV7:=RV6.alloc (.cells #[.int .i64 0,.bool p1,.slice a1 n1 k1,.slice d1 m1 l1] 56)
     have hN7:Near (w.heap.size+1) wr _:=O7.near.trans (near_of (bel_d0 _ (.cells #[.int .i64 0,.bool p1,.slice a1 n1 k1,.slice d1 m1 l1] 56)))
     clear RV6 O7
     go_wp2
     go_roundw
     case rel=>first|exact .inr ⟨rfl,RV7,hN7⟩
     case measure=>simp [intOf]
    ·have X6:=hN6.rw X5 (by omega)
     have x4:=(X6.cell 4).trans (show _=some (.slice none 0 0) from rfl)
     have x5:=(X6.cell 5).trans (show _=some (.slice none 0 0) from rfl)
     have x6:=(X6.cell 6).trans (show _=some (.slice none 0 0) from rfl)
     have hn5:=RV5.noW (by decide)
     have G6:=G5.keep hn5 hN6.grow
     have GT6:=GT5.keep hn5 hN6.grow
     have hb6:Below w.heap.size w wr:=hbw5.trans (hN6.below (Nat.le_succ _) hs5)
     clear X5 X6 G5 GT5 hn5 RV5 hN6 e0 e1 e2 e3
     go_wp2
     go_loopw [64] (fun s64 wq=>s64 = .int .i64 0∧wq=wr) (fun _ _=>0)
     case atStart=>exact ⟨rfl,rfl⟩
     case round =>
      obtain ⟨rfl,rfl⟩:=hrel
      go_wp2
      go_loopw [85] (fun s85 wq=>s85 = .int .i64 0∧wq=wr) (fun _ _=>0)
      case atStart=>exact ⟨rfl,rfl⟩
      case round =>
       obtain ⟨rfl,rfl⟩:=hrel
       go_wp2
       go_loopw [105] (fun s105 wq=>s105 = .int .i64 0∧wq=wr) (fun _ _=>0)
       case atStart=>exact ⟨rfl,rfl⟩
       case round =>
        obtain ⟨rfl,rfl⟩:=hrel
        go_wp2
        go_ret
        first|exact ⟨_,p1,a1,n1,k1,d1,m1,l1,f,c,n,k,c',n',k',rfl,RV6,GT6,G6,hb6⟩
end Go.Proofs.YtceigfafmalfgaaGreatDoor
