import Derived.Test.YtdcocflnafcikaaGreatDoorPrKAll
import Derived.Shelf.Strconv.Itoa3
import Derived.Test.YtdcocflnafcikaaGreatDoorProg
set_option maxRecDepth 100000
set_option maxHeartbeats 8000000
namespace Go.Proofs.YtdcocflnafcikaaGreatDoor
open Go.RowKit Go.Maps
theorem make1V (w:World):(Instr.makeSlice 28 (.int .i64 1) (.int .i64 1)).run Tryz.prog w = .ok (.slice (some ⟨w.heap.size,0,none⟩) 1 1) (w.alloc (.cells #[.string ⟨#[]⟩,.bool false,.slice none 0 0,.slice none 0 0,.bool false,.bool false,.slice none 0 0,.slice none 0 0,.bool false,.bool false,.slice none 0 0,.slice none 0 0,.bool false] 57)):=by kernel_rfl
theorem varI:(Tryz.prog.info? 57).map (·.size)=some 13:=by kernel_rfl
theorem Gath.one {t:Nat→PT} {nt:Nat} {u:Nat→PT} {m:Nat} (h:Gath t nt 1 u m) (h0:bJ t nt 0≠0):m=1∧u 0=⟨0,bJ t nt 0⟩:=by
 obtain ⟨i,hi,e⟩:=h.all 0 (by omega) (by omega) h0
 have h1:∀ j,j<m→(u j).var=0:=fun j hj=>by have:=h.lt j hj;omega
 have hm:m=1:=by
  by_cases hm:m=1
  ·exact hm
  ·have:=h.up 0 1 (by omega) (by omega)
   have:=h1 0 (by omega)
   have:=h1 1 (by omega)
   omega
 refine ⟨hm,?_⟩
 have h2:=h1 0 (by omega)
 have h3:=(h.co 0 (by omega)).1
 cases hu:u 0 with
 | mk v c =>
  rw [hu] at h2 h3
  simp only at h2 h3
  subst h2
  rw [h3]
theorem Rw.set13 {t:TypeId} {w:World} {R:Nat} {cs:List Value} (h:Rw t w R cs.toArray) (b1 b2 b3:Value) :
 Rw t (((w.setCell ⟨R,1,none⟩ b1).setCell ⟨R,2,none⟩ b2).setCell ⟨R,3,none⟩ b3) R (((cs.set 1 b1).set 2 b2).set 3 b3).toArray∧Off R w (((w.setCell ⟨R,1,none⟩ b1).setCell ⟨R,2,none⟩ b2).setCell ⟨R,3,none⟩ b3):=by
 refine ⟨?_,((Off.refl _ _).set 1 b1).set 2 b2 |>.set 3 b3⟩
 have:=(((h.set 1 b1).1.set 2 b2).1.set 3 b3).1
 simpa using this
theorem Pl.below_of {w w':World} {B p q b:Nat} {D:DataW Value} {ns:List ByteArray} (h:Pl w B p q b D ns) (hb:Below w.heap.size w w'):Pl w' B p q b D ns:=h.below hb
theorem Pl.text {w:World} {B p q b:Nat} {D:DataW Value} {nm:ByteArray} (h:Pl w B p q b D [nm]) {na:Option Addr} {nc:Nat} (hq:Rw 108 w q #[.slice na 1 nc]):∃ g,na=some ⟨g,0,none⟩∧w.cell? ⟨g,0,none⟩=some (.string nm):=by
 obtain ⟨v,E,h1,h2,h3⟩:=h.nm
 unfold Rw at h1 hq
 rw [h1] at hq
 simp at hq
 subst hq
 rcases h2.cell with h0|⟨g,e,hc⟩
 ·simp at h0
 ·refine ⟨g,e,?_⟩
  have:=hc 0 (by simp) 0 (.string nm) (by rw [h3 0 nm rfl];rfl)
  simpa using this
theorem yU (T:Txt) {w:World} {B p q b:Nat} {D:DataW Value} {nm:ByteArray} {na:Option Addr} {nc:Nat} (hT:TX w T) (hK:T.K≤1048576) (h:Pl w B p q b D [nm]) (hq:Rw 108 w q #[.slice na 1 nc]) (hnm:nm.size≤1048576) (hI:∀ i,i<T.n→(T.I i).nm=nm) (hg0:bJ (fun i=>⟨0,(T.I i).coef⟩) T.n 0≠0) (hTB:TB w) :
 Calls Tryz.prog 55 #[T.val,.map (some b),.slice na 1 nc] w fun e w'=>∃ RV f1 c1 n1 k1 d1 m1 l1 f c n k c' n' k',e = .returned (.slice (some ⟨RV,0,none⟩) 1 1)∧Rw 57 w' RV #[.string nm,.bool f1,.slice c1 n1 k1,.slice d1 m1 l1,.bool true,.bool f,.slice c n k,.slice c' n' k',.bool false,.bool false,.slice none 0 0,.slice none 0 0,.bool false]∧GR w' w.heap.size f1 c1 n1 k1 d1 m1 l1 (bJ (fun i=>⟨0,(T.I i).coef⟩) T.n 0) T.K∧GR w' w.heap.size f c n k c' n' k' 0 1∧Below w.heap.size w w':=by
 have hmk:=make1V
 obtain ⟨g,rfl,cN⟩:=h.text hq
 have hnn:T.n≤1048576:=by have:=hT.all;have:=aZ T.ZI T.n;omega
 have X0:=Rw.new 73 w #[.bool T.mx,.string T.nm,.slice T.ia T.n T.ic,.slice T.ca T.cn T.cc,.slice none 0 0,.slice none 0 0,.slice none 0 0]
 have hb0:=aG w (.cells #[.bool T.mx,.string T.nm,.slice T.ia T.n T.ic,.slice T.ca T.cn T.cc,.slice none 0 0,.slice none 0 0,.slice none 0 0] 73)
 have es:(w.alloc (.cells #[.bool T.mx,.string T.nm,.slice T.ia T.n T.ic,.slice T.ca T.cn T.cc,.slice none 0 0,.slice none 0 0,.slice none 0 0] 73)).heap.size=w.heap.size+1:=by simp
 have RV0:=Rw.new 57 (w.alloc (.cells #[.bool T.mx,.string T.nm,.slice T.ia T.n T.ic,.slice T.ca T.cn T.cc,.slice none 0 0,.slice none 0 0,.slice none 0 0] 73)) #[.string ⟨#[]⟩,.bool false,.slice none 0 0,.slice none 0 0,.bool false,.bool false,.slice none 0 0,.slice none 0 0,.bool false,.bool false,.slice none 0 0,.slice none 0 0,.bool false]
 rw [es] at RV0
 have hb1:=aF hb0 (aG (w.alloc (.cells #[.bool T.mx,.string T.nm,.slice T.ia T.n T.ic,.slice T.ca T.cn T.cc,.slice none 0 0,.slice none 0 0,.slice none 0 0] 73)) (.cells #[.string ⟨#[]⟩,.bool false,.slice none 0 0,.slice none 0 0,.bool false,.bool false,.slice none 0 0,.slice none 0 0,.bool false,.bool false,.slice none 0 0,.slice none 0 0,.bool false] 57))
 replace X0:=X0.below (aG (w.alloc (.cells #[.bool T.mx,.string T.nm,.slice T.ia T.n T.ic,.slice T.ca T.cn T.cc,.slice none 0 0,.slice none 0 0,.slice none 0 0] 73)) (.cells #[.string ⟨#[]⟩,.bool false,.slice none 0 0,.slice none 0 0,.bool false,.bool false,.slice none 0 0,.slice none 0 0,.bool false,.bool false,.slice none 0 0,.slice none 0 0,.bool false] 57))
 unfold Txt.val
 go_enter Tryz.func55,Tryz.ntmps55
 go_wp2
 clear hmk es hb0
 generalize (w.alloc (.cells #[.bool T.mx,.string T.nm,.slice T.ia T.n T.ic,.slice T.ca T.cn T.cc,.slice none 0 0,.slice none 0 0,.slice none 0 0] 73)).alloc (.cells #[.string ⟨#[]⟩,.bool false,.slice none 0 0,.slice none 0 0,.bool false,.bool false,.slice none 0 0,.slice none 0 0,.bool false,.bool false,.slice none 0 0,.slice none 0 0,.bool false] 57)=W at *
 go_loopw [29] (fun s29 wr=>(s29 = .int .i64 0∧wr=W)∨(s29 = .int .i64 1∧∃ f c n k c' n' k',Rw 57 wr (w.heap.size+1) #[.string nm,.bool false,.slice none 0 0,.slice none 0 0,.bool true,.bool f,.slice c n k,.slice c' n' k',.bool false,.bool false,.slice none 0 0,.slice none 0 0,.bool false]∧GR wr w.heap.size f c n k c' n' k' 0 1∧Near (w.heap.size+1) W wr)) (fun s29 _=>1-(intOf s29).toNat)
 case atStart=>exact .inl ⟨rfl,rfl⟩
 case round =>
  rcases hrel with ⟨rfl,rfl⟩|⟨rfl,f,c,n,k,c',n',k',RV1,G1,hN⟩
  ·have c1:=aB hb1 cN
   go_wp2_with fail
   refine (boundOfQ 0 _ (by decide) (by decide)).mono ?_
   rintro e w2 ⟨f,c,n,k,c',n',k',rfl,G,hb⟩
   have RV1:=RV0.below hb
   go_wp2_with (refine RV1.put #[.string nm,.bool false,.slice none 0 0,.slice none 0 0,.bool true,.bool f,.slice c n k,.slice c' n' k',.bool false,.bool false,.slice none 0 0,.slice none 0 0,.bool false] rfl _ _ rfl rfl rfl varI rfl (by simp [Value.oneCell']) ?_)
   intro w3 RV2 O3
   have hs1:=hb1.size
   have G2:=(G.keep (RV1.noW (by decide)) O3.grown).mono (show w.heap.size≤_ by omega)
   have hN:Near (w.heap.size+1) wr w3:=(bP hb).trans O3.near
   clear RV0 RV1 hb O3 G c1
   go_wp2
   go_roundw
   case rel=>exact .inr ⟨rfl,f,c,n,k,c',n',k',RV2,G2.val rfl,hN⟩
   case measure=>simp [intOf]
  ·have hbw:Below w.heap.size w wr:=hb1.trans (hN.below (Nat.le_succ _) hb1.size)
   have X1:=hN.rw X0 (by omega)
   have x2:=(X1.cell 2).trans (show _=some (.slice T.ia T.n T.ic) from rfl)
   clear RV0
   have HTR:=termsA (ic:=T.ic) (h.below_of hbw) (hT.i.below hbw) (fun i hi=>by rw [hI i hi];omega) hnn (fun _=>0) (fun i hi=>by rw [hI i hi];rfl) (by simp)
   go_wp2_with fail
   refine HTR.mono ?_
   rintro e w4 ⟨ta,tc,rfl,hLT,htc,hb4⟩
   have hLT':LT w4 ta T.n (fun i=>⟨0,(T.I i).coef⟩) T.ZI:=hLT
   have HGA:=gatherQ ta T.n tc (fun i=>⟨0,(T.I i).coef⟩) T.ZI 1 w4 hLT' (by have:=hT.all;omega) (by omega) ((hTB.below hbw).below hb4)
   have HZ0:Hid (zs (fun i=>⟨0,(T.I i).coef⟩) T.ZI 0 T.n≤T.K):=by
    have:=wO (fun i=>⟨0,(T.I i).coef⟩) T.ZI 0 T.n
    have:=hT.all
    exact (by omega:zs (fun i=>⟨0,(T.I i).coef⟩) T.ZI 0 T.n≤T.K)
   clear hLT hLT' HTR
   go_wp2_with fail
   refine HGA.mono ?_
   rintro e w5 ⟨tv,m,u,rfl,HG,hTL,hb5⟩
   obtain ⟨rfl,hu0⟩:=HG.one hg0
   obtain ⟨E,hSL,hTC⟩:=hTL
   obtain ⟨ua,uc,rfl,huc⟩:=hSL.form
   obtain ⟨p1,a1,n1,k1,d1,m1,l1,eE,GT⟩:=hTC 0 (by omega)
   rcases hSL.cell with h0|⟨gt,rfl,hcell⟩
   ·omega
   have hc0:=hcell 0 (by omega)
   rw [eE,hu0] at hc0
   replace GT:GR w5 w4.heap.size p1 a1 n1 k1 d1 m1 l1 (u 0).coef (zs (fun i=>⟨0,(T.I i).coef⟩) T.ZI (u 0).var T.n-1):=GT
   rw [hu0] at GT
   have e0:w5.cell? ⟨gt,0,none⟩=some (.int .i64 0):=by have:=hc0 0 _ rfl;simpa using this
   have e1:w5.cell? ⟨gt,1,none⟩=some (.bool p1):=by have:=hc0 1 _ rfl;simpa using this
   have e2:w5.cell? ⟨gt,2,none⟩=some (.slice a1 n1 k1):=by have:=hc0 2 _ rfl;simpa using this
   have e3:w5.cell? ⟨gt,3,none⟩=some (.slice d1 m1 l1):=by have:=hc0 3 _ rfl;simpa using this
   have hb45:=aF hb4 hb5
   have RV5:=RV1.below hb45
   have G5:=G1.below hb45
   have X5:=X1.below hb45
   have hbw5:=aF hbw hb45
   have hs5:=hbw5.size
   have hs4:=hb4.size
   have hsw:=hbw.size
   have GT5:=(GT.mono (show w.heap.size≤_ by omega)).le (show zs (fun i=>⟨0,(T.I i).coef⟩) T.ZI 0 T.n-1≤T.K by have:=HZ0.out;omega)
   have hR5:=RV5.lt
   clear hc0 hcell eE GT hTC hSL HG HGA RV1 G1 X1 hb4 hb5 hb45 x2 hu0
   go_wp2
   go_loopw [49] (fun s49 wq=>(s49 = .int .i64 0∧wq=w5)∨(s49 = .int .i64 1∧Rw 57 wq (w.heap.size+1) #[.string nm,.bool p1,.slice a1 n1 k1,.slice d1 m1 l1,.bool true,.bool f,.slice c n k,.slice c' n' k',.bool false,.bool false,.slice none 0 0,.slice none 0 0,.bool false]∧Near (w.heap.size+1) w5 wq)) (fun s49 _=>1-(intOf s49).toNat)
   case atStart=>exact .inl ⟨rfl,rfl⟩
   case round =>
    rcases hrel with ⟨rfl,rfl⟩|⟨rfl,RV6,hN6⟩
    ·have z1:=(RV5.cell 1).trans (show _=some (.bool false) from rfl)
     have z2:=(RV5.cell 2).trans (show _=some (.slice none 0 0) from rfl)
     have z3:=(RV5.cell 3).trans (show _=some (.slice none 0 0) from rfl)
     have y1:=RV5.frozen 1
     have y2:=RV5.frozen 2
     have y3:=RV5.frozen 3
     obtain ⟨RV6,O7⟩:=Rw.set13 (cs:=[.string nm,.bool false,.slice none 0 0,.slice none 0 0,.bool true,.bool f,.slice c n k,.slice c' n' k',.bool false,.bool false,.slice none 0 0,.slice none 0 0,.bool false]) RV5 (.bool p1) (.slice a1 n1 k1) (.slice d1 m1 l1)
     have RV7:=RV6.alloc (.cells #[.int .i64 0,.bool p1,.slice a1 n1 k1,.slice d1 m1 l1] 62)
     have hN7:Near (w.heap.size+1) wr _:=O7.near.trans (bP (aG _ (.cells #[.int .i64 0,.bool p1,.slice a1 n1 k1,.slice d1 m1 l1] 62)))
     clear RV6 O7
     go_wp2
     go_roundw
     case rel=>first|exact .inr ⟨rfl,RV7,hN7⟩
     case measure=>simp [intOf]
    ·have X6:=hN6.rw X5 (by omega)
     have x4:=(X6.cell 4).trans (show _=some (.slice none 0 0) from rfl)
     have x5:=(X6.cell 5).trans (show _=some (.slice none 0 0) from rfl)
     have x6:=(X6.cell 6).trans (show _=some (.slice none 0 0) from rfl)
     have hn5:=RV5.noW (by decide)
     have G6:=G5.keep hn5 hN6.grow
     have GT6:=GT5.keep hn5 hN6.grow
     have hb6:Below w.heap.size w wr:=hbw5.trans (hN6.below (Nat.le_succ _) hs5)
     clear X5 X6 G5 GT5 hn5 RV5 hN6 e0 e1 e2 e3
     go_wp2
     go_loopw [64] (fun s64 wq=>s64 = .int .i64 0∧wq=wr) (fun _ _=>0)
     case atStart=>exact ⟨rfl,rfl⟩
     case round =>
      obtain ⟨rfl,rfl⟩:=hrel
      go_wp2
      go_loopw [85] (fun s85 wq=>s85 = .int .i64 0∧wq=wr) (fun _ _=>0)
      case atStart=>exact ⟨rfl,rfl⟩
      case round =>
       obtain ⟨rfl,rfl⟩:=hrel
       go_wp2
       go_loopw [105] (fun s105 wq=>s105 = .int .i64 0∧wq=wr) (fun _ _=>0)
       case atStart=>exact ⟨rfl,rfl⟩
       case round =>
        obtain ⟨rfl,rfl⟩:=hrel
        go_wp2
        go_ret
        first|exact ⟨_,p1,a1,n1,k1,d1,m1,l1,f,c,n,k,c',n',k',rfl,RV6,GT6,G6,hb6⟩
end Go.Proofs.YtdcocflnafcikaaGreatDoor
namespace Go.Proofs
open Go.Shelf
def Tryz.lays283_ren:Go.Shelf.Ren:=⟨fun|283=>153|n=>n,fun|3=>3|9=>9|4=>4|n=>n,fun|n=>n⟩
theorem Tryz.lays283:Go.Proofs.Lays.n283 Tryz.prog Tryz.lays283_ren:={
 mixed:=by kernel_rfl
 f283:=Tryz.func153.trans (congrArg some (by kernel_rfl))
 t3:=Tryz.underlying3
 a3:=Tryz.isAgg3
 z3:=Tryz.sizeOf3
 v3:=Tryz.zeroValue3
 t4:=Tryz.underlying4
 a4:=Tryz.isAgg4
 z4:=Tryz.sizeOf4
 v4:=Tryz.zeroValue4
 t9:=Tryz.underlying9
 a9:=Tryz.isAgg9
 z9:=Tryz.sizeOf9
 v9:=Tryz.zeroValue9 }
end Go.Proofs
namespace Go.Proofs.YtdcocflnafcikaaGreatDoor
open Go.RowKit Go.Maps Go.Shelf
theorem itoaS (u:Nat) (hs:u<100) (w:World):Calls Tryz.prog 88 #[.int .i64 (u:Int)] w fun e w'=>e = .returned (.string ⟨(Lib.decDigits u).toArray⟩)∧w'=w:=by
 have hsI:(u:Int)<100:=by omega
 have hw:IntKind.i64.wrap (u:Int)=(u:Int):=by rw [IntKind.wrap_i64];omega
 have HS:Calls Tryz.prog 153 #[.int .i64 (u:Int)] w fun e w'=>e = .returned (.string ⟨(Lib.decDigits u).toArray⟩)∧w'=w:=Any.internal_strconv_small Tryz.lays283 u hs w
 have HF:Calls Tryz.prog 131 #[.int .i64 (u:Int),.int .i64 10] w fun e w'=>e = .returned (.string ⟨(Lib.decDigits u).toArray⟩)∧w'=w:=by
  go_enter Tryz.func131,Tryz.ntmps131
  go_wp2_with fail
  refine HS.mono ?_
  rintro e w' ⟨rfl,rfl⟩
  go_wp2
  go_ret
  exact ⟨rfl,rfl⟩
 have HI:Calls Tryz.prog 116 #[.int .i64 (u:Int)] w fun e w'=>e = .returned (.string ⟨(Lib.decDigits u).toArray⟩)∧w'=w:=by
  go_enter Tryz.func116,Tryz.ntmps116
  go_wp2_with fail
  refine HF.mono ?_
  rintro e w' ⟨rfl,rfl⟩
  go_wp2
  go_ret
  exact ⟨rfl,rfl⟩
 go_enter Tryz.func88,Tryz.ntmps88
 go_wp2_with fail
 refine HI.mono ?_
 rintro e w' ⟨rfl,rfl⟩
 go_wp2
 go_ret
 exact ⟨rfl,rfl⟩
theorem namerQ (b:Nat) (w:World):Calls Tryz.prog 57 #[.map (some b)] w fun e w'=>e = .returned (.func (.func 87) #[] #[.pointer (some ⟨w.heap.size+1,0,none⟩),.pointer (some ⟨w.heap.size,0,none⟩)])∧Rw 104 w' w.heap.size #[.map (some b)]∧Rw 3 w' (w.heap.size+1) #[.int .i64 1]∧Below w.heap.size w w':=by
 have X0:=Rw.new 104 w #[.map (some b)]
 have X1:=Rw.new 3 (w.alloc (.cells #[.map (some b)] 104)) #[.int .i64 1]
 rw [show (w.alloc (.cells #[.map (some b)] 104)).heap.size=w.heap.size+1 by simp] at X1
 have hb:=aF (aG w (.cells #[.map (some b)] 104)) (aG (w.alloc (.cells #[.map (some b)] 104)) (.cells #[.int .i64 1] 3))
 replace X0:=X0.alloc (.cells #[.int .i64 1] 3)
 go_enter Tryz.func57,Tryz.ntmps57
 go_wp2
 go_ret
 exact ⟨rfl,X0,X1,hb⟩
theorem dd2:Lib.decDigits 2=[50]:=by simp [Lib.decDigits]
theorem dd3:Lib.decDigits 3=[51]:=by simp [Lib.decDigits]
theorem nameA {v:Int} (hv:v=2) {w:World} {X Y b n:Nat} {D:DataW Value} (hX:Rw 3 w X #[.int .i64 1]) (hY:Rw 104 w Y #[.map (some b)]) (ho:w.ownsMap Tryz.prog 9 iQ b n D) (h2:Maps.has D (kS ⟨#[82,50]⟩)=true) (h3:Maps.has D (kS ⟨#[82,51]⟩)=false) (hV:∀ s,D.atKey (kS s) (.held (.agg #[])) = .held (.agg #[])) :
 Calls Tryz.prog 87 #[.int .i64 v,.pointer (some ⟨X,0,none⟩),.pointer (some ⟨Y,0,none⟩)] w fun e w'=>e = .returned (.string ⟨#[82,51]⟩)∧Near X w w':=by
 subst hv
 have hXY:Y≠X:=by
  intro e
  subst e
  unfold Rw at hX hY
  rw [hX] at hY
  simp at hY
 have hXb:b≠X:=by
  intro e
  subst e
  obtain ⟨es,c,e,_⟩:=ho
  unfold Rw at hX
  rw [hX] at e
  cases e
 have c0:=(hX.cell 0).trans (show _=some (.int .i64 1) from rfl)
 have c1:=hX.frozen 0
 obtain ⟨RX,OX⟩:=hX.set 0 (.int .i64 2)
 replace RX:Rw 3 (w.setCell ⟨X,0,none⟩ (.int .i64 2)) X #[.int .i64 2]:=by simpa using RX
 go_enter Tryz.func87,Tryz.ntmps87
 go_wp2
 go_loopw [5] (fun s5 wr=>(s5=undef∧wr=w.setCell ⟨X,0,none⟩ (.int .i64 2))∨(s5 = .string ⟨#[82,50]⟩∧Rw 3 wr X #[.int .i64 3]∧Near X w wr)) (fun s5 _=>match s5 with | .string _=>0|_=>1)
 case atStart=>exact .inl ⟨rfl,rfl⟩
 case round =>
  have hz:∀ w',(zeroValue 139).run Tryz.prog w' = .ok (.agg #[]) w':=fun w'=>Tryz.zeroValue139 w'
  rcases hrel with ⟨rfl,rfl⟩|⟨rfl,RX3,hN⟩
  ·have r0:=(RX.cell 0).trans (show _=some (.int .i64 2) from rfl)
   have r1:=RX.frozen 0
   have HI:=itoaS 2 (by omega) (w.setCell ⟨X,0,none⟩ (.int .i64 2))
   rw [dd2] at HI
   obtain ⟨RX3,OX3⟩:=RX.set 0 (.int .i64 3)
   replace RX3:Rw 3 ((w.setCell ⟨X,0,none⟩ (.int .i64 2)).setCell ⟨X,0,none⟩ (.int .i64 3)) X #[.int .i64 3]:=by simpa using RX3
   have hg3:=(OX.trans OX3).grown
   have O3:=ho.kept hg3 (fun e=>hXb (by cases e;rfl))
   have Y3:=hY.kept hg3 (fun e=>hXY (by cases e;rfl))
   have y0:=(Y3.cell 0).trans (show _=some (.map (some b)) from rfl)
   obtain ⟨x,y,hrun,hx⟩:=O3.look_ok (string_keyed Tryz.underlying9) (t:=104) (e:=139) Tryz.underlying104 (z:=.agg #[]) (hz _) (zd:=.held (.agg #[])) (zp:=[]) rfl (keyS (s:=⟨#[82,50]⟩) (by decide))
   rw [h2] at hrun
   rw [hV] at hx
   simp only [iQ,Option.some.injEq,Prod.mk.injEq,DataW.held.injEq] at hx
   obtain ⟨rfl,_⟩:=hx
   have ap:(({ data:=#[82] }:ByteArray) ++ { data:=#[50] }) = { data:=#[82,50] }:=by rfl
   have hN4:Near X w (((w.setCell ⟨X,0,none⟩ (.int .i64 2)).setCell ⟨X,0,none⟩ (.int .i64 3)).alloc (.cells #[] 139)):=(OX.trans OX3).near.trans (bP (aG _ _))
   have RX4:=RX3.alloc (.cells #[] 139)
   clear RX3 OX3 hg3 O3 Y3 hX hY ho OX RX hz
   go_wp2_with fail
   refine HI.mono ?_
   rintro e w4 ⟨rfl,rfl⟩
   go_wp2
   go_roundw
   case rel=>first|exact .inr ⟨rfl,RX4,hN4⟩
   case measure=>exact Nat.zero_lt_one
  ·have r0:=(RX3.cell 0).trans (show _=some (.int .i64 3) from rfl)
   have r1:=RX3.frozen 0
   have HI:=itoaS 3 (by omega) wr
   rw [dd3] at HI
   obtain ⟨RX4,OX4⟩:=RX3.set 0 (.int .i64 4)
   have hN4:=hN.trans OX4.near
   have hg4:=hN4.grow
   have O3:=ho.kept hg4 (fun e=>hXb (by cases e;rfl))
   have Y3:=hY.kept hg4 (fun e=>hXY (by cases e;rfl))
   have y0:=(Y3.cell 0).trans (show _=some (.map (some b)) from rfl)
   obtain ⟨x,y,hrun,hx⟩:=O3.look_ok (string_keyed Tryz.underlying9) (t:=104) (e:=139) Tryz.underlying104 (z:=.agg #[]) (hz _) (zd:=.held (.agg #[])) (zp:=[]) rfl (keyS (s:=⟨#[82,51]⟩) (by decide))
   rw [h3] at hrun
   rw [hV] at hx
   simp only [iQ,Option.some.injEq,Prod.mk.injEq,DataW.held.injEq] at hx
   obtain ⟨rfl,_⟩:=hx
   have ap:(({ data:=#[82] }:ByteArray) ++ { data:=#[51] }) = { data:=#[82,51] }:=by rfl
   have hN5:Near X w ((wr.setCell ⟨X,0,none⟩ (.int .i64 4)).alloc (.cells #[] 139)):=hN4.trans (bP (aG _ _))
   clear RX3 RX4 OX4 hg4 O3 Y3 hX hY ho OX RX hz hN hN4
   go_wp2_with fail
   refine HI.mono ?_
   rintro e w4 ⟨rfl,rfl⟩
   go_wp2
   go_ret
   first|exact ⟨rfl,hN5⟩
end Go.Proofs.YtdcocflnafcikaaGreatDoor
