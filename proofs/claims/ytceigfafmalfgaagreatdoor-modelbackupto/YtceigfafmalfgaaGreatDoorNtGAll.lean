import Derived.Shelf.Strconv.Itoa3
import Derived.Test.YtceigfafmalfgaaGreatDoorProg
import Derived.Test.YtceigfafmalfgaaGreatDoorGuardSAll
namespace Go.Proofs
open Go.Shelf
def Tryz.lays283_ren:Go.Shelf.Ren:=⟨fun|283=>85|n=>n,fun|3=>3|9=>9|4=>4|n=>n,fun|n=>n⟩
theorem Tryz.lays283:Go.Proofs.Lays.n283 Tryz.prog Tryz.lays283_ren:={
 mixed:=by kernel_rfl
 f283:=Tryz.func85.trans (congrArg some (by kernel_rfl))
 t3:=Tryz.underlying3
 a3:=Tryz.isAgg3
 z3:=Tryz.sizeOf3
 v3:=Tryz.zeroValue3
 t4:=Tryz.underlying4
 a4:=Tryz.isAgg4
 z4:=Tryz.sizeOf4
 v4:=Tryz.zeroValue4
 t9:=Tryz.underlying9
 a9:=Tryz.isAgg9
 z9:=Tryz.sizeOf9
 v9:=Tryz.zeroValue9 }
end Go.Proofs
namespace Go.Proofs.YtceigfafmalfgaaGreatDoor
open Go.RowKit Go.Maps Go.Shelf
set_option maxRecDepth 100000 in
set_option maxHeartbeats 2000000 in
theorem itoaS (u:Nat) (hs:u<100) (w:World):Calls Tryz.prog 37 #[.int .i64 (u:Int)] w fun e w'=>e = .returned (.string ⟨(Lib.decDigits u).toArray⟩)∧w'=w:=by
 have hsI:(u:Int)<100:=by omega
 have hw:IntKind.i64.wrap (u:Int)=(u:Int):=by rw [IntKind.wrap_i64];omega
 have HS:Calls Tryz.prog 85 #[.int .i64 (u:Int)] w fun e w'=>e = .returned (.string ⟨(Lib.decDigits u).toArray⟩)∧w'=w:=Any.internal_strconv_small Tryz.lays283 u hs w
 have HF:Calls Tryz.prog 67 #[.int .i64 (u:Int),.int .i64 10] w fun e w'=>e = .returned (.string ⟨(Lib.decDigits u).toArray⟩)∧w'=w:=by
  go_enter Tryz.func67,Tryz.ntmps67
  go_wp2_with fail
  refine HS.mono ?_
  rintro e w' ⟨rfl,rfl⟩
  go_wp2
  go_ret
  exact ⟨rfl,rfl⟩
 have HI:Calls Tryz.prog 51 #[.int .i64 (u:Int)] w fun e w'=>e = .returned (.string ⟨(Lib.decDigits u).toArray⟩)∧w'=w:=by
  go_enter Tryz.func51,Tryz.ntmps51
  go_wp2_with fail
  refine HF.mono ?_
  rintro e w' ⟨rfl,rfl⟩
  go_wp2
  go_ret
  exact ⟨rfl,rfl⟩
 go_enter Tryz.func37,Tryz.ntmps37
 go_wp2_with fail
 refine HI.mono ?_
 rintro e w' ⟨rfl,rfl⟩
 go_wp2
 go_ret
 exact ⟨rfl,rfl⟩
theorem namerQ (b:Nat) (w:World):Calls Tryz.prog 19 #[.map (some b)] w fun e w'=>e = .returned (.func (.func 36) #[] #[.pointer (some ⟨w.heap.size+1,0,none⟩),.pointer (some ⟨w.heap.size,0,none⟩)])∧Rw 64 w' w.heap.size #[.map (some b)]∧Rw 3 w' (w.heap.size+1) #[.int .i64 1]∧Below w.heap.size w w':=by
 have X0:=Rw.new 64 w #[.map (some b)]
 have X1:=Rw.new 3 (w.alloc (.cells #[.map (some b)] 64)) #[.int .i64 1]
 rw [show (w.alloc (.cells #[.map (some b)] 64)).heap.size=w.heap.size+1 by simp] at X1
 have hb:=bel_tr (bel_d0 w (.cells #[.map (some b)] 64)) (bel_d0 (w.alloc (.cells #[.map (some b)] 64)) (.cells #[.int .i64 1] 3))
 replace X0:=X0.alloc (.cells #[.int .i64 1] 3)
 go_enter Tryz.func19,Tryz.ntmps19
 go_wp2
 go_ret
 exact ⟨rfl,X0,X1,hb⟩
theorem dd2:Lib.decDigits 2=[50]:=by simp [Lib.decDigits]
theorem dd3:Lib.decDigits 3=[51]:=by simp [Lib.decDigits]
set_option maxRecDepth 100000 in
set_option maxHeartbeats 4000000 in
theorem nameA {v:Int} (hv:v=2) {w:World} {X Y b n:Nat} {D:DataW Value} (hX:Rw 3 w X #[.int .i64 1]) (hY:Rw 64 w Y #[.map (some b)]) (ho:w.ownsMap Tryz.prog 9 rawR b n D) (h2:Maps.has D (kS ⟨#[82,50]⟩)=true) (h3:Maps.has D (kS ⟨#[82,51]⟩)=false) (hV:∀ s,D.atKey (kS s) (.held (.agg #[])) = .held (.agg #[])) :
  Calls Tryz.prog 36 #[.int .i64 v,.pointer (some ⟨X,0,none⟩),.pointer (some ⟨Y,0,none⟩)] w fun e w'=>e = .returned (.string ⟨#[82,51]⟩)∧Near X w w':=by
 subst hv
 have hXY:Y≠X:=by
  intro e
  subst e
  unfold Rw at hX hY
  rw [hX] at hY
  simp at hY
 have hXb:b≠X:=by
  intro e
  subst e
  obtain ⟨es,c,e,_⟩:=ho
  unfold Rw at hX
  rw [hX] at e
  cases e
 have c0:=(hX.cell 0).trans (show _=some (.int .i64 1) from rfl)
 have c1:=hX.frozen 0
 obtain ⟨RX,OX⟩:=hX.set 0 (.int .i64 2)
 replace RX:Rw 3 (w.setCell ⟨X,0,none⟩ (.int .i64 2)) X #[.int .i64 2]:=by simpa using RX
 go_enter Tryz.func36,Tryz.ntmps36
 go_wp2
 go_loopw [5] (fun s5 wr=>(s5=undef∧wr=w.setCell ⟨X,0,none⟩ (.int .i64 2))∨(s5 = .string ⟨#[82,50]⟩∧Rw 3 wr X #[.int .i64 3]∧Near X w wr)) (fun s5 _=>match s5 with | .string _=>0|_=>1)
 case atStart=>exact .inl ⟨rfl,rfl⟩
 case round =>
  have hz:∀ w',(zeroValue 88).run Tryz.prog w' = .ok (.agg #[]) w':=fun w'=>Tryz.zeroValue88 w'
  rcases hrel with ⟨rfl,rfl⟩|⟨rfl,RX3,hN⟩
  ·have r0:=(RX.cell 0).trans (show _=some (.int .i64 2) from rfl)
   have r1:=RX.frozen 0
   have HI:=itoaS 2 (by omega) (w.setCell ⟨X,0,none⟩ (.int .i64 2))
   rw [dd2] at HI
   obtain ⟨RX3,OX3⟩:=RX.set 0 (.int .i64 3)
   replace RX3:Rw 3 ((w.setCell ⟨X,0,none⟩ (.int .i64 2)).setCell ⟨X,0,none⟩ (.int .i64 3)) X #[.int .i64 3]:=by simpa using RX3
   have hg3:=(OX.trans OX3).grown
   have O3:=ho.kept hg3 (fun e=>hXb (by cases e;rfl))
   have Y3:=hY.kept hg3 (fun e=>hXY (by cases e;rfl))
   have y0:=(Y3.cell 0).trans (show _=some (.map (some b)) from rfl)
   obtain ⟨x,y,hrun,hx⟩:=O3.look_ok (string_keyed Tryz.underlying9) (t:=64) (e:=88) Tryz.underlying64 (z:=.agg #[]) (hz _) (zd:=.held (.agg #[])) (zp:=[]) rfl (keyS (s:=⟨#[82,50]⟩) (by decide))
   rw [h2] at hrun
   rw [hV] at hx
   simp only [rawR,Option.some.injEq,Prod.mk.injEq,DataW.held.injEq] at hx
   obtain ⟨rfl,_⟩:=hx
   have ap:(({ data:=#[82] }:ByteArray) ++ { data:=#[50] }) = { data:=#[82,50] }:=by rfl
   have hN4:Near X w (((w.setCell ⟨X,0,none⟩ (.int .i64 2)).setCell ⟨X,0,none⟩ (.int .i64 3)).alloc (.cells #[] 88)):=(OX.trans OX3).near.trans (near_of (bel_d0 _ _))
   have RX4:=RX3.alloc (.cells #[] 88)
   clear RX3 OX3 hg3 O3 Y3 hX hY ho OX RX hz
   go_wp2_with fail
   refine HI.mono ?_
   rintro e w4 ⟨rfl,rfl⟩
   go_wp2
   go_roundw
   case rel=>first|exact .inr ⟨rfl,RX4,hN4⟩
   case measure=>exact Nat.zero_lt_one
  ·have r0:=(RX3.cell 0).trans (show _=some (.int .i64 3) from rfl)
   have r1:=RX3.frozen 0
   have HI:=itoaS 3 (by omega) wr
   rw [dd3] at HI
   obtain ⟨RX4,OX4⟩:=RX3.set 0 (.int .i64 4)
   have hN4:=hN.trans OX4.near
   have hg4:=hN4.grow
   have O3:=ho.kept hg4 (fun e=>hXb (by cases e;rfl))
   have Y3:=hY.kept hg4 (fun e=>hXY (by cases e;rfl))
   have y0:=(Y3.cell 0).trans (show _=some (.map (some b)) from rfl)
   obtain ⟨x,y,hrun,hx⟩:=O3.look_ok (string_keyed Tryz.underlying9) (t:=64) (e:=88) Tryz.underlying64 (z:=.agg #[]) (hz _) (zd:=.held (.agg #[])) (zp:=[]) rfl (keyS (s:=⟨#[82,51]⟩) (by decide))
   rw [h3] at hrun
   rw [hV] at hx
   simp only [rawR,Option.some.injEq,Prod.mk.injEq,DataW.held.injEq] at hx
   obtain ⟨rfl,_⟩:=hx
   have ap:(({ data:=#[82] }:ByteArray) ++ { data:=#[51] }) = { data:=#[82,51] }:=by rfl
   have hN5:Near X w ((wr.setCell ⟨X,0,none⟩ (.int .i64 4)).alloc (.cells #[] 88)):=hN4.trans (near_of (bel_d0 _ _))
   clear RX3 RX4 OX4 hg4 O3 Y3 hX hY ho OX RX hz hN hN4
   go_wp2_with fail
   refine HI.mono ?_
   rintro e w4 ⟨rfl,rfl⟩
   go_wp2
   go_ret
   first|exact ⟨rfl,hN5⟩
end Go.Proofs.YtceigfafmalfgaaGreatDoor
