import Derived.Test.YtmeimjakdheidaaGreatDoorShC
set_option maxRecDepth 100000
set_option maxHeartbeats 4000000
namespace Go.Proofs.YtmeimjakdheidaaGreatDoor
open Go.RowKit
theorem stpI:(Tryz.prog.info? 70).map (·.size)=some 5:=by kernel_rfl
theorem wY:Inf 70 5 40:=kH (by kernel_rfl)
theorem lN {R c:Nat} {a0 a1 a2 a3 a4 a5 a7:Value} (w:World) (hr:Rw 61 w R #[a0,a1,a2,a3,a4,a5,.int .i64 (c:Nat),a7]) (hc:c≤1000000000) :
 Calls Tryz.prog 46 #[.pointer (some ⟨R,0,none⟩)] w fun e w'=>e = .returned (.int .i64 (c:Nat))∧Rw 61 w' R #[a0,a1,a2,a3,a4,a5,.int .i64 ((c+1:Nat):Int),a7]∧Off R w w':=by
 have y6:=(hr.cell 6).trans (show _=some (.int .i64 (c:Nat)) from rfl)
 have v6:=hr.frozen 6
 obtain ⟨RN,O⟩:=hr.set 6 (.int .i64 ((c:Int)+1))
 replace RN:Rw 61 (w.setCell ⟨R,6,none⟩ (.int .i64 ((c:Int)+1))) R #[a0,a1,a2,a3,a4,a5,.int .i64 ((c:Int)+1),a7]:=by simpa using RN
 have z6:=(RN.cell 6).trans (show _=some (.int .i64 ((c:Int)+1)) from rfl)
 have h2:(c:Int)+1-1=(c:Nat):=by omega
 go_enter Tryz.func46,Tryz.ntmps46
 go_wp2
 go_ret
 exact ⟨by first|rfl|rw [h2],RN,O⟩
theorem upF {p:Bool} {a:Option Addr} {na ca:Nat} {d:Option Addr} {nd cd:Nat} {S:Nat} {R:Nat} (v:PV) (u:Nat) (w:World) (hv:v.hlo=true) (hr:GR w 0 p a na ca d nd cd v.lo S) (hR:R<w.heap.size) :
 Calls Tryz.prog 45 #[.agg #[.bool p,.slice a na ca,.slice d nd cd],.int .i64 (u:Nat)] w fun e w'=>∃ c0 c1 c2 c3 c4,e = .returned (.agg #[c0,c1,c2,c3,c4])∧(c0.oneCell'=true∧c1.oneCell'=true∧c2.oneCell'=true∧c3.oneCell'=true∧c4.oneCell'=true)∧StC w' R w'.heap.size v u S [c0,c1,c2,c3,c4]∧Below w.heap.size w w':=by
 have R0:=Rw.new 27 w #[.bool p,.slice a na ca,.slice d nd cd]
 have hb0:=aI w (.cells #[.bool p,.slice a na ca,.slice d nd cd] 27)
 have hs0:(w.alloc (.cells #[.bool p,.slice a na ca,.slice d nd cd] 27)).heap.size=w.heap.size+1:=by simp
 have R1:=Rw.new 3 (w.alloc (.cells #[.bool p,.slice a na ca,.slice d nd cd] 27)) #[.int .i64 (u:Nat)]
 rw [hs0] at R1
 have hb1:=aI (w.alloc (.cells #[.bool p,.slice a na ca,.slice d nd cd] 27)) (.cells #[.int .i64 (u:Nat)] 3)
 have hs1:((w.alloc (.cells #[.bool p,.slice a na ca,.slice d nd cd] 27)).alloc (.cells #[.int .i64 (u:Nat)] 3)).heap.size=w.heap.size+2:=by simp
 have R2:=Rw.new 70 ((w.alloc (.cells #[.bool p,.slice a na ca,.slice d nd cd] 27)).alloc (.cells #[.int .i64 (u:Nat)] 3)) #[.int .i64 0,.int .i64 0,.nilFunc,.nilFunc,.nilFunc]
 rw [hs1] at R2
 have hb2:=aI ((w.alloc (.cells #[.bool p,.slice a na ca,.slice d nd cd] 27)).alloc (.cells #[.int .i64 (u:Nat)] 3)) (.cells #[.int .i64 0,.int .i64 0,.nilFunc,.nilFunc,.nilFunc] 70)
 have hs2:(((w.alloc (.cells #[.bool p,.slice a na ca,.slice d nd cd] 27)).alloc (.cells #[.int .i64 (u:Nat)] 3)).alloc (.cells #[.int .i64 0,.int .i64 0,.nilFunc,.nilFunc,.nilFunc] 70)).heap.size=w.heap.size+3:=by simp
 replace R0:=(R0.below hb1).below hb2
 replace R1:=R1.below hb2
 replace hr:=((hr.below hb0).below hb1).below hb2
 have hb:=aF (aF hb0 hb1) hb2
 have x1:=(R1.cell 0).trans (show _=some (.int .i64 (u:Nat)) from rfl)
 clear hs0 hs1 hb0 hb1 hb2
 go_enter Tryz.func45,Tryz.ntmps45
 go_wp2_with (refine R2.put #[.int .i64 (u:Nat),.int .i64 (-1),.func (.func 78) #[] #[.pointer (some ⟨w.heap.size,0,none⟩),.pointer (some ⟨w.heap.size+1,0,none⟩)],.func (.func 80) #[] #[.pointer (some ⟨w.heap.size+1,0,none⟩)],.func (.func 81) #[] #[.pointer (some ⟨w.heap.size+1,0,none⟩)]] rfl _ _ rfl rfl rfl stpI rfl (by simp [Value.oneCell']) ?_)
 generalize ((w.alloc (.cells #[.bool p,.slice a na ca,.slice d nd cd] 27)).alloc (.cells #[.int .i64 (u:Nat)] 3)).alloc (.cells #[.int .i64 0,.int .i64 0,.nilFunc,.nilFunc,.nilFunc] 70)=W0 at *
 intro w2 R3 O
 have hsz:w2.heap.size=w.heap.size+3:=O.size.trans hs2
 have R0':=R0.off O (by omega)
 have R1':=R1.off O (by omega)
 have hw:=hb.trans (O.below (by omega))
 have hg:GR w2 0 p a na ca d nd cd v.lo S:=hr.keep (row:=some (w.heap.size+2)) (R2.noW (by decide)) O.grown
 clear R0 R1 hr hb x1
 go_wp2
 refine bodyPost_ret (v:=.agg #[.int .i64 (u:Nat),.int .i64 (-1),.func (.func 78) #[] #[.pointer (some ⟨w.heap.size,0,none⟩),.pointer (some ⟨w.heap.size+1,0,none⟩)],.func (.func 80) #[] #[.pointer (some ⟨w.heap.size+1,0,none⟩)],.func (.func 81) #[] #[.pointer (some ⟨w.heap.size+1,0,none⟩)]]) (Rw.ret1 Tryz.results45 _ R3 rfl Tryz.underlying70 stpI) rfl ?_
 exact ⟨_,_,_,_,_,rfl,⟨rfl,rfl,rfl,rfl,rfl⟩,.inl ⟨hv,_,_,_,_,_,_,_,_,_,rfl,R0',hg,R1',hR,by omega,by omega,by omega⟩,hw⟩
theorem dnF {p:Bool} {a:Option Addr} {na ca:Nat} {d:Option Addr} {nd cd:Nat} {S:Nat} {R:Nat} (v:PV) (u:Nat) (w:World) (hv:v.hlo=false) (hv':v.hhi=true) (hr:GR w 0 p a na ca d nd cd v.hi S) (hR:R<w.heap.size) :
 Calls Tryz.prog 47 #[.agg #[.bool p,.slice a na ca,.slice d nd cd],.int .i64 (u:Nat)] w fun e w'=>∃ c0 c1 c2 c3 c4,e = .returned (.agg #[c0,c1,c2,c3,c4])∧(c0.oneCell'=true∧c1.oneCell'=true∧c2.oneCell'=true∧c3.oneCell'=true∧c4.oneCell'=true)∧StC w' R w'.heap.size v u S [c0,c1,c2,c3,c4]∧Below w.heap.size w w':=by
 have R0:=Rw.new 27 w #[.bool p,.slice a na ca,.slice d nd cd]
 have hb0:=aI w (.cells #[.bool p,.slice a na ca,.slice d nd cd] 27)
 have hs0:(w.alloc (.cells #[.bool p,.slice a na ca,.slice d nd cd] 27)).heap.size=w.heap.size+1:=by simp
 have R1:=Rw.new 3 (w.alloc (.cells #[.bool p,.slice a na ca,.slice d nd cd] 27)) #[.int .i64 (u:Nat)]
 rw [hs0] at R1
 have hb1:=aI (w.alloc (.cells #[.bool p,.slice a na ca,.slice d nd cd] 27)) (.cells #[.int .i64 (u:Nat)] 3)
 have hs1:((w.alloc (.cells #[.bool p,.slice a na ca,.slice d nd cd] 27)).alloc (.cells #[.int .i64 (u:Nat)] 3)).heap.size=w.heap.size+2:=by simp
 have R2:=Rw.new 70 ((w.alloc (.cells #[.bool p,.slice a na ca,.slice d nd cd] 27)).alloc (.cells #[.int .i64 (u:Nat)] 3)) #[.int .i64 0,.int .i64 0,.nilFunc,.nilFunc,.nilFunc]
 rw [hs1] at R2
 have hb2:=aI ((w.alloc (.cells #[.bool p,.slice a na ca,.slice d nd cd] 27)).alloc (.cells #[.int .i64 (u:Nat)] 3)) (.cells #[.int .i64 0,.int .i64 0,.nilFunc,.nilFunc,.nilFunc] 70)
 have hs2:(((w.alloc (.cells #[.bool p,.slice a na ca,.slice d nd cd] 27)).alloc (.cells #[.int .i64 (u:Nat)] 3)).alloc (.cells #[.int .i64 0,.int .i64 0,.nilFunc,.nilFunc,.nilFunc] 70)).heap.size=w.heap.size+3:=by simp
 replace R0:=(R0.below hb1).below hb2
 replace R1:=R1.below hb2
 replace hr:=((hr.below hb0).below hb1).below hb2
 have hb:=aF (aF hb0 hb1) hb2
 have x1:=(R1.cell 0).trans (show _=some (.int .i64 (u:Nat)) from rfl)
 clear hs0 hs1 hb0 hb1 hb2
 go_enter Tryz.func47,Tryz.ntmps47
 go_wp2_with (refine R2.put #[.int .i64 (u:Nat),.int .i64 (-1),.func (.func 82) #[] #[.pointer (some ⟨w.heap.size,0,none⟩),.pointer (some ⟨w.heap.size+1,0,none⟩)],.func (.func 83) #[] #[.pointer (some ⟨w.heap.size+1,0,none⟩)],.func (.func 84) #[] #[.pointer (some ⟨w.heap.size+1,0,none⟩)]] rfl _ _ rfl rfl rfl stpI rfl (by simp [Value.oneCell']) ?_)
 generalize ((w.alloc (.cells #[.bool p,.slice a na ca,.slice d nd cd] 27)).alloc (.cells #[.int .i64 (u:Nat)] 3)).alloc (.cells #[.int .i64 0,.int .i64 0,.nilFunc,.nilFunc,.nilFunc] 70)=W0 at *
 intro w2 R3 O
 have hsz:w2.heap.size=w.heap.size+3:=O.size.trans hs2
 have R0':=R0.off O (by omega)
 have R1':=R1.off O (by omega)
 have hw:=hb.trans (O.below (by omega))
 have hg:GR w2 0 p a na ca d nd cd v.hi S:=hr.keep (row:=some (w.heap.size+2)) (R2.noW (by decide)) O.grown
 clear R0 R1 hr hb x1
 go_wp2
 refine bodyPost_ret (v:=.agg #[.int .i64 (u:Nat),.int .i64 (-1),.func (.func 82) #[] #[.pointer (some ⟨w.heap.size,0,none⟩),.pointer (some ⟨w.heap.size+1,0,none⟩)],.func (.func 83) #[] #[.pointer (some ⟨w.heap.size+1,0,none⟩)],.func (.func 84) #[] #[.pointer (some ⟨w.heap.size+1,0,none⟩)]]) (Rw.ret1 Tryz.results47 _ R3 rfl Tryz.underlying70 stpI) rfl ?_
 exact ⟨_,_,_,_,_,rfl,⟨rfl,rfl,rfl,rfl,rfl⟩,(.inr (.inl ⟨hv,hv',_,_,_,_,_,_,_,_,_,rfl,R0',hg,R1',hR,by omega,by omega,by omega⟩)),hw⟩
theorem frF {R S:Nat} (v:PV) (u m:Nat) (w:World) (hm:m=u+1) (hv:v.hlo=false) (hv':v.hhi=false) (hR:R<w.heap.size) :
 Calls Tryz.prog 48 #[.int .i64 (u:Nat),.int .i64 (m:Nat)] w fun e w'=>∃ c0 c1 c2 c3 c4,e = .returned (.agg #[c0,c1,c2,c3,c4])∧(c0.oneCell'=true∧c1.oneCell'=true∧c2.oneCell'=true∧c3.oneCell'=true∧c4.oneCell'=true)∧StC w' R w'.heap.size v u S [c0,c1,c2,c3,c4]∧Below w.heap.size w w':=by
 have HM:Hid (m=u+1):=hm
 clear hm
 have R0:=Rw.new 3 w #[.int .i64 (u:Nat)]
 have hb0:=aI w (.cells #[.int .i64 (u:Nat)] 3)
 have hs0:(w.alloc (.cells #[.int .i64 (u:Nat)] 3)).heap.size=w.heap.size+1:=by simp
 have R1:=Rw.new 3 (w.alloc (.cells #[.int .i64 (u:Nat)] 3)) #[.int .i64 (m:Nat)]
 rw [hs0] at R1
 have hb1:=aI (w.alloc (.cells #[.int .i64 (u:Nat)] 3)) (.cells #[.int .i64 (m:Nat)] 3)
 have hs1:((w.alloc (.cells #[.int .i64 (u:Nat)] 3)).alloc (.cells #[.int .i64 (m:Nat)] 3)).heap.size=w.heap.size+2:=by simp
 have R2:=Rw.new 70 ((w.alloc (.cells #[.int .i64 (u:Nat)] 3)).alloc (.cells #[.int .i64 (m:Nat)] 3)) #[.int .i64 0,.int .i64 0,.nilFunc,.nilFunc,.nilFunc]
 rw [hs1] at R2
 have hb2:=aI ((w.alloc (.cells #[.int .i64 (u:Nat)] 3)).alloc (.cells #[.int .i64 (m:Nat)] 3)) (.cells #[.int .i64 0,.int .i64 0,.nilFunc,.nilFunc,.nilFunc] 70)
 have hs2:(((w.alloc (.cells #[.int .i64 (u:Nat)] 3)).alloc (.cells #[.int .i64 (m:Nat)] 3)).alloc (.cells #[.int .i64 0,.int .i64 0,.nilFunc,.nilFunc,.nilFunc] 70)).heap.size=w.heap.size+3:=by simp
 replace R0:=(R0.below hb1).below hb2
 replace R1:=R1.below hb2
 have hb:=aF (aF hb0 hb1) hb2
 have x0:=(R0.cell 0).trans (show _=some (.int .i64 (u:Nat)) from rfl)
 have x1:=(R1.cell 0).trans (show _=some (.int .i64 (m:Nat)) from rfl)
 clear hs0 hs1 hb0 hb1 hb2
 go_enter Tryz.func48,Tryz.ntmps48
 go_wp2_with (refine R2.put #[.int .i64 (u:Nat),.int .i64 (m:Nat),.func (.func 85) #[] #[.pointer (some ⟨w.heap.size,0,none⟩),.pointer (some ⟨w.heap.size+1,0,none⟩)],.func (.func 85) #[] #[.pointer (some ⟨w.heap.size,0,none⟩),.pointer (some ⟨w.heap.size+1,0,none⟩)],.func (.func 86) #[] #[.pointer (some ⟨w.heap.size,0,none⟩),.pointer (some ⟨w.heap.size+1,0,none⟩)]] rfl _ _ rfl rfl rfl stpI rfl (by simp [Value.oneCell']) ?_)
 generalize ((w.alloc (.cells #[.int .i64 (u:Nat)] 3)).alloc (.cells #[.int .i64 (m:Nat)] 3)).alloc (.cells #[.int .i64 0,.int .i64 0,.nilFunc,.nilFunc,.nilFunc] 70)=W0 at *
 intro w2 R3 O
 have hsz:w2.heap.size=w.heap.size+3:=O.size.trans hs2
 have R0':=R0.off O (by omega)
 have R1':=R1.off O (by omega)
 have hw:=hb.trans (O.below (by omega))
 clear R0 R1 hb x1 x0 O
 go_wp2
 refine bodyPost_ret (v:=.agg #[.int .i64 (u:Nat),.int .i64 (m:Nat),.func (.func 85) #[] #[.pointer (some ⟨w.heap.size,0,none⟩),.pointer (some ⟨w.heap.size+1,0,none⟩)],.func (.func 85) #[] #[.pointer (some ⟨w.heap.size,0,none⟩),.pointer (some ⟨w.heap.size+1,0,none⟩)],.func (.func 86) #[] #[.pointer (some ⟨w.heap.size,0,none⟩),.pointer (some ⟨w.heap.size+1,0,none⟩)]]) (Rw.ret1 Tryz.results48 _ R3 rfl Tryz.underlying70 stpI) rfl ?_
 obtain rfl:=HM.out
 exact ⟨_,_,_,_,_,rfl,⟨rfl,rfl,rfl,rfl,rfl⟩,.inr (.inr ⟨hv,hv',_,_,rfl,R0',R1',hR,by omega,by omega,by omega⟩),hw⟩
end Go.Proofs.YtmeimjakdheidaaGreatDoor
