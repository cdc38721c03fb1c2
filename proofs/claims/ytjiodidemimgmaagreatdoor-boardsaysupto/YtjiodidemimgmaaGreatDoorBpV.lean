import Derived.Test.YtjiodidemimgmaaGreatDoorBpUAll
import Derived.Test.YtjiodidemimgmaaGreatDoorBpS
namespace Go.Proofs.YtjiodidemimgmaaGreatDoor
open Go.RowKit
def TldP (w:World) (r:Rat) (S:Nat) (e:Ending) (w':World):Prop:=∃ p a na ca d nd cd,e = .returned (.agg #[.bool p,.slice a na ca,.slice d nd cd])∧TR w' p a na ca d nd cd r S∧Below w.heap.size w w'
def StD.bg (s:StD) (k j:Nat):Rat:=dsg (s.t k) (if j < s.cn then s.e k j else s.B k)
def StD.bj (s:StD) (j:Nat):Nat:=if j < s.cn then j else s.cn + s.bn
theorem StD.bg_tx (s:StD) (k j:Nat):s.bg k j = TX s.row (s.cn + s.bn) (s.bj j) k:=by
 unfold StD.bg StD.bj TX
 by_cases hj:j < s.cn
 ·rw [if_pos hj,if_pos hj,if_pos (by omega),s.row_e hj]
 ·rw [if_neg hj,if_neg hj,if_neg (by omega)]
  rfl
theorem StD.bj_lt (s:StD) (j:Nat):s.bj j < s.cn + s.bn + 1:=by
 unfold StD.bj
 split <;> omega
set_option maxRecDepth 100000 in
set_option maxHeartbeats 8000000 in
theorem begunB {s:StD} {S:Nat} {r:Rat} (k j:Nat) (w:World) (hr:s.bg k j = r) (hs:StQ w s S) (hk:k < s.bn) (hS:1≤S∧S≤6000000):Calls Tryz.prog 9 #[.agg #[.slice s.aa s.an s.ac,.slice s.ba s.bn s.bc,.slice s.ca s.cn s.cc,.bool s.zp,.slice s.za s.zn s.zc,.slice s.zd s.zm s.ze],.int .i64 (k:Nat),.int .i64 (j:Nat)] w fun e w'=>TldP w r S e w':=by
 rcases hs.b with h0 | ⟨eb,eo,eba,hel⟩
 ·omega
 obtain ⟨p0,a0,n0,c0,d0,m0,e0,k0,k1,k2,TE⟩:=hel k hk
 rw [eba]
 have HBA:Hid (s.ba = some ⟨eb,eo,none⟩):=eba
 obtain ⟨sg,esg⟩:∃ sg:Int,sg = (s.B k).num.sign:=⟨_,rfl⟩
 have HSG:Hid (sg = (s.B k).num.sign):=esg
 obtain ⟨xv,exv⟩:∃ xv,xv = (if j < s.cn then s.e k j else s.B k):=⟨_,rfl⟩
 have HXV:Hid (xv = (if j < s.cn then s.e k j else s.B k)):=exv
 have HR:Hid ((sg < 0→-xv = r)∧(0≤sg→xv = r)):=by
  unfold StD.bg StD.t at hr
  rw [← exv,← esg] at hr
  refine ⟨fun h=>?_,fun h=>?_⟩
  ·rw [decide_eq_true h] at hr
   exact hr
  ·rw [decide_eq_false (show ¬ sg < 0 by omega)] at hr
   exact hr
 have B0:=box_new w #[.slice s.aa s.an s.ac,.slice (some ⟨eb,eo,none⟩) s.bn s.bc,.slice s.ca s.cn s.cc,.bool s.zp,.slice s.za s.zn s.zc,.slice s.zd s.zm s.ze] 31
 have ha0:=bel_d0 w (.cells #[.slice s.aa s.an s.ac,.slice (some ⟨eb,eo,none⟩) s.bn s.bc,.slice s.ca s.cn s.cc,.bool s.zp,.slice s.za s.zn s.zc,.slice s.zd s.zm s.ze] 31)
 have ha1:=bel_d0 (w.alloc (.cells #[.slice s.aa s.an s.ac,.slice (some ⟨eb,eo,none⟩) s.bn s.bc,.slice s.ca s.cn s.cc,.bool s.zp,.slice s.za s.zn s.zc,.slice s.zd s.zm s.ze] 31)) (.cells #[.bool false,.slice none 0 0,.slice none 0 0] 29)
 have ha2:=bel_d0 ((w.alloc (.cells #[.slice s.aa s.an s.ac,.slice (some ⟨eb,eo,none⟩) s.bn s.bc,.slice s.ca s.cn s.cc,.bool s.zp,.slice s.za s.zn s.zc,.slice s.zd s.zm s.ze] 31)).alloc (.cells #[.bool false,.slice none 0 0,.slice none 0 0] 29)) (.cells #[.bool p0,.slice a0 n0 c0,.slice d0 m0 e0] 29)
 have hs0:(w.alloc (.cells #[.slice s.aa s.an s.ac,.slice (some ⟨eb,eo,none⟩) s.bn s.bc,.slice s.ca s.cn s.cc,.bool s.zp,.slice s.za s.zn s.zc,.slice s.zd s.zm s.ze] 31)).heap.size = w.heap.size + 1:=by simp
 have hs1:((w.alloc (.cells #[.slice s.aa s.an s.ac,.slice (some ⟨eb,eo,none⟩) s.bn s.bc,.slice s.ca s.cn s.cc,.bool s.zp,.slice s.za s.zn s.zc,.slice s.zd s.zm s.ze] 31)).alloc (.cells #[.bool false,.slice none 0 0,.slice none 0 0] 29)).heap.size = w.heap.size + 2:=by simp
 have hs2:(((w.alloc (.cells #[.slice s.aa s.an s.ac,.slice (some ⟨eb,eo,none⟩) s.bn s.bc,.slice s.ca s.cn s.cc,.bool s.zp,.slice s.za s.zn s.zc,.slice s.zd s.zm s.ze] 31)).alloc (.cells #[.bool false,.slice none 0 0,.slice none 0 0] 29)).alloc (.cells #[.bool p0,.slice a0 n0 c0,.slice d0 m0 e0] 29)).heap.size = w.heap.size + 3:=by simp
 have VR0:=var3_new (w.alloc (.cells #[.slice s.aa s.an s.ac,.slice (some ⟨eb,eo,none⟩) s.bn s.bc,.slice s.ca s.cn s.cc,.bool s.zp,.slice s.za s.zn s.zc,.slice s.zd s.zm s.ze] 31)) (.bool false) (.slice none 0 0) (.slice none 0 0) 29
 have VX0:=var3_new ((w.alloc (.cells #[.slice s.aa s.an s.ac,.slice (some ⟨eb,eo,none⟩) s.bn s.bc,.slice s.ca s.cn s.cc,.bool s.zp,.slice s.za s.zn s.zc,.slice s.zd s.zm s.ze] 31)).alloc (.cells #[.bool false,.slice none 0 0,.slice none 0 0] 29)) (.bool p0) (.slice a0 n0 c0) (.slice d0 m0 e0) 29
 rw [hs0] at VR0
 rw [hs1] at VX0
 have hbA:=bel_tr ha0 ha1
 have hb3:=bel_tr hbA ha2
 have BA:=B0.below ha1
 have b1:=BA 1 _ rfl
 have j0:=kept_c hbA k0
 have j1:=kept_c hbA k1
 have j2:=kept_c hbA k2
 have hkI:(k:Int) < (s.bn:Int):=by omega
 have hk0:¬ (k:Int) < 0:=by omega
 have hk3:(k:Int) * 3 = ((k * 3:Nat):Int):=by omega
 have VR1:=VR0.below ha2
 have BB0:=BA.below ha2
 have y2:=BB0 2 _ rfl
 have y0:=BB0 0 _ rfl
 have y1:=BB0 1 _ rfl
 have y3:=BB0 3 _ rfl
 have y4:=BB0 4 _ rfl
 have y5:=BB0 5 _ rfl
 have q0:=kept_c hb3 k0
 have q1:=kept_c hb3 k1
 have q2:=kept_c hb3 k2
 have TE3:=TE.below hb3
 have hsW:w.heap.size + 3≤(((w.alloc (.cells #[.slice s.aa s.an s.ac,.slice (some ⟨eb,eo,none⟩) s.bn s.bc,.slice s.ca s.cn s.cc,.bool s.zp,.slice s.za s.zn s.zc,.slice s.zd s.zm s.ze] 31)).alloc (.cells #[.bool false,.slice none 0 0,.slice none 0 0] 29)).alloc (.cells #[.bool p0,.slice a0 n0 c0,.slice d0 m0 e0] 29)).heap.size:=Nat.le_of_eq hs2.symm
 clear hel eba esg exv hr ha0 ha1 ha2 B0 BA VR0 hs0 hs1 hbA hs2
 by_cases hj:j < s.cn
 ·have hjI:(j:Int) < (s.cn:Int):=by omega
  have HE:Hid (s.e k j = xv):=by show s.e k j = xv;rw [HXV.out,if_pos hj]
  have hs3:=hs.below hb3
  clear q0 q1 q2 TE3
  go_enter Tryz.func9,Tryz.ntmps9
  go_wp2_with fail
  clear b1 j0 j1 j2 y0 y1 y2 y3 y4 y5
  generalize (((w.alloc (.cells #[.slice s.aa s.an s.ac,.slice (some ⟨eb,eo,none⟩) s.bn s.bc,.slice s.ca s.cn s.cc,.bool s.zp,.slice s.za s.zn s.zc,.slice s.zd s.zm s.ze] 31)).alloc (.cells #[.bool false,.slice none 0 0,.slice none 0 0] 29)).alloc (.cells #[.bool p0,.slice a0 n0 c0,.slice d0 m0 e0] 29)) = W3 at *
  have hcall:=entryB k j W3 HE.out hs3 hS
  rw [HBA.out] at hcall
  refine hcall.mono ?_
  clear hcall
  rintro e w4 ⟨p8,a8,n8,c8,d8,m8,e8,rfl,G8,h4⟩
  have VX4:=VX0.below h4
  obtain ⟨VX,OX⟩:=VX4.set (.bool p8) (.slice a8 n8 c8) (.slice d8 m8 e8)
  obtain ⟨x0,x1,x2,x3,x4,x5⟩:=id VX4
  have hs4:=h4.size
  have hbv:=(bel_tr hb3 h4).trans (OX.below (show w.heap.size≤w.heap.size + 2 by omega))
  have GX:=G8.off OX (by omega)
  have VR:=(VR1.below h4).off OX (by omega)
  have g1:=(OX.cell (p:=⟨w.heap.size,1,none⟩) (by simp)).trans ((BB0.below h4) 1 _ rfl)
  have g2:=kept_c hbv k0
  have g3:=kept_c hbv k1
  have g4:=kept_c hbv k2
  have TV:=TE.below hbv
  have TX8:=GX.tr
  have hsz:(((w4.setCell ⟨w.heap.size + 2,0,none⟩ (.bool p8)).setCell ⟨w.heap.size + 2,1,none⟩ (.slice a8 n8 c8)).setCell ⟨w.heap.size + 2,2,none⟩ (.slice d8 m8 e8)).heap.size = w4.heap.size:=OX.size
  clear G8 h4 VX4 OX VX0 VR1 BB0 hs3 k0 k1 k2
  go_wp2_with fail
  refine (signB sg _ TV (by omega) hS.1 HSG.out).mono ?_
  rintro e w6 ⟨rfl,h6⟩
  have VX6:=VX.below h6
  have VR6:=VR.below h6
  have hb6:=bel_tr hbv h6
  have TX6:=TX8.below h6
  have GX6:=GX.below h6
  obtain ⟨z0,z1,z2,z3,z4,z5⟩:=id VX6
  clear h6 VX VR TV TX8 g1 g2 g3 g4 x0 x1 x2 x3 x4 x5 hbv TE GX
  by_cases hsg:sg < 0
  ·go_wp2_with fail
   refine (negD w6 TX6 (by omega) hS.1).mono ?_
   rintro e w9 ⟨p9,a9,n9,c9,d9,m9,e9,rfl,G9,h9⟩
   have VR9:=VR6.below h9
   have hb9:=bel_tr hb6 h9
   have hrr:=HR.out.1 hsg
   obtain ⟨V9,O9⟩:=VR9.set (.bool p9) (.slice a9 n9 c9) (.slice d9 m9 e9)
   have hw:=hb9.trans (O9.below (show w.heap.size≤w.heap.size + 1 by omega))
   have GN:=(G9.off O9 (by have:=hb6.size;have:=VR6.lt;omega)).tr
   obtain ⟨r0,r1,r2,r3,r4,r5⟩:=id VR9
   rw [hrr] at GN
   clear VR6 VX6 h9 G9 TX6 z0 z1 z2 z3 z4 z5 hb6 hrr
   go_wp2
   exact bodyPost_ret (v:=.agg #[.bool p9,.slice a9 n9 c9,.slice d9 m9 e9]) (by simp [results,Tryz.results9,go_sem,V9.c0,V9.c1,V9.c2]) rfl ⟨_,_,_,_,_,_,_,rfl,GN,hw⟩
  ·have VR9:=VR6
   have hb9:=hb6
   have hrr:=HR.out.2 (by omega)
   obtain ⟨V9,O9⟩:=VR9.set (.bool p8) (.slice a8 n8 c8) (.slice d8 m8 e8)
   have hw:=hb9.trans (O9.below (show w.heap.size≤w.heap.size + 1 by omega))
   have GN:=(GX6.off O9 (by omega)).tr
   obtain ⟨r0,r1,r2,r3,r4,r5⟩:=id VR9
   rw [hrr] at GN
   clear VR6 VX6 TX6 hrr
   go_wp2
   exact bodyPost_ret (v:=.agg #[.bool p8,.slice a8 n8 c8,.slice d8 m8 e8]) (by simp [results,Tryz.results9,go_sem,V9.c0,V9.c1,V9.c2]) rfl ⟨_,_,_,_,_,_,_,rfl,GN,hw⟩
 ·have hjI:¬ (j:Int) < (s.cn:Int):=by omega
  have HE:Hid (s.B k = xv):=by show s.B k = xv;rw [HXV.out,if_neg hj]
  go_enter Tryz.func9,Tryz.ntmps9
  go_wp2_with fail
  clear b1 j0 j1 j2
  have TXx:TR (((w.alloc (.cells #[.slice s.aa s.an s.ac,.slice (some ⟨eb,eo,none⟩) s.bn s.bc,.slice s.ca s.cn s.cc,.bool s.zp,.slice s.za s.zn s.zc,.slice s.zd s.zm s.ze] 31)).alloc (.cells #[.bool false,.slice none 0 0,.slice none 0 0] 29)).alloc (.cells #[.bool p0,.slice a0 n0 c0,.slice d0 m0 e0] 29)) p0 a0 n0 c0 d0 m0 e0 xv S:=by rw [← HE.out];exact TE3
  generalize (((w.alloc (.cells #[.slice s.aa s.an s.ac,.slice (some ⟨eb,eo,none⟩) s.bn s.bc,.slice s.ca s.cn s.cc,.bool s.zp,.slice s.za s.zn s.zc,.slice s.zd s.zm s.ze] 31)).alloc (.cells #[.bool false,.slice none 0 0,.slice none 0 0] 29)).alloc (.cells #[.bool p0,.slice a0 n0 c0,.slice d0 m0 e0] 29)) = W3 at *
  refine (signB sg _ TE3 (by omega) hS.1 HSG.out).mono ?_
  rintro e w6 ⟨rfl,h6⟩
  have VX6:=VX0.below h6
  have VR6:=VR1.below h6
  have hb6:=bel_tr hb3 h6
  have TX6:=TXx.below h6
  obtain ⟨z0,z1,z2,z3,z4,z5⟩:=id VX6
  clear h6 VX0 VR1 TE3 TXx q0 q1 q2 y0 y1 y2 y3 y4 y5 k0 k1 k2 hb3 BB0
  by_cases hsg:sg < 0
  ·go_wp2_with fail
   refine (negD w6 TX6 (by omega) hS.1).mono ?_
   rintro e w9 ⟨p9,a9,n9,c9,d9,m9,e9,rfl,G9,h9⟩
   have VR9:=VR6.below h9
   have hb9:=bel_tr hb6 h9
   have hrr:=HR.out.1 hsg
   obtain ⟨V9,O9⟩:=VR9.set (.bool p9) (.slice a9 n9 c9) (.slice d9 m9 e9)
   have hw:=hb9.trans (O9.below (show w.heap.size≤w.heap.size + 1 by omega))
   have GN:=(G9.off O9 (by have:=hb6.size;have:=VR6.lt;omega)).tr
   obtain ⟨r0,r1,r2,r3,r4,r5⟩:=id VR9
   rw [hrr] at GN
   clear VR6 VX6 h9 G9 TX6 z0 z1 z2 z3 z4 z5 hb6 hrr
   go_wp2
   exact bodyPost_ret (v:=.agg #[.bool p9,.slice a9 n9 c9,.slice d9 m9 e9]) (by simp [results,Tryz.results9,go_sem,V9.c0,V9.c1,V9.c2]) rfl ⟨_,_,_,_,_,_,_,rfl,GN,hw⟩
  ·have VR9:=VR6
   have hb9:=hb6
   have hrr:=HR.out.2 (by omega)
   obtain ⟨V9,O9⟩:=VR9.set (.bool p0) (.slice a0 n0 c0) (.slice d0 m0 e0)
   have hw:=hb9.trans (O9.below (show w.heap.size≤w.heap.size + 1 by omega))
   have GN:=TE.below hw
   obtain ⟨r0,r1,r2,r3,r4,r5⟩:=id VR9
   rw [HE.out,hrr] at GN
   clear VR6 VX6 TX6 hrr
   go_wp2
   exact bodyPost_ret (v:=.agg #[.bool p0,.slice a0 n0 c0,.slice d0 m0 e0]) (by simp [results,Tryz.results9,go_sem,V9.c0,V9.c1,V9.c2]) rfl ⟨_,_,_,_,_,_,_,rfl,GN,hw⟩
end Go.Proofs.YtjiodidemimgmaaGreatDoor
