import Derived.Test.YtjiodidemimgmaaGreatDoorBpIAll
import Derived.Test.YtjiodidemimgmaaGreatDoorBpUAll
import Derived.Test.YtjiodidemimgmaaGreatDoorBpH1All
namespace Go.Proofs.YtjiodidemimgmaaGreatDoor
open Go.RowKit
set_option maxRecDepth 100000 in
set_option maxHeartbeats 8000000 in
theorem numB {ga:Option Addr} {n gc:Nat} {Y:Nat→Rat} {S:Nat} (j:Nat) (w:World) (hL:LQ w ga n Y (fun _=>S)) (hS:1≤S∧S≤6000000):Calls Tryz.prog 73 #[.slice ga n gc,.int .i64 (j:Nat)] w fun e w'=>NumP w (if j < n then Y j else 0) S e w':=by
 have R0:=var3_new w (.bool false) (.slice none 0 0) (.slice none 0 0) 29
 have hb0:=bel_d0 w (.cells #[.bool false,.slice none 0 0,.slice none 0 0] 29)
 have hs0:(w.alloc (.cells #[.bool false,.slice none 0 0,.slice none 0 0] 29)).heap.size = w.heap.size + 1:=by simp
 have hj0:(0:Int)≤(j:Int):=by omega
 have hd0:decide ((0:Int)≤(j:Int)) = true:=decide_eq_true hj0
 by_cases hlt:j < n
 ·rw [if_pos hlt]
  rcases hL with h0 | ⟨b,o,rfl,hel⟩
  ·omega
  obtain ⟨p,a,na,ca,d,nd,cd,k0,k1,k2,hre⟩:=hel j hlt
  have hjI:(j:Int) < (n:Int):=by omega
  have hjn:¬ (j:Int) < 0:=by omega
  have hj3:(j:Int) * 3 = ((j * 3:Nat):Int):=by omega
  replace k0:=kept_c hb0 k0
  replace k1:=kept_c hb0 k1
  replace k2:=kept_c hb0 k2
  replace hre:=hre.below hb0
  clear hel
  go_enter Tryz.func73,Tryz.ntmps73
  go_wp2_with fail
  generalize w.alloc (.cells #[.bool false,.slice none 0 0,.slice none 0 0] 29) = W0 at *
  refine (normD W0 hre (by omega) hS.1).mono ?_
  rintro e w1 ⟨p1,a1,n1,c1,d1,m1,e1,rfl,G1,h1⟩
  have R1:=R0.below h1
  clear k0 k1 k2 R0 hre
  obtain ⟨V,O⟩:=R1.set (.bool p1) (.slice a1 n1 c1) (.slice d1 m1 e1)
  have GN:=(G1.off O (by omega)).mono (B':=w.heap.size) (by omega)
  have hw:=(bel_tr hb0 h1).trans (O.below (by omega))
  obtain ⟨r0,r1,r2,r3,r4,r5⟩:=id R1
  clear G1 h1 R1 O
  go_wp2
  exact bodyPost_ret (v:=.agg #[.bool p1,.slice a1 n1 c1,.slice d1 m1 e1]) (by simp [results,Tryz.results73,go_sem,V.c0,V.c1,V.c2]) rfl ⟨_,_,_,_,_,_,_,rfl,GN,hw⟩
 ·rw [if_neg hlt]
  have hjI:¬ (j:Int) < (n:Int):=by omega
  go_enter Tryz.func73,Tryz.ntmps73
  go_wp2_with fail
  generalize w.alloc (.cells #[.bool false,.slice none 0 0,.slice none 0 0] 29) = W0 at *
  refine (ofD 0 W0 (by decide) (by decide)).mono ?_
  rintro e w1 ⟨p1,a1,n1,c1,d1,m1,e1,rfl,G1',h1⟩
  have G1:=G1'.le hS.1
  have R1:=R0.below h1
  clear R0 G1'
  obtain ⟨V,O⟩:=R1.set (.bool p1) (.slice a1 n1 c1) (.slice d1 m1 e1)
  have GN:=(G1.off O (by omega)).mono (B':=w.heap.size) (by omega)
  have hw:=(bel_tr hb0 h1).trans (O.below (by omega))
  obtain ⟨r0,r1,r2,r3,r4,r5⟩:=id R1
  clear G1 h1 R1 O
  go_wp2
  exact bodyPost_ret (v:=.agg #[.bool p1,.slice a1 n1 c1,.slice d1 m1 e1]) (by simp [results,Tryz.results73,go_sem,V.c0,V.c1,V.c2]) rfl ⟨_,_,_,_,_,_,_,rfl,GN,hw⟩
set_option maxRecDepth 100000 in
set_option maxHeartbeats 8000000 in
theorem entryB {s:StD} {S:Nat} {r:Rat} (i j:Nat) (w:World) (hr:s.e i j = r) (hs:StQ w s S) (hS:1≤S∧S≤6000000):Calls Tryz.prog 36 #[.agg #[.slice s.aa s.an s.ac,.slice s.ba s.bn s.bc,.slice s.ca s.cn s.cc,.bool s.zp,.slice s.za s.zn s.zc,.slice s.zd s.zm s.ze],.int .i64 (i:Nat),.int .i64 (j:Nat)] w fun e w'=>NumP w r S e w':=by
 unfold StD.e at hr
 by_cases hlt:i < s.an
 ·rw [if_pos hlt] at hr
  have HR:Hid ((if j < s.rn i then s.E i j else 0) = r):=hr
  clear hr
  rcases hs.a with h0 | ⟨b,o,eaa,hel⟩
  ·omega
  obtain ⟨k0,k1,k2⟩:=hel i hlt
  rw [eaa]
  have B0:=box_new w #[.slice (some ⟨b,o,none⟩) s.an s.ac,.slice s.ba s.bn s.bc,.slice s.ca s.cn s.cc,.bool s.zp,.slice s.za s.zn s.zc,.slice s.zd s.zm s.ze] 31
  have ha0:=bel_d0 w (.cells #[.slice (some ⟨b,o,none⟩) s.an s.ac,.slice s.ba s.bn s.bc,.slice s.ca s.cn s.cc,.bool s.zp,.slice s.za s.zn s.zc,.slice s.zd s.zm s.ze] 31)
  have ha1:=bel_d0 (w.alloc (.cells #[.slice (some ⟨b,o,none⟩) s.an s.ac,.slice s.ba s.bn s.bc,.slice s.ca s.cn s.cc,.bool s.zp,.slice s.za s.zn s.zc,.slice s.zd s.zm s.ze] 31)) (.cells #[.bool false,.slice none 0 0,.slice none 0 0] 29)
  have R0:=var3_new (w.alloc (.cells #[.slice (some ⟨b,o,none⟩) s.an s.ac,.slice s.ba s.bn s.bc,.slice s.ca s.cn s.cc,.bool s.zp,.slice s.za s.zn s.zc,.slice s.zd s.zm s.ze] 31)) (.bool false) (.slice none 0 0) (.slice none 0 0) 29
  have hs0:(w.alloc (.cells #[.slice (some ⟨b,o,none⟩) s.an s.ac,.slice s.ba s.bn s.bc,.slice s.ca s.cn s.cc,.bool s.zp,.slice s.za s.zn s.zc,.slice s.zd s.zm s.ze] 31)).heap.size = w.heap.size + 1:=by simp
  have hs1:((w.alloc (.cells #[.slice (some ⟨b,o,none⟩) s.an s.ac,.slice s.ba s.bn s.bc,.slice s.ca s.cn s.cc,.bool s.zp,.slice s.za s.zn s.zc,.slice s.zd s.zm s.ze] 31)).alloc (.cells #[.bool false,.slice none 0 0,.slice none 0 0] 29)).heap.size = w.heap.size + 2:=by simp
  rw [hs0] at R0
  have hb0:=bel_tr ha0 ha1
  have x0:=kept_c ha1 (B0 0 _ rfl)
  have hiI:(i:Int) < (s.an:Int):=by omega
  have hin:¬ (i:Int) < 0:=by omega
  replace k0:=kept_c hb0 k0
  replace k2:=k2.below hb0
  clear hel B0 ha0 ha1 hs0
  have HAA:Hid (s.aa = some ⟨b,o,none⟩):=eaa
  clear eaa
  go_enter Tryz.func36,Tryz.ntmps36
  go_wp2_with fail
  generalize (w.alloc (.cells #[.slice (some ⟨b,o,none⟩) s.an s.ac,.slice s.ba s.bn s.bc,.slice s.ca s.cn s.cc,.bool s.zp,.slice s.za s.zn s.zc,.slice s.zd s.zm s.ze] 31)).alloc (.cells #[.bool false,.slice none 0 0,.slice none 0 0] 29) = W0 at *
  refine (numB j W0 k2 hS).mono ?_
  rintro e w1 ⟨p1,a1,n1,c1,d1,m1,e1,rfl,G1',h1⟩
  have G1:=G1'.val HR.out
  clear G1'
  have R1:=R0.below h1
  clear k0 k1 k2 R0 x0
  obtain ⟨V,O⟩:=R1.set (.bool p1) (.slice a1 n1 c1) (.slice d1 m1 e1)
  have GN:=(G1.off O (by omega)).mono (B':=w.heap.size) (by omega)
  have hw:=(bel_tr hb0 h1).trans (O.below (by omega))
  obtain ⟨r0,r1,r2,r3,r4,r5⟩:=id R1
  clear G1 h1 R1 O
  go_wp2
  exact bodyPost_ret (v:=.agg #[.bool p1,.slice a1 n1 c1,.slice d1 m1 e1]) (by simp [results,Tryz.results36,go_sem,V.c0,V.c1,V.c2]) rfl ⟨_,_,_,_,_,_,_,rfl,GN,hw⟩
 ·rw [if_neg hlt] at hr
  have HR:Hid (((0:Int):Rat) = r):=hr
  clear hr
  have B0:=box_new w #[.slice s.aa s.an s.ac,.slice s.ba s.bn s.bc,.slice s.ca s.cn s.cc,.bool s.zp,.slice s.za s.zn s.zc,.slice s.zd s.zm s.ze] 31
  have ha0:=bel_d0 w (.cells #[.slice s.aa s.an s.ac,.slice s.ba s.bn s.bc,.slice s.ca s.cn s.cc,.bool s.zp,.slice s.za s.zn s.zc,.slice s.zd s.zm s.ze] 31)
  have ha1:=bel_d0 (w.alloc (.cells #[.slice s.aa s.an s.ac,.slice s.ba s.bn s.bc,.slice s.ca s.cn s.cc,.bool s.zp,.slice s.za s.zn s.zc,.slice s.zd s.zm s.ze] 31)) (.cells #[.bool false,.slice none 0 0,.slice none 0 0] 29)
  have R0:=var3_new (w.alloc (.cells #[.slice s.aa s.an s.ac,.slice s.ba s.bn s.bc,.slice s.ca s.cn s.cc,.bool s.zp,.slice s.za s.zn s.zc,.slice s.zd s.zm s.ze] 31)) (.bool false) (.slice none 0 0) (.slice none 0 0) 29
  have hs0:(w.alloc (.cells #[.slice s.aa s.an s.ac,.slice s.ba s.bn s.bc,.slice s.ca s.cn s.cc,.bool s.zp,.slice s.za s.zn s.zc,.slice s.zd s.zm s.ze] 31)).heap.size = w.heap.size + 1:=by simp
  have hs1:((w.alloc (.cells #[.slice s.aa s.an s.ac,.slice s.ba s.bn s.bc,.slice s.ca s.cn s.cc,.bool s.zp,.slice s.za s.zn s.zc,.slice s.zd s.zm s.ze] 31)).alloc (.cells #[.bool false,.slice none 0 0,.slice none 0 0] 29)).heap.size = w.heap.size + 2:=by simp
  rw [hs0] at R0
  have hb0:=bel_tr ha0 ha1
  have x0:=kept_c ha1 (B0 0 _ rfl)
  have hiI:¬ (i:Int) < (s.an:Int):=by omega
  clear B0 ha0 ha1 hs0
  go_enter Tryz.func36,Tryz.ntmps36
  go_wp2_with fail
  generalize (w.alloc (.cells #[.slice s.aa s.an s.ac,.slice s.ba s.bn s.bc,.slice s.ca s.cn s.cc,.bool s.zp,.slice s.za s.zn s.zc,.slice s.zd s.zm s.ze] 31)).alloc (.cells #[.bool false,.slice none 0 0,.slice none 0 0] 29) = W0 at *
  refine (ofD 0 W0 (by decide) (by decide)).mono ?_
  rintro e w1 ⟨p1,a1,n1,c1,d1,m1,e1,rfl,G1',h1⟩
  have G1:=(G1'.le hS.1).val HR.out
  have R1:=R0.below h1
  clear R0 x0 G1'
  obtain ⟨V,O⟩:=R1.set (.bool p1) (.slice a1 n1 c1) (.slice d1 m1 e1)
  have GN:=(G1.off O (by omega)).mono (B':=w.heap.size) (by omega)
  have hw:=(bel_tr hb0 h1).trans (O.below (by omega))
  obtain ⟨r0,r1,r2,r3,r4,r5⟩:=id R1
  clear G1 h1 R1 O
  go_wp2
  exact bodyPost_ret (v:=.agg #[.bool p1,.slice a1 n1 c1,.slice d1 m1 e1]) (by simp [results,Tryz.results36,go_sem,V.c0,V.c1,V.c2]) rfl ⟨_,_,_,_,_,_,_,rfl,GN,hw⟩
end Go.Proofs.YtjiodidemimgmaaGreatDoor
