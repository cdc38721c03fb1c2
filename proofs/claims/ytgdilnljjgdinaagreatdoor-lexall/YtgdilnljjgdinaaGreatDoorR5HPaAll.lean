import Derived.Test.YtgdilnljjgdinaaGreatDoorR5EAll
namespace Go.Proofs.YtgdilnljjgdinaaGreatDoor
open Go.RowKit Go.Shelf
set_option maxRecDepth 100000 in
set_option maxHeartbeats 4000000 in
theorem dBPa5b {s:ByteArray} {p0 i:Nat} {neg:Bool} {N:Int} (w:World) (hs:s.size≤1048576) (hat:sgJ s 0=p0) (hneg:sgN s 0=neg) (hi:runE s p0=i) (hN:rdF s p0 (i-p0)=N) (ha0:p0≤s.size) (_hi0:i≤s.size) (_hai0:p0≤i) (hai1:p0<i) (hil1:i<s.size) (hB:byt s i=46) {k b:Nat} {D M:Int} (hk:runE s (i+1)=k) (hkb:k=i+1+b) (hks:k≤s.size) (hD:rdF s (i+1) (k-(i+1))=D) (hM:Hid (N*p10 b+D=M)) {M1:Nat} (hM1:M1=1048577) (hMb:Hid (M<pw M1)) {mm:Nat} (hmm:(i:Int)-(p0:Int)+(b:Int)=(mm:Int)) {e:Int} {dn ok:Bool} (he:exV s k=e) (hd:exD s k=dn) (ho:exOk s k=ok) (_hm0:mm≠0) (hok:ok=false)  :
  Calls Tryz.prog 34 #[.string s] w fun e w'=>e = .returned (.tuple #[.agg #[.bool false,.slice none 0 0,.slice none 0 0],.int .i64 5])∧Below w.heap.size w w':=by
 have hai:(p0:Int)<(i:Int):=by omega
 have hii:(0:Int)≤(i:Int):=by omega
 have hil:(i:Int)<(s.size:Int):=by omega
 have hby:=byt_get (s:=s) (k:=i) hil1
 have hw1:IntKind.i64.wrap ((i:Int)+1)=(i:Int)+1:=by rw [IntKind.wrap_i64];omega
 rw [hB] at hby
 have hk3:(k:Int)-(i:Int)-1=(b:Int):=by omega
 have hk4:(k:Int)-(i:Int)=(b:Int)+1:=by omega
 have hk5:(b:Int)+1-1=(b:Int):=by omega
 have hbz:b≤1048576:=by omega
 clear hkb
 obtain ⟨mi,hia⟩:∃ mi:Nat,(i:Int)-(p0:Int)=(mi:Int):=⟨i-p0,by omega⟩
 have hm2:(mi:Int)+(b:Int)=(mm:Int):=by omega
 clear hmm
 have R0:=var3_new w (.bool false) (.slice none 0 0) (.slice none 0 0) 44
 have hb0:=bel_d0 w (.cells #[.bool false,.slice none 0 0,.slice none 0 0] 44)
 have hsz:w.heap.size+1≤(w.alloc (.cells #[.bool false,.slice none 0 0,.slice none 0 0] 44)).heap.size:=by simp
 go_enter Tryz.func34,Tryz.ntmps34
 go_wp2_with fail
 generalize w.alloc (.cells #[.bool false,.slice none 0 0,.slice none 0 0] 44)=W0 at *
 refine (signY (i:=0) _ rfl hat hneg (Nat.zero_le _) hs).mono ?_
 rintro e w1 ⟨rfl,hx⟩
 replace R0:=R0.below hx
 replace hb0:=bel_tr hb0 hx
 replace hsz:=Nat.le_trans hsz (Below.size hx)
 clear hx
 go_wp2_with fail
 refine (runY _ rfl hi hN ha0 hs).mono ?_
 rintro e w2 ⟨cN,nN,kN,rfl,GN,hx⟩
 replace R0:=R0.below hx
 replace hb0:=bel_tr hb0 hx
 replace GN:=GN.mono (B':=w.heap.size+1) hsz
 replace hsz:=Nat.le_trans hsz (Below.size hx)
 clear hx
 go_wp2_with fail
 refine (runY (i:=i+1) _ (by simp) hk hD (by omega) hs).mono ?_
 rintro e w3 ⟨cD,nD,kD,rfl,GD,hx⟩
 replace R0:=R0.below hx
 replace GN:=GN.below hx
 replace hb0:=bel_tr hb0 hx
 replace GD:=GD.mono (B':=w.heap.size+1) hsz
 replace hsz:=Nat.le_trans hsz (Below.size hx)
 clear hx
 go_wp2_with fail
 refine (tensY b _ (by omega) (by omega)).mono ?_
 rintro e w4 ⟨cT,nT,kT,rfl,GT,hx⟩
 replace R0:=R0.below hx
 replace GN:=GN.below hx
 replace GD:=GD.below hx
 replace hb0:=bel_tr hb0 hx
 replace GT:=GT.mono (B':=w.heap.size+1) hsz
 replace hsz:=Nat.le_trans hsz (Below.size hx)
 clear hx
 go_wp2_with fail
 refine (rmulV _ GN.num GT.num (by decide)).mono ?_
 rintro e w5 ⟨cQ,nQ,kQ,rfl,GQ,hx⟩
 replace R0:=R0.below hx
 replace GN:=GN.below hx
 replace GD:=GD.below hx
 replace GT:=GT.below hx
 replace hb0:=bel_tr hb0 hx
 replace GQ:=GQ.mono (B':=w.heap.size+1) hsz
 replace hsz:=Nat.le_trans hsz (Below.size hx)
 clear hx
 clear GN
 clear GT
 go_wp2_with fail
 refine (raddV _ GQ.num (GD.le (by decide)).num (by decide)).mono ?_
 rintro e w6 ⟨cM,nM,kM,rfl,GM,hx⟩
 replace R0:=R0.below hx
 replace GD:=GD.below hx
 replace GQ:=GQ.below hx
 replace hb0:=bel_tr hb0 hx
 replace GM:=GM.mono (B':=w.heap.size+1) hsz
 replace hsz:=Nat.le_trans hsz (Below.size hx)
 clear hx
 replace GM:=(GM.val hM.out).shrink hMb.out
 clear GQ
 clear GD
 clear hM hMb
 subst hM1
 go_wp2_with fail
 refine (expY (i:=k) _ (by omega) he hd ho (by omega) hs).mono ?_
 rintro e w7 ⟨rfl,hx⟩
 replace R0:=R0.below hx
 replace GM:=GM.below hx
 replace hb0:=bel_tr hb0 hx
 replace hsz:=Nat.le_trans hsz (Below.size hx)
 clear hx
 have hmz:¬ (mm:Int)=0:=by omega
 have hmb:((mm:Int) == 0)=false:=by simpa using hmz
 subst hok
 clear GM
 obtain ⟨r0c0,r0c1,r0c2,r0c3,r0c4,r0c5⟩:=id R0
 obtain ⟨V,O⟩:=R0.set (.bool false) (.slice none 0 0) (.slice none 0 0)
 have hw:=hb0.trans (O.below (B:=w.heap.size) (by omega))
 clear R0 O hb0
 go_wp2
 refine bodyPost_ret (v:=.tuple #[.agg #[.bool false,.slice none 0 0,.slice none 0 0],.int .i64 5]) (by simp [results,Tryz.results34,go_sem,V.c0,V.c1,V.c2]) rfl ⟨rfl,hw⟩
set_option maxRecDepth 100000 in
set_option maxHeartbeats 4000000 in
theorem dBPa8 {s:ByteArray} {p0 i:Nat} {neg:Bool} {N:Int} (w:World) (hs:s.size≤1048576) (hat:sgJ s 0=p0) (hneg:sgN s 0=neg) (hi:runE s p0=i) (hN:rdF s p0 (i-p0)=N) (ha0:p0≤s.size) (_hi0:i≤s.size) (_hai0:p0≤i) (hai1:p0<i) (hil1:i<s.size) (hB:byt s i=46) {k b:Nat} {D M:Int} (hk:runE s (i+1)=k) (hkb:k=i+1+b) (hks:k≤s.size) (hD:rdF s (i+1) (k-(i+1))=D) (hM:Hid (N*p10 b+D=M)) {M1:Nat} (hM1:M1=1048577) (hMb:Hid (M<pw M1)) {mm:Nat} (hmm:(i:Int)-(p0:Int)+(b:Int)=(mm:Int)) {e:Int} {dn ok:Bool} (he:exV s k=e) (hd:exD s k=dn) (ho:exOk s k=ok) (_hm0:mm≠0) (hok:ok=true) (hbig:9999<e)  :
  Calls Tryz.prog 34 #[.string s] w fun e w'=>e = .returned (.tuple #[.agg #[.bool false,.slice none 0 0,.slice none 0 0],.int .i64 8])∧Below w.heap.size w w':=by
 have hai:(p0:Int)<(i:Int):=by omega
 have hii:(0:Int)≤(i:Int):=by omega
 have hil:(i:Int)<(s.size:Int):=by omega
 have hby:=byt_get (s:=s) (k:=i) hil1
 have hw1:IntKind.i64.wrap ((i:Int)+1)=(i:Int)+1:=by rw [IntKind.wrap_i64];omega
 rw [hB] at hby
 have hk3:(k:Int)-(i:Int)-1=(b:Int):=by omega
 have hk4:(k:Int)-(i:Int)=(b:Int)+1:=by omega
 have hk5:(b:Int)+1-1=(b:Int):=by omega
 have hbz:b≤1048576:=by omega
 clear hkb
 obtain ⟨mi,hia⟩:∃ mi:Nat,(i:Int)-(p0:Int)=(mi:Int):=⟨i-p0,by omega⟩
 have hm2:(mi:Int)+(b:Int)=(mm:Int):=by omega
 clear hmm
 have R0:=var3_new w (.bool false) (.slice none 0 0) (.slice none 0 0) 44
 have hb0:=bel_d0 w (.cells #[.bool false,.slice none 0 0,.slice none 0 0] 44)
 have hsz:w.heap.size+1≤(w.alloc (.cells #[.bool false,.slice none 0 0,.slice none 0 0] 44)).heap.size:=by simp
 go_enter Tryz.func34,Tryz.ntmps34
 go_wp2_with fail
 generalize w.alloc (.cells #[.bool false,.slice none 0 0,.slice none 0 0] 44)=W0 at *
 refine (signY (i:=0) _ rfl hat hneg (Nat.zero_le _) hs).mono ?_
 rintro e w1 ⟨rfl,hx⟩
 replace R0:=R0.below hx
 replace hb0:=bel_tr hb0 hx
 replace hsz:=Nat.le_trans hsz (Below.size hx)
 clear hx
 go_wp2_with fail
 refine (runY _ rfl hi hN ha0 hs).mono ?_
 rintro e w2 ⟨cN,nN,kN,rfl,GN,hx⟩
 replace R0:=R0.below hx
 replace hb0:=bel_tr hb0 hx
 replace GN:=GN.mono (B':=w.heap.size+1) hsz
 replace hsz:=Nat.le_trans hsz (Below.size hx)
 clear hx
 go_wp2_with fail
 refine (runY (i:=i+1) _ (by simp) hk hD (by omega) hs).mono ?_
 rintro e w3 ⟨cD,nD,kD,rfl,GD,hx⟩
 replace R0:=R0.below hx
 replace GN:=GN.below hx
 replace hb0:=bel_tr hb0 hx
 replace GD:=GD.mono (B':=w.heap.size+1) hsz
 replace hsz:=Nat.le_trans hsz (Below.size hx)
 clear hx
 go_wp2_with fail
 refine (tensY b _ (by omega) (by omega)).mono ?_
 rintro e w4 ⟨cT,nT,kT,rfl,GT,hx⟩
 replace R0:=R0.below hx
 replace GN:=GN.below hx
 replace GD:=GD.below hx
 replace hb0:=bel_tr hb0 hx
 replace GT:=GT.mono (B':=w.heap.size+1) hsz
 replace hsz:=Nat.le_trans hsz (Below.size hx)
 clear hx
 go_wp2_with fail
 refine (rmulV _ GN.num GT.num (by decide)).mono ?_
 rintro e w5 ⟨cQ,nQ,kQ,rfl,GQ,hx⟩
 replace R0:=R0.below hx
 replace GN:=GN.below hx
 replace GD:=GD.below hx
 replace GT:=GT.below hx
 replace hb0:=bel_tr hb0 hx
 replace GQ:=GQ.mono (B':=w.heap.size+1) hsz
 replace hsz:=Nat.le_trans hsz (Below.size hx)
 clear hx
 clear GN
 clear GT
 go_wp2_with fail
 refine (raddV _ GQ.num (GD.le (by decide)).num (by decide)).mono ?_
 rintro e w6 ⟨cM,nM,kM,rfl,GM,hx⟩
 replace R0:=R0.below hx
 replace GD:=GD.below hx
 replace GQ:=GQ.below hx
 replace hb0:=bel_tr hb0 hx
 replace GM:=GM.mono (B':=w.heap.size+1) hsz
 replace hsz:=Nat.le_trans hsz (Below.size hx)
 clear hx
 replace GM:=(GM.val hM.out).shrink hMb.out
 clear GQ
 clear GD
 clear hM hMb
 subst hM1
 go_wp2_with fail
 refine (expY (i:=k) _ (by omega) he hd ho (by omega) hs).mono ?_
 rintro e w7 ⟨rfl,hx⟩
 replace R0:=R0.below hx
 replace GM:=GM.below hx
 replace hb0:=bel_tr hb0 hx
 replace hsz:=Nat.le_trans hsz (Below.size hx)
 clear hx
 have hmz:¬ (mm:Int)=0:=by omega
 have hmb:((mm:Int) == 0)=false:=by simpa using hmz
 subst hok
 clear GM
 obtain ⟨r0c0,r0c1,r0c2,r0c3,r0c4,r0c5⟩:=id R0
 obtain ⟨V,O⟩:=R0.set (.bool false) (.slice none 0 0) (.slice none 0 0)
 have hw:=hb0.trans (O.below (B:=w.heap.size) (by omega))
 clear R0 O hb0
 go_wp2
 refine bodyPost_ret (v:=.tuple #[.agg #[.bool false,.slice none 0 0,.slice none 0 0],.int .i64 8]) (by simp [results,Tryz.results34,go_sem,V.c0,V.c1,V.c2]) rfl ⟨rfl,hw⟩
set_option maxRecDepth 100000 in
set_option maxHeartbeats 4000000 in
theorem dBPa0u {s:ByteArray} {p0 i:Nat} {neg:Bool} {N:Int} (w:World) (hs:s.size≤1048576) (hat:sgJ s 0=p0) (hneg:sgN s 0=neg) (hi:runE s p0=i) (hN:rdF s p0 (i-p0)=N) (ha0:p0≤s.size) (_hi0:i≤s.size) (_hai0:p0≤i) (hai1:p0<i) (hil1:i<s.size) (hB:byt s i=46) {k b:Nat} {D M:Int} (hk:runE s (i+1)=k) (hkb:k=i+1+b) (hks:k≤s.size) (hD:rdF s (i+1) (k-(i+1))=D) (hM:Hid (N*p10 b+D=M)) {M1:Nat} (hM1:M1=1048577) (hMb:Hid (M<pw M1)) {mm:Nat} (hmm:(i:Int)-(p0:Int)+(b:Int)=(mm:Int)) {e:Int} {dn ok:Bool} (he:exV s k=e) (hd:exD s k=dn) (ho:exOk s k=ok) (_hm0:mm≠0) (hok:ok=true) {en:Nat} (hen:e=en) (hbig:en≤9999) (hdn:dn=false)  :
  Calls Tryz.prog 34 #[.string s] w fun e w'=>∃ f c n k c' n' k',e = .returned (.tuple #[.agg #[.bool f,.slice c n k,.slice c' n' k'],.int .i64 0])∧GR w' w.heap.size f c n k c' n' k' (Rat.divInt (ws neg (M*p10 en)) (p10 b)) 4194309∧Below w.heap.size w w':=by
 have hai:(p0:Int)<(i:Int):=by omega
 have hii:(0:Int)≤(i:Int):=by omega
 have hil:(i:Int)<(s.size:Int):=by omega
 have hby:=byt_get (s:=s) (k:=i) hil1
 have hw1:IntKind.i64.wrap ((i:Int)+1)=(i:Int)+1:=by rw [IntKind.wrap_i64];omega
 rw [hB] at hby
 have hk3:(k:Int)-(i:Int)-1=(b:Int):=by omega
 have hk4:(k:Int)-(i:Int)=(b:Int)+1:=by omega
 have hk5:(b:Int)+1-1=(b:Int):=by omega
 have hbz:b≤1048576:=by omega
 clear hkb
 obtain ⟨mi,hia⟩:∃ mi:Nat,(i:Int)-(p0:Int)=(mi:Int):=⟨i-p0,by omega⟩
 have hm2:(mi:Int)+(b:Int)=(mm:Int):=by omega
 clear hmm
 have R0:=var3_new w (.bool false) (.slice none 0 0) (.slice none 0 0) 44
 have hb0:=bel_d0 w (.cells #[.bool false,.slice none 0 0,.slice none 0 0] 44)
 have hsz:w.heap.size+1≤(w.alloc (.cells #[.bool false,.slice none 0 0,.slice none 0 0] 44)).heap.size:=by simp
 go_enter Tryz.func34,Tryz.ntmps34
 go_wp2_with fail
 generalize w.alloc (.cells #[.bool false,.slice none 0 0,.slice none 0 0] 44)=W0 at *
 refine (signY (i:=0) _ rfl hat hneg (Nat.zero_le _) hs).mono ?_
 rintro e w1 ⟨rfl,hx⟩
 replace R0:=R0.below hx
 replace hb0:=bel_tr hb0 hx
 replace hsz:=Nat.le_trans hsz (Below.size hx)
 clear hx
 go_wp2_with fail
 refine (runY _ rfl hi hN ha0 hs).mono ?_
 rintro e w2 ⟨cN,nN,kN,rfl,GN,hx⟩
 replace R0:=R0.below hx
 replace hb0:=bel_tr hb0 hx
 replace GN:=GN.mono (B':=w.heap.size+1) hsz
 replace hsz:=Nat.le_trans hsz (Below.size hx)
 clear hx
 go_wp2_with fail
 refine (runY (i:=i+1) _ (by simp) hk hD (by omega) hs).mono ?_
 rintro e w3 ⟨cD,nD,kD,rfl,GD,hx⟩
 replace R0:=R0.below hx
 replace GN:=GN.below hx
 replace hb0:=bel_tr hb0 hx
 replace GD:=GD.mono (B':=w.heap.size+1) hsz
 replace hsz:=Nat.le_trans hsz (Below.size hx)
 clear hx
 go_wp2_with fail
 refine (tensY b _ (by omega) (by omega)).mono ?_
 rintro e w4 ⟨cT,nT,kT,rfl,GT,hx⟩
 replace R0:=R0.below hx
 replace GN:=GN.below hx
 replace GD:=GD.below hx
 replace hb0:=bel_tr hb0 hx
 replace GT:=GT.mono (B':=w.heap.size+1) hsz
 replace hsz:=Nat.le_trans hsz (Below.size hx)
 clear hx
 go_wp2_with fail
 refine (rmulV _ GN.num GT.num (by decide)).mono ?_
 rintro e w5 ⟨cQ,nQ,kQ,rfl,GQ,hx⟩
 replace R0:=R0.below hx
 replace GN:=GN.below hx
 replace GD:=GD.below hx
 replace GT:=GT.below hx
 replace hb0:=bel_tr hb0 hx
 replace GQ:=GQ.mono (B':=w.heap.size+1) hsz
 replace hsz:=Nat.le_trans hsz (Below.size hx)
 clear hx
 clear GN
 clear GT
 go_wp2_with fail
 refine (raddV _ GQ.num (GD.le (by decide)).num (by decide)).mono ?_
 rintro e w6 ⟨cM,nM,kM,rfl,GM,hx⟩
 replace R0:=R0.below hx
 replace GD:=GD.below hx
 replace GQ:=GQ.below hx
 replace hb0:=bel_tr hb0 hx
 replace GM:=GM.mono (B':=w.heap.size+1) hsz
 replace hsz:=Nat.le_trans hsz (Below.size hx)
 clear hx
 replace GM:=(GM.val hM.out).shrink hMb.out
 clear GQ
 clear GD
 clear hM hMb
 subst hM1
 go_wp2_with fail
 refine (expY (i:=k) _ (by omega) he hd ho (by omega) hs).mono ?_
 rintro e w7 ⟨rfl,hx⟩
 replace R0:=R0.below hx
 replace GM:=GM.below hx
 replace hb0:=bel_tr hb0 hx
 replace hsz:=Nat.le_trans hsz (Below.size hx)
 clear hx
 have hmz:¬ (mm:Int)=0:=by omega
 have hmb:((mm:Int) == 0)=false:=by simpa using hmz
 subst hok
 subst hen
 have hnb:¬ (9999:Int)<(en:Int):=by omega
 go_wp2_with fail
 refine (tensY b _ (by first|rfl|omega|simp) (by omega)).mono ?_
 rintro e w8 ⟨cA,nA,kA,rfl,GA,hx⟩
 replace R0:=R0.below hx
 replace GM:=GM.below hx
 replace hb0:=bel_tr hb0 hx
 replace GA:=GA.mono (B':=w.heap.size+1) hsz
 replace hsz:=Nat.le_trans hsz (Below.size hx)
 clear hx
 go_wp2_with fail
 refine (tensY en _ rfl (by omega)).mono ?_
 rintro e w9 ⟨cE,nE,kE,rfl,GE,hx⟩
 replace R0:=R0.below hx
 replace GM:=GM.below hx
 replace GA:=GA.below hx
 replace hb0:=bel_tr hb0 hx
 replace GE:=GE.mono (B':=w.heap.size+1) hsz
 replace hsz:=Nat.le_trans hsz (Below.size hx)
 clear hx
 subst hdn
 go_wp2_with fail
 refine (rmulV _ GM.num GE.num (by decide)).mono ?_
 rintro e w10 ⟨cX,nX,kX,rfl,GX,hx⟩
 replace R0:=R0.below hx
 replace GM:=GM.below hx
 replace GA:=GA.below hx
 replace GE:=GE.below hx
 replace hb0:=bel_tr hb0 hx
 replace GX:=GX.mono (B':=w.heap.size+1) hsz
 replace hsz:=Nat.le_trans hsz (Below.size hx)
 clear hx
 go_wp2_with fail
 refine (normD _ (Got.frac (neg:=neg) GX (GA.le (by decide))) (by decide) (by decide)).mono ?_
 rintro e w11 ⟨f5,c5,n5,k5,d5,m5,l5,rfl,G5,hx⟩
 replace R0:=R0.below hx
 replace GM:=GM.below hx
 replace GA:=GA.below hx
 replace GE:=GE.below hx
 replace GX:=GX.below hx
 replace hb0:=bel_tr hb0 hx
 replace G5:=G5.mono (B':=w.heap.size+1) hsz
 replace hsz:=Nat.le_trans hsz (Below.size hx)
 clear hx
 clear GM
 clear GA
 clear GE
 clear GX
 obtain ⟨r0c0,r0c1,r0c2,r0c3,r0c4,r0c5⟩:=id R0
 obtain ⟨V,OO⟩:=R0.set (.bool f5) (.slice c5 n5 k5) (.slice d5 m5 l5)
 have hw:=hb0.trans (OO.below (B:=w.heap.size) (by omega))
 have GF:=G5.off OO (by omega)
 clear G5 R0 OO hb0
 go_wp2
 refine bodyPost_ret (v:=.tuple #[.agg #[.bool f5,.slice c5 n5 k5,.slice d5 m5 l5],.int .i64 0]) (by simp [results,Tryz.results34,go_sem,V.c0,V.c1,V.c2]) rfl ⟨_,_,_,_,_,_,_,rfl,GF.mono (B':=w.heap.size) (by omega),hw⟩
set_option maxRecDepth 100000 in
set_option maxHeartbeats 4000000 in
theorem dBPa0d {s:ByteArray} {p0 i:Nat} {neg:Bool} {N:Int} (w:World) (hs:s.size≤1048576) (hat:sgJ s 0=p0) (hneg:sgN s 0=neg) (hi:runE s p0=i) (hN:rdF s p0 (i-p0)=N) (ha0:p0≤s.size) (_hi0:i≤s.size) (_hai0:p0≤i) (hai1:p0<i) (hil1:i<s.size) (hB:byt s i=46) {k b:Nat} {D M:Int} (hk:runE s (i+1)=k) (hkb:k=i+1+b) (hks:k≤s.size) (hD:rdF s (i+1) (k-(i+1))=D) (hM:Hid (N*p10 b+D=M)) {M1:Nat} (hM1:M1=1048577) (hMb:Hid (M<pw M1)) {mm:Nat} (hmm:(i:Int)-(p0:Int)+(b:Int)=(mm:Int)) {e:Int} {dn ok:Bool} (he:exV s k=e) (hd:exD s k=dn) (ho:exOk s k=ok) (_hm0:mm≠0) (hok:ok=true) {en:Nat} (hen:e=en) (hbig:en≤9999) (hdn:dn=true)  :
  Calls Tryz.prog 34 #[.string s] w fun e w'=>∃ f c n k c' n' k',e = .returned (.tuple #[.agg #[.bool f,.slice c n k,.slice c' n' k'],.int .i64 0])∧GR w' w.heap.size f c n k c' n' k' (Rat.divInt (ws neg M) (p10 b*p10 en)) 4194309∧Below w.heap.size w w':=by
 have hai:(p0:Int)<(i:Int):=by omega
 have hii:(0:Int)≤(i:Int):=by omega
 have hil:(i:Int)<(s.size:Int):=by omega
 have hby:=byt_get (s:=s) (k:=i) hil1
 have hw1:IntKind.i64.wrap ((i:Int)+1)=(i:Int)+1:=by rw [IntKind.wrap_i64];omega
 rw [hB] at hby
 have hk3:(k:Int)-(i:Int)-1=(b:Int):=by omega
 have hk4:(k:Int)-(i:Int)=(b:Int)+1:=by omega
 have hk5:(b:Int)+1-1=(b:Int):=by omega
 have hbz:b≤1048576:=by omega
 clear hkb
 obtain ⟨mi,hia⟩:∃ mi:Nat,(i:Int)-(p0:Int)=(mi:Int):=⟨i-p0,by omega⟩
 have hm2:(mi:Int)+(b:Int)=(mm:Int):=by omega
 clear hmm
 have R0:=var3_new w (.bool false) (.slice none 0 0) (.slice none 0 0) 44
 have hb0:=bel_d0 w (.cells #[.bool false,.slice none 0 0,.slice none 0 0] 44)
 have hsz:w.heap.size+1≤(w.alloc (.cells #[.bool false,.slice none 0 0,.slice none 0 0] 44)).heap.size:=by simp
 go_enter Tryz.func34,Tryz.ntmps34
 go_wp2_with fail
 generalize w.alloc (.cells #[.bool false,.slice none 0 0,.slice none 0 0] 44)=W0 at *
 refine (signY (i:=0) _ rfl hat hneg (Nat.zero_le _) hs).mono ?_
 rintro e w1 ⟨rfl,hx⟩
 replace R0:=R0.below hx
 replace hb0:=bel_tr hb0 hx
 replace hsz:=Nat.le_trans hsz (Below.size hx)
 clear hx
 go_wp2_with fail
 refine (runY _ rfl hi hN ha0 hs).mono ?_
 rintro e w2 ⟨cN,nN,kN,rfl,GN,hx⟩
 replace R0:=R0.below hx
 replace hb0:=bel_tr hb0 hx
 replace GN:=GN.mono (B':=w.heap.size+1) hsz
 replace hsz:=Nat.le_trans hsz (Below.size hx)
 clear hx
 go_wp2_with fail
 refine (runY (i:=i+1) _ (by simp) hk hD (by omega) hs).mono ?_
 rintro e w3 ⟨cD,nD,kD,rfl,GD,hx⟩
 replace R0:=R0.below hx
 replace GN:=GN.below hx
 replace hb0:=bel_tr hb0 hx
 replace GD:=GD.mono (B':=w.heap.size+1) hsz
 replace hsz:=Nat.le_trans hsz (Below.size hx)
 clear hx
 go_wp2_with fail
 refine (tensY b _ (by omega) (by omega)).mono ?_
 rintro e w4 ⟨cT,nT,kT,rfl,GT,hx⟩
 replace R0:=R0.below hx
 replace GN:=GN.below hx
 replace GD:=GD.below hx
 replace hb0:=bel_tr hb0 hx
 replace GT:=GT.mono (B':=w.heap.size+1) hsz
 replace hsz:=Nat.le_trans hsz (Below.size hx)
 clear hx
 go_wp2_with fail
 refine (rmulV _ GN.num GT.num (by decide)).mono ?_
 rintro e w5 ⟨cQ,nQ,kQ,rfl,GQ,hx⟩
 replace R0:=R0.below hx
 replace GN:=GN.below hx
 replace GD:=GD.below hx
 replace GT:=GT.below hx
 replace hb0:=bel_tr hb0 hx
 replace GQ:=GQ.mono (B':=w.heap.size+1) hsz
 replace hsz:=Nat.le_trans hsz (Below.size hx)
 clear hx
 clear GN
 clear GT
 go_wp2_with fail
 refine (raddV _ GQ.num (GD.le (by decide)).num (by decide)).mono ?_
 rintro e w6 ⟨cM,nM,kM,rfl,GM,hx⟩
 replace R0:=R0.below hx
 replace GD:=GD.below hx
 replace GQ:=GQ.below hx
 replace hb0:=bel_tr hb0 hx
 replace GM:=GM.mono (B':=w.heap.size+1) hsz
 replace hsz:=Nat.le_trans hsz (Below.size hx)
 clear hx
 replace GM:=(GM.val hM.out).shrink hMb.out
 clear GQ
 clear GD
 clear hM hMb
 subst hM1
 go_wp2_with fail
 refine (expY (i:=k) _ (by omega) he hd ho (by omega) hs).mono ?_
 rintro e w7 ⟨rfl,hx⟩
 replace R0:=R0.below hx
 replace GM:=GM.below hx
 replace hb0:=bel_tr hb0 hx
 replace hsz:=Nat.le_trans hsz (Below.size hx)
 clear hx
 have hmz:¬ (mm:Int)=0:=by omega
 have hmb:((mm:Int) == 0)=false:=by simpa using hmz
 subst hok
 subst hen
 have hnb:¬ (9999:Int)<(en:Int):=by omega
 go_wp2_with fail
 refine (tensY b _ (by first|rfl|omega|simp) (by omega)).mono ?_
 rintro e w8 ⟨cA,nA,kA,rfl,GA,hx⟩
 replace R0:=R0.below hx
 replace GM:=GM.below hx
 replace hb0:=bel_tr hb0 hx
 replace GA:=GA.mono (B':=w.heap.size+1) hsz
 replace hsz:=Nat.le_trans hsz (Below.size hx)
 clear hx
 go_wp2_with fail
 refine (tensY en _ rfl (by omega)).mono ?_
 rintro e w9 ⟨cE,nE,kE,rfl,GE,hx⟩
 replace R0:=R0.below hx
 replace GM:=GM.below hx
 replace GA:=GA.below hx
 replace hb0:=bel_tr hb0 hx
 replace GE:=GE.mono (B':=w.heap.size+1) hsz
 replace hsz:=Nat.le_trans hsz (Below.size hx)
 clear hx
 subst hdn
 go_wp2_with fail
 refine (rmulV _ GA.num GE.num (by decide)).mono ?_
 rintro e w10 ⟨cX,nX,kX,rfl,GX,hx⟩
 replace R0:=R0.below hx
 replace GM:=GM.below hx
 replace GA:=GA.below hx
 replace GE:=GE.below hx
 replace hb0:=bel_tr hb0 hx
 replace GX:=GX.mono (B':=w.heap.size+1) hsz
 replace hsz:=Nat.le_trans hsz (Below.size hx)
 clear hx
 go_wp2_with fail
 refine (normD _ (Got.frac (neg:=neg) (GM.le (by decide)) GX) (by decide) (by decide)).mono ?_
 rintro e w11 ⟨f5,c5,n5,k5,d5,m5,l5,rfl,G5,hx⟩
 replace R0:=R0.below hx
 replace GM:=GM.below hx
 replace GA:=GA.below hx
 replace GE:=GE.below hx
 replace GX:=GX.below hx
 replace hb0:=bel_tr hb0 hx
 replace G5:=G5.mono (B':=w.heap.size+1) hsz
 replace hsz:=Nat.le_trans hsz (Below.size hx)
 clear hx
 clear GM
 clear GA
 clear GE
 clear GX
 obtain ⟨r0c0,r0c1,r0c2,r0c3,r0c4,r0c5⟩:=id R0
 obtain ⟨V,OO⟩:=R0.set (.bool f5) (.slice c5 n5 k5) (.slice d5 m5 l5)
 have hw:=hb0.trans (OO.below (B:=w.heap.size) (by omega))
 have GF:=G5.off OO (by omega)
 clear G5 R0 OO hb0
 go_wp2
 refine bodyPost_ret (v:=.tuple #[.agg #[.bool f5,.slice c5 n5 k5,.slice d5 m5 l5],.int .i64 0]) (by simp [results,Tryz.results34,go_sem,V.c0,V.c1,V.c2]) rfl ⟨_,_,_,_,_,_,_,rfl,GF.mono (B':=w.heap.size) (by omega),hw⟩
end Go.Proofs.YtgdilnljjgdinaaGreatDoor
namespace Go.Proofs.YtgdilnljjgdinaaGreatDoor
open Go.RowKit Go.Shelf
set_option maxRecDepth 100000 in
set_option maxHeartbeats 4000000 in
theorem dBPn5a {s:ByteArray} {p0 i:Nat} {neg:Bool} {N:Int} (w:World) (hs:s.size≤1048576) (hat:sgJ s 0=p0) (hneg:sgN s 0=neg) (hi:runE s p0=i) (hN:rdF s p0 (i-p0)=N) (ha0:p0≤s.size) (_hi0:i≤s.size) (_hai0:p0≤i) (hai1:¬ p0<i) (hil1:i<s.size) (hB:byt s i=46) {k b:Nat} {D M:Int} (hk:runE s (i+1)=k) (hkb:k=i+1+b) (hks:k≤s.size) (hD:rdF s (i+1) (k-(i+1))=D) (hM:Hid (N*p10 b+D=M)) {M1:Nat} (hM1:M1=1048577) (hMb:Hid (M<pw M1)) {mm:Nat} (hmm:(i:Int)-(p0:Int)+(b:Int)=(mm:Int)) {e:Int} {dn ok:Bool} (he:exV s k=e) (hd:exD s k=dn) (ho:exOk s k=ok) (hm0:mm=0)  :
  Calls Tryz.prog 34 #[.string s] w fun e w'=>e = .returned (.tuple #[.agg #[.bool false,.slice none 0 0,.slice none 0 0],.int .i64 5])∧Below w.heap.size w w':=by
 have hai:¬ (p0:Int)<(i:Int):=by omega
 have hii:(0:Int)≤(i:Int):=by omega
 have hil:(i:Int)<(s.size:Int):=by omega
 have hby:=byt_get (s:=s) (k:=i) hil1
 have hw1:IntKind.i64.wrap ((i:Int)+1)=(i:Int)+1:=by rw [IntKind.wrap_i64];omega
 rw [hB] at hby
 have hk3:(k:Int)-(i:Int)-1=(b:Int):=by omega
 have hk4:(k:Int)-(i:Int)=(b:Int)+1:=by omega
 have hk5:(b:Int)+1-1=(b:Int):=by omega
 have hbz:b≤1048576:=by omega
 clear hkb
 obtain ⟨mi,hia⟩:∃ mi:Nat,(i:Int)-(p0:Int)=(mi:Int):=⟨i-p0,by omega⟩
 have hm2:(mi:Int)+(b:Int)=(mm:Int):=by omega
 clear hmm
 have R0:=var3_new w (.bool false) (.slice none 0 0) (.slice none 0 0) 44
 have hb0:=bel_d0 w (.cells #[.bool false,.slice none 0 0,.slice none 0 0] 44)
 have hsz:w.heap.size+1≤(w.alloc (.cells #[.bool false,.slice none 0 0,.slice none 0 0] 44)).heap.size:=by simp
 go_enter Tryz.func34,Tryz.ntmps34
 go_wp2_with fail
 generalize w.alloc (.cells #[.bool false,.slice none 0 0,.slice none 0 0] 44)=W0 at *
 refine (signY (i:=0) _ rfl hat hneg (Nat.zero_le _) hs).mono ?_
 rintro e w1 ⟨rfl,hx⟩
 replace R0:=R0.below hx
 replace hb0:=bel_tr hb0 hx
 replace hsz:=Nat.le_trans hsz (Below.size hx)
 clear hx
 go_wp2_with fail
 refine (runY _ rfl hi hN ha0 hs).mono ?_
 rintro e w2 ⟨cN,nN,kN,rfl,GN,hx⟩
 replace R0:=R0.below hx
 replace hb0:=bel_tr hb0 hx
 replace GN:=GN.mono (B':=w.heap.size+1) hsz
 replace hsz:=Nat.le_trans hsz (Below.size hx)
 clear hx
 go_wp2_with fail
 refine (runY (i:=i+1) _ (by simp) hk hD (by omega) hs).mono ?_
 rintro e w3 ⟨cD,nD,kD,rfl,GD,hx⟩
 replace R0:=R0.below hx
 replace GN:=GN.below hx
 replace hb0:=bel_tr hb0 hx
 replace GD:=GD.mono (B':=w.heap.size+1) hsz
 replace hsz:=Nat.le_trans hsz (Below.size hx)
 clear hx
 go_wp2_with fail
 refine (tensY b _ (by omega) (by omega)).mono ?_
 rintro e w4 ⟨cT,nT,kT,rfl,GT,hx⟩
 replace R0:=R0.below hx
 replace GN:=GN.below hx
 replace GD:=GD.below hx
 replace hb0:=bel_tr hb0 hx
 replace GT:=GT.mono (B':=w.heap.size+1) hsz
 replace hsz:=Nat.le_trans hsz (Below.size hx)
 clear hx
 go_wp2_with fail
 refine (rmulV _ GN.num GT.num (by decide)).mono ?_
 rintro e w5 ⟨cQ,nQ,kQ,rfl,GQ,hx⟩
 replace R0:=R0.below hx
 replace GN:=GN.below hx
 replace GD:=GD.below hx
 replace GT:=GT.below hx
 replace hb0:=bel_tr hb0 hx
 replace GQ:=GQ.mono (B':=w.heap.size+1) hsz
 replace hsz:=Nat.le_trans hsz (Below.size hx)
 clear hx
 clear GN
 clear GT
 go_wp2_with fail
 refine (raddV _ GQ.num (GD.le (by decide)).num (by decide)).mono ?_
 rintro e w6 ⟨cM,nM,kM,rfl,GM,hx⟩
 replace R0:=R0.below hx
 replace GD:=GD.below hx
 replace GQ:=GQ.below hx
 replace hb0:=bel_tr hb0 hx
 replace GM:=GM.mono (B':=w.heap.size+1) hsz
 replace hsz:=Nat.le_trans hsz (Below.size hx)
 clear hx
 replace GM:=(GM.val hM.out).shrink hMb.out
 clear GQ
 clear GD
 clear hM hMb
 subst hM1
 go_wp2_with fail
 refine (expY (i:=k) _ (by omega) he hd ho (by omega) hs).mono ?_
 rintro e w7 ⟨rfl,hx⟩
 replace R0:=R0.below hx
 replace GM:=GM.below hx
 replace hb0:=bel_tr hb0 hx
 replace hsz:=Nat.le_trans hsz (Below.size hx)
 clear hx
 subst hm0
 have hmz:((0:Nat):Int)=0:=rfl
 clear GM
 obtain ⟨r0c0,r0c1,r0c2,r0c3,r0c4,r0c5⟩:=id R0
 obtain ⟨V,O⟩:=R0.set (.bool false) (.slice none 0 0) (.slice none 0 0)
 have hw:=hb0.trans (O.below (B:=w.heap.size) (by omega))
 clear R0 O hb0
 go_wp2
 refine bodyPost_ret (v:=.tuple #[.agg #[.bool false,.slice none 0 0,.slice none 0 0],.int .i64 5]) (by simp [results,Tryz.results34,go_sem,V.c0,V.c1,V.c2]) rfl ⟨rfl,hw⟩
set_option maxRecDepth 100000 in
set_option maxHeartbeats 4000000 in
theorem dBPn5b {s:ByteArray} {p0 i:Nat} {neg:Bool} {N:Int} (w:World) (hs:s.size≤1048576) (hat:sgJ s 0=p0) (hneg:sgN s 0=neg) (hi:runE s p0=i) (hN:rdF s p0 (i-p0)=N) (ha0:p0≤s.size) (_hi0:i≤s.size) (_hai0:p0≤i) (hai1:¬ p0<i) (hil1:i<s.size) (hB:byt s i=46) {k b:Nat} {D M:Int} (hk:runE s (i+1)=k) (hkb:k=i+1+b) (hks:k≤s.size) (hD:rdF s (i+1) (k-(i+1))=D) (hM:Hid (N*p10 b+D=M)) {M1:Nat} (hM1:M1=1048577) (hMb:Hid (M<pw M1)) {mm:Nat} (hmm:(i:Int)-(p0:Int)+(b:Int)=(mm:Int)) {e:Int} {dn ok:Bool} (he:exV s k=e) (hd:exD s k=dn) (ho:exOk s k=ok) (_hm0:mm≠0) (hok:ok=false)  :
  Calls Tryz.prog 34 #[.string s] w fun e w'=>e = .returned (.tuple #[.agg #[.bool false,.slice none 0 0,.slice none 0 0],.int .i64 5])∧Below w.heap.size w w':=by
 have hai:¬ (p0:Int)<(i:Int):=by omega
 have hii:(0:Int)≤(i:Int):=by omega
 have hil:(i:Int)<(s.size:Int):=by omega
 have hby:=byt_get (s:=s) (k:=i) hil1
 have hw1:IntKind.i64.wrap ((i:Int)+1)=(i:Int)+1:=by rw [IntKind.wrap_i64];omega
 rw [hB] at hby
 have hk3:(k:Int)-(i:Int)-1=(b:Int):=by omega
 have hk4:(k:Int)-(i:Int)=(b:Int)+1:=by omega
 have hk5:(b:Int)+1-1=(b:Int):=by omega
 have hbz:b≤1048576:=by omega
 clear hkb
 obtain ⟨mi,hia⟩:∃ mi:Nat,(i:Int)-(p0:Int)=(mi:Int):=⟨i-p0,by omega⟩
 have hm2:(mi:Int)+(b:Int)=(mm:Int):=by omega
 clear hmm
 have R0:=var3_new w (.bool false) (.slice none 0 0) (.slice none 0 0) 44
 have hb0:=bel_d0 w (.cells #[.bool false,.slice none 0 0,.slice none 0 0] 44)
 have hsz:w.heap.size+1≤(w.alloc (.cells #[.bool false,.slice none 0 0,.slice none 0 0] 44)).heap.size:=by simp
 go_enter Tryz.func34,Tryz.ntmps34
 go_wp2_with fail
 generalize w.alloc (.cells #[.bool false,.slice none 0 0,.slice none 0 0] 44)=W0 at *
 refine (signY (i:=0) _ rfl hat hneg (Nat.zero_le _) hs).mono ?_
 rintro e w1 ⟨rfl,hx⟩
 replace R0:=R0.below hx
 replace hb0:=bel_tr hb0 hx
 replace hsz:=Nat.le_trans hsz (Below.size hx)
 clear hx
 go_wp2_with fail
 refine (runY _ rfl hi hN ha0 hs).mono ?_
 rintro e w2 ⟨cN,nN,kN,rfl,GN,hx⟩
 replace R0:=R0.below hx
 replace hb0:=bel_tr hb0 hx
 replace GN:=GN.mono (B':=w.heap.size+1) hsz
 replace hsz:=Nat.le_trans hsz (Below.size hx)
 clear hx
 go_wp2_with fail
 refine (runY (i:=i+1) _ (by simp) hk hD (by omega) hs).mono ?_
 rintro e w3 ⟨cD,nD,kD,rfl,GD,hx⟩
 replace R0:=R0.below hx
 replace GN:=GN.below hx
 replace hb0:=bel_tr hb0 hx
 replace GD:=GD.mono (B':=w.heap.size+1) hsz
 replace hsz:=Nat.le_trans hsz (Below.size hx)
 clear hx
 go_wp2_with fail
 refine (tensY b _ (by omega) (by omega)).mono ?_
 rintro e w4 ⟨cT,nT,kT,rfl,GT,hx⟩
 replace R0:=R0.below hx
 replace GN:=GN.below hx
 replace GD:=GD.below hx
 replace hb0:=bel_tr hb0 hx
 replace GT:=GT.mono (B':=w.heap.size+1) hsz
 replace hsz:=Nat.le_trans hsz (Below.size hx)
 clear hx
 go_wp2_with fail
 refine (rmulV _ GN.num GT.num (by decide)).mono ?_
 rintro e w5 ⟨cQ,nQ,kQ,rfl,GQ,hx⟩
 replace R0:=R0.below hx
 replace GN:=GN.below hx
 replace GD:=GD.below hx
 replace GT:=GT.below hx
 replace hb0:=bel_tr hb0 hx
 replace GQ:=GQ.mono (B':=w.heap.size+1) hsz
 replace hsz:=Nat.le_trans hsz (Below.size hx)
 clear hx
 clear GN
 clear GT
 go_wp2_with fail
 refine (raddV _ GQ.num (GD.le (by decide)).num (by decide)).mono ?_
 rintro e w6 ⟨cM,nM,kM,rfl,GM,hx⟩
 replace R0:=R0.below hx
 replace GD:=GD.below hx
 replace GQ:=GQ.below hx
 replace hb0:=bel_tr hb0 hx
 replace GM:=GM.mono (B':=w.heap.size+1) hsz
 replace hsz:=Nat.le_trans hsz (Below.size hx)
 clear hx
 replace GM:=(GM.val hM.out).shrink hMb.out
 clear GQ
 clear GD
 clear hM hMb
 subst hM1
 go_wp2_with fail
 refine (expY (i:=k) _ (by omega) he hd ho (by omega) hs).mono ?_
 rintro e w7 ⟨rfl,hx⟩
 replace R0:=R0.below hx
 replace GM:=GM.below hx
 replace hb0:=bel_tr hb0 hx
 replace hsz:=Nat.le_trans hsz (Below.size hx)
 clear hx
 have hmz:¬ (mm:Int)=0:=by omega
 have hmb:((mm:Int) == 0)=false:=by simpa using hmz
 subst hok
 clear GM
 obtain ⟨r0c0,r0c1,r0c2,r0c3,r0c4,r0c5⟩:=id R0
 obtain ⟨V,O⟩:=R0.set (.bool false) (.slice none 0 0) (.slice none 0 0)
 have hw:=hb0.trans (O.below (B:=w.heap.size) (by omega))
 clear R0 O hb0
 go_wp2
 refine bodyPost_ret (v:=.tuple #[.agg #[.bool false,.slice none 0 0,.slice none 0 0],.int .i64 5]) (by simp [results,Tryz.results34,go_sem,V.c0,V.c1,V.c2]) rfl ⟨rfl,hw⟩
set_option maxRecDepth 100000 in
set_option maxHeartbeats 4000000 in
theorem dBPn8 {s:ByteArray} {p0 i:Nat} {neg:Bool} {N:Int} (w:World) (hs:s.size≤1048576) (hat:sgJ s 0=p0) (hneg:sgN s 0=neg) (hi:runE s p0=i) (hN:rdF s p0 (i-p0)=N) (ha0:p0≤s.size) (_hi0:i≤s.size) (_hai0:p0≤i) (hai1:¬ p0<i) (hil1:i<s.size) (hB:byt s i=46) {k b:Nat} {D M:Int} (hk:runE s (i+1)=k) (hkb:k=i+1+b) (hks:k≤s.size) (hD:rdF s (i+1) (k-(i+1))=D) (hM:Hid (N*p10 b+D=M)) {M1:Nat} (hM1:M1=1048577) (hMb:Hid (M<pw M1)) {mm:Nat} (hmm:(i:Int)-(p0:Int)+(b:Int)=(mm:Int)) {e:Int} {dn ok:Bool} (he:exV s k=e) (hd:exD s k=dn) (ho:exOk s k=ok) (_hm0:mm≠0) (hok:ok=true) (hbig:9999<e)  :
  Calls Tryz.prog 34 #[.string s] w fun e w'=>e = .returned (.tuple #[.agg #[.bool false,.slice none 0 0,.slice none 0 0],.int .i64 8])∧Below w.heap.size w w':=by
 have hai:¬ (p0:Int)<(i:Int):=by omega
 have hii:(0:Int)≤(i:Int):=by omega
 have hil:(i:Int)<(s.size:Int):=by omega
 have hby:=byt_get (s:=s) (k:=i) hil1
 have hw1:IntKind.i64.wrap ((i:Int)+1)=(i:Int)+1:=by rw [IntKind.wrap_i64];omega
 rw [hB] at hby
 have hk3:(k:Int)-(i:Int)-1=(b:Int):=by omega
 have hk4:(k:Int)-(i:Int)=(b:Int)+1:=by omega
 have hk5:(b:Int)+1-1=(b:Int):=by omega
 have hbz:b≤1048576:=by omega
 clear hkb
 obtain ⟨mi,hia⟩:∃ mi:Nat,(i:Int)-(p0:Int)=(mi:Int):=⟨i-p0,by omega⟩
 have hm2:(mi:Int)+(b:Int)=(mm:Int):=by omega
 clear hmm
 have R0:=var3_new w (.bool false) (.slice none 0 0) (.slice none 0 0) 44
 have hb0:=bel_d0 w (.cells #[.bool false,.slice none 0 0,.slice none 0 0] 44)
 have hsz:w.heap.size+1≤(w.alloc (.cells #[.bool false,.slice none 0 0,.slice none 0 0] 44)).heap.size:=by simp
 go_enter Tryz.func34,Tryz.ntmps34
 go_wp2_with fail
 generalize w.alloc (.cells #[.bool false,.slice none 0 0,.slice none 0 0] 44)=W0 at *
 refine (signY (i:=0) _ rfl hat hneg (Nat.zero_le _) hs).mono ?_
 rintro e w1 ⟨rfl,hx⟩
 replace R0:=R0.below hx
 replace hb0:=bel_tr hb0 hx
 replace hsz:=Nat.le_trans hsz (Below.size hx)
 clear hx
 go_wp2_with fail
 refine (runY _ rfl hi hN ha0 hs).mono ?_
 rintro e w2 ⟨cN,nN,kN,rfl,GN,hx⟩
 replace R0:=R0.below hx
 replace hb0:=bel_tr hb0 hx
 replace GN:=GN.mono (B':=w.heap.size+1) hsz
 replace hsz:=Nat.le_trans hsz (Below.size hx)
 clear hx
 go_wp2_with fail
 refine (runY (i:=i+1) _ (by simp) hk hD (by omega) hs).mono ?_
 rintro e w3 ⟨cD,nD,kD,rfl,GD,hx⟩
 replace R0:=R0.below hx
 replace GN:=GN.below hx
 replace hb0:=bel_tr hb0 hx
 replace GD:=GD.mono (B':=w.heap.size+1) hsz
 replace hsz:=Nat.le_trans hsz (Below.size hx)
 clear hx
 go_wp2_with fail
 refine (tensY b _ (by omega) (by omega)).mono ?_
 rintro e w4 ⟨cT,nT,kT,rfl,GT,hx⟩
 replace R0:=R0.below hx
 replace GN:=GN.below hx
 replace GD:=GD.below hx
 replace hb0:=bel_tr hb0 hx
 replace GT:=GT.mono (B':=w.heap.size+1) hsz
 replace hsz:=Nat.le_trans hsz (Below.size hx)
 clear hx
 go_wp2_with fail
 refine (rmulV _ GN.num GT.num (by decide)).mono ?_
 rintro e w5 ⟨cQ,nQ,kQ,rfl,GQ,hx⟩
 replace R0:=R0.below hx
 replace GN:=GN.below hx
 replace GD:=GD.below hx
 replace GT:=GT.below hx
 replace hb0:=bel_tr hb0 hx
 replace GQ:=GQ.mono (B':=w.heap.size+1) hsz
 replace hsz:=Nat.le_trans hsz (Below.size hx)
 clear hx
 clear GN
 clear GT
 go_wp2_with fail
 refine (raddV _ GQ.num (GD.le (by decide)).num (by decide)).mono ?_
 rintro e w6 ⟨cM,nM,kM,rfl,GM,hx⟩
 replace R0:=R0.below hx
 replace GD:=GD.below hx
 replace GQ:=GQ.below hx
 replace hb0:=bel_tr hb0 hx
 replace GM:=GM.mono (B':=w.heap.size+1) hsz
 replace hsz:=Nat.le_trans hsz (Below.size hx)
 clear hx
 replace GM:=(GM.val hM.out).shrink hMb.out
 clear GQ
 clear GD
 clear hM hMb
 subst hM1
 go_wp2_with fail
 refine (expY (i:=k) _ (by omega) he hd ho (by omega) hs).mono ?_
 rintro e w7 ⟨rfl,hx⟩
 replace R0:=R0.below hx
 replace GM:=GM.below hx
 replace hb0:=bel_tr hb0 hx
 replace hsz:=Nat.le_trans hsz (Below.size hx)
 clear hx
 have hmz:¬ (mm:Int)=0:=by omega
 have hmb:((mm:Int) == 0)=false:=by simpa using hmz
 subst hok
 clear GM
 obtain ⟨r0c0,r0c1,r0c2,r0c3,r0c4,r0c5⟩:=id R0
 obtain ⟨V,O⟩:=R0.set (.bool false) (.slice none 0 0) (.slice none 0 0)
 have hw:=hb0.trans (O.below (B:=w.heap.size) (by omega))
 clear R0 O hb0
 go_wp2
 refine bodyPost_ret (v:=.tuple #[.agg #[.bool false,.slice none 0 0,.slice none 0 0],.int .i64 8]) (by simp [results,Tryz.results34,go_sem,V.c0,V.c1,V.c2]) rfl ⟨rfl,hw⟩
set_option maxRecDepth 100000 in
set_option maxHeartbeats 4000000 in
theorem dBPn0u {s:ByteArray} {p0 i:Nat} {neg:Bool} {N:Int} (w:World) (hs:s.size≤1048576) (hat:sgJ s 0=p0) (hneg:sgN s 0=neg) (hi:runE s p0=i) (hN:rdF s p0 (i-p0)=N) (ha0:p0≤s.size) (_hi0:i≤s.size) (_hai0:p0≤i) (hai1:¬ p0<i) (hil1:i<s.size) (hB:byt s i=46) {k b:Nat} {D M:Int} (hk:runE s (i+1)=k) (hkb:k=i+1+b) (hks:k≤s.size) (hD:rdF s (i+1) (k-(i+1))=D) (hM:Hid (N*p10 b+D=M)) {M1:Nat} (hM1:M1=1048577) (hMb:Hid (M<pw M1)) {mm:Nat} (hmm:(i:Int)-(p0:Int)+(b:Int)=(mm:Int)) {e:Int} {dn ok:Bool} (he:exV s k=e) (hd:exD s k=dn) (ho:exOk s k=ok) (_hm0:mm≠0) (hok:ok=true) {en:Nat} (hen:e=en) (hbig:en≤9999) (hdn:dn=false)  :
  Calls Tryz.prog 34 #[.string s] w fun e w'=>∃ f c n k c' n' k',e = .returned (.tuple #[.agg #[.bool f,.slice c n k,.slice c' n' k'],.int .i64 0])∧GR w' w.heap.size f c n k c' n' k' (Rat.divInt (ws neg (M*p10 en)) (p10 b)) 4194309∧Below w.heap.size w w':=by
 have hai:¬ (p0:Int)<(i:Int):=by omega
 have hii:(0:Int)≤(i:Int):=by omega
 have hil:(i:Int)<(s.size:Int):=by omega
 have hby:=byt_get (s:=s) (k:=i) hil1
 have hw1:IntKind.i64.wrap ((i:Int)+1)=(i:Int)+1:=by rw [IntKind.wrap_i64];omega
 rw [hB] at hby
 have hk3:(k:Int)-(i:Int)-1=(b:Int):=by omega
 have hk4:(k:Int)-(i:Int)=(b:Int)+1:=by omega
 have hk5:(b:Int)+1-1=(b:Int):=by omega
 have hbz:b≤1048576:=by omega
 clear hkb
 obtain ⟨mi,hia⟩:∃ mi:Nat,(i:Int)-(p0:Int)=(mi:Int):=⟨i-p0,by omega⟩
 have hm2:(mi:Int)+(b:Int)=(mm:Int):=by omega
 clear hmm
 have R0:=var3_new w (.bool false) (.slice none 0 0) (.slice none 0 0) 44
 have hb0:=bel_d0 w (.cells #[.bool false,.slice none 0 0,.slice none 0 0] 44)
 have hsz:w.heap.size+1≤(w.alloc (.cells #[.bool false,.slice none 0 0,.slice none 0 0] 44)).heap.size:=by simp
 go_enter Tryz.func34,Tryz.ntmps34
 go_wp2_with fail
 generalize w.alloc (.cells #[.bool false,.slice none 0 0,.slice none 0 0] 44)=W0 at *
 refine (signY (i:=0) _ rfl hat hneg (Nat.zero_le _) hs).mono ?_
 rintro e w1 ⟨rfl,hx⟩
 replace R0:=R0.below hx
 replace hb0:=bel_tr hb0 hx
 replace hsz:=Nat.le_trans hsz (Below.size hx)
 clear hx
 go_wp2_with fail
 refine (runY _ rfl hi hN ha0 hs).mono ?_
 rintro e w2 ⟨cN,nN,kN,rfl,GN,hx⟩
 replace R0:=R0.below hx
 replace hb0:=bel_tr hb0 hx
 replace GN:=GN.mono (B':=w.heap.size+1) hsz
 replace hsz:=Nat.le_trans hsz (Below.size hx)
 clear hx
 go_wp2_with fail
 refine (runY (i:=i+1) _ (by simp) hk hD (by omega) hs).mono ?_
 rintro e w3 ⟨cD,nD,kD,rfl,GD,hx⟩
 replace R0:=R0.below hx
 replace GN:=GN.below hx
 replace hb0:=bel_tr hb0 hx
 replace GD:=GD.mono (B':=w.heap.size+1) hsz
 replace hsz:=Nat.le_trans hsz (Below.size hx)
 clear hx
 go_wp2_with fail
 refine (tensY b _ (by omega) (by omega)).mono ?_
 rintro e w4 ⟨cT,nT,kT,rfl,GT,hx⟩
 replace R0:=R0.below hx
 replace GN:=GN.below hx
 replace GD:=GD.below hx
 replace hb0:=bel_tr hb0 hx
 replace GT:=GT.mono (B':=w.heap.size+1) hsz
 replace hsz:=Nat.le_trans hsz (Below.size hx)
 clear hx
 go_wp2_with fail
 refine (rmulV _ GN.num GT.num (by decide)).mono ?_
 rintro e w5 ⟨cQ,nQ,kQ,rfl,GQ,hx⟩
 replace R0:=R0.below hx
 replace GN:=GN.below hx
 replace GD:=GD.below hx
 replace GT:=GT.below hx
 replace hb0:=bel_tr hb0 hx
 replace GQ:=GQ.mono (B':=w.heap.size+1) hsz
 replace hsz:=Nat.le_trans hsz (Below.size hx)
 clear hx
 clear GN
 clear GT
 go_wp2_with fail
 refine (raddV _ GQ.num (GD.le (by decide)).num (by decide)).mono ?_
 rintro e w6 ⟨cM,nM,kM,rfl,GM,hx⟩
 replace R0:=R0.below hx
 replace GD:=GD.below hx
 replace GQ:=GQ.below hx
 replace hb0:=bel_tr hb0 hx
 replace GM:=GM.mono (B':=w.heap.size+1) hsz
 replace hsz:=Nat.le_trans hsz (Below.size hx)
 clear hx
 replace GM:=(GM.val hM.out).shrink hMb.out
 clear GQ
 clear GD
 clear hM hMb
 subst hM1
 go_wp2_with fail
 refine (expY (i:=k) _ (by omega) he hd ho (by omega) hs).mono ?_
 rintro e w7 ⟨rfl,hx⟩
 replace R0:=R0.below hx
 replace GM:=GM.below hx
 replace hb0:=bel_tr hb0 hx
 replace hsz:=Nat.le_trans hsz (Below.size hx)
 clear hx
 have hmz:¬ (mm:Int)=0:=by omega
 have hmb:((mm:Int) == 0)=false:=by simpa using hmz
 subst hok
 subst hen
 have hnb:¬ (9999:Int)<(en:Int):=by omega
 go_wp2_with fail
 refine (tensY b _ (by first|rfl|omega|simp) (by omega)).mono ?_
 rintro e w8 ⟨cA,nA,kA,rfl,GA,hx⟩
 replace R0:=R0.below hx
 replace GM:=GM.below hx
 replace hb0:=bel_tr hb0 hx
 replace GA:=GA.mono (B':=w.heap.size+1) hsz
 replace hsz:=Nat.le_trans hsz (Below.size hx)
 clear hx
 go_wp2_with fail
 refine (tensY en _ rfl (by omega)).mono ?_
 rintro e w9 ⟨cE,nE,kE,rfl,GE,hx⟩
 replace R0:=R0.below hx
 replace GM:=GM.below hx
 replace GA:=GA.below hx
 replace hb0:=bel_tr hb0 hx
 replace GE:=GE.mono (B':=w.heap.size+1) hsz
 replace hsz:=Nat.le_trans hsz (Below.size hx)
 clear hx
 subst hdn
 go_wp2_with fail
 refine (rmulV _ GM.num GE.num (by decide)).mono ?_
 rintro e w10 ⟨cX,nX,kX,rfl,GX,hx⟩
 replace R0:=R0.below hx
 replace GM:=GM.below hx
 replace GA:=GA.below hx
 replace GE:=GE.below hx
 replace hb0:=bel_tr hb0 hx
 replace GX:=GX.mono (B':=w.heap.size+1) hsz
 replace hsz:=Nat.le_trans hsz (Below.size hx)
 clear hx
 go_wp2_with fail
 refine (normD _ (Got.frac (neg:=neg) GX (GA.le (by decide))) (by decide) (by decide)).mono ?_
 rintro e w11 ⟨f5,c5,n5,k5,d5,m5,l5,rfl,G5,hx⟩
 replace R0:=R0.below hx
 replace GM:=GM.below hx
 replace GA:=GA.below hx
 replace GE:=GE.below hx
 replace GX:=GX.below hx
 replace hb0:=bel_tr hb0 hx
 replace G5:=G5.mono (B':=w.heap.size+1) hsz
 replace hsz:=Nat.le_trans hsz (Below.size hx)
 clear hx
 clear GM
 clear GA
 clear GE
 clear GX
 obtain ⟨r0c0,r0c1,r0c2,r0c3,r0c4,r0c5⟩:=id R0
 obtain ⟨V,OO⟩:=R0.set (.bool f5) (.slice c5 n5 k5) (.slice d5 m5 l5)
 have hw:=hb0.trans (OO.below (B:=w.heap.size) (by omega))
 have GF:=G5.off OO (by omega)
 clear G5 R0 OO hb0
 go_wp2
 refine bodyPost_ret (v:=.tuple #[.agg #[.bool f5,.slice c5 n5 k5,.slice d5 m5 l5],.int .i64 0]) (by simp [results,Tryz.results34,go_sem,V.c0,V.c1,V.c2]) rfl ⟨_,_,_,_,_,_,_,rfl,GF.mono (B':=w.heap.size) (by omega),hw⟩
set_option maxRecDepth 100000 in
set_option maxHeartbeats 4000000 in
theorem dBPn0d {s:ByteArray} {p0 i:Nat} {neg:Bool} {N:Int} (w:World) (hs:s.size≤1048576) (hat:sgJ s 0=p0) (hneg:sgN s 0=neg) (hi:runE s p0=i) (hN:rdF s p0 (i-p0)=N) (ha0:p0≤s.size) (_hi0:i≤s.size) (_hai0:p0≤i) (hai1:¬ p0<i) (hil1:i<s.size) (hB:byt s i=46) {k b:Nat} {D M:Int} (hk:runE s (i+1)=k) (hkb:k=i+1+b) (hks:k≤s.size) (hD:rdF s (i+1) (k-(i+1))=D) (hM:Hid (N*p10 b+D=M)) {M1:Nat} (hM1:M1=1048577) (hMb:Hid (M<pw M1)) {mm:Nat} (hmm:(i:Int)-(p0:Int)+(b:Int)=(mm:Int)) {e:Int} {dn ok:Bool} (he:exV s k=e) (hd:exD s k=dn) (ho:exOk s k=ok) (_hm0:mm≠0) (hok:ok=true) {en:Nat} (hen:e=en) (hbig:en≤9999) (hdn:dn=true)  :
  Calls Tryz.prog 34 #[.string s] w fun e w'=>∃ f c n k c' n' k',e = .returned (.tuple #[.agg #[.bool f,.slice c n k,.slice c' n' k'],.int .i64 0])∧GR w' w.heap.size f c n k c' n' k' (Rat.divInt (ws neg M) (p10 b*p10 en)) 4194309∧Below w.heap.size w w':=by
 have hai:¬ (p0:Int)<(i:Int):=by omega
 have hii:(0:Int)≤(i:Int):=by omega
 have hil:(i:Int)<(s.size:Int):=by omega
 have hby:=byt_get (s:=s) (k:=i) hil1
 have hw1:IntKind.i64.wrap ((i:Int)+1)=(i:Int)+1:=by rw [IntKind.wrap_i64];omega
 rw [hB] at hby
 have hk3:(k:Int)-(i:Int)-1=(b:Int):=by omega
 have hk4:(k:Int)-(i:Int)=(b:Int)+1:=by omega
 have hk5:(b:Int)+1-1=(b:Int):=by omega
 have hbz:b≤1048576:=by omega
 clear hkb
 obtain ⟨mi,hia⟩:∃ mi:Nat,(i:Int)-(p0:Int)=(mi:Int):=⟨i-p0,by omega⟩
 have hm2:(mi:Int)+(b:Int)=(mm:Int):=by omega
 clear hmm
 have R0:=var3_new w (.bool false) (.slice none 0 0) (.slice none 0 0) 44
 have hb0:=bel_d0 w (.cells #[.bool false,.slice none 0 0,.slice none 0 0] 44)
 have hsz:w.heap.size+1≤(w.alloc (.cells #[.bool false,.slice none 0 0,.slice none 0 0] 44)).heap.size:=by simp
 go_enter Tryz.func34,Tryz.ntmps34
 go_wp2_with fail
 generalize w.alloc (.cells #[.bool false,.slice none 0 0,.slice none 0 0] 44)=W0 at *
 refine (signY (i:=0) _ rfl hat hneg (Nat.zero_le _) hs).mono ?_
 rintro e w1 ⟨rfl,hx⟩
 replace R0:=R0.below hx
 replace hb0:=bel_tr hb0 hx
 replace hsz:=Nat.le_trans hsz (Below.size hx)
 clear hx
 go_wp2_with fail
 refine (runY _ rfl hi hN ha0 hs).mono ?_
 rintro e w2 ⟨cN,nN,kN,rfl,GN,hx⟩
 replace R0:=R0.below hx
 replace hb0:=bel_tr hb0 hx
 replace GN:=GN.mono (B':=w.heap.size+1) hsz
 replace hsz:=Nat.le_trans hsz (Below.size hx)
 clear hx
 go_wp2_with fail
 refine (runY (i:=i+1) _ (by simp) hk hD (by omega) hs).mono ?_
 rintro e w3 ⟨cD,nD,kD,rfl,GD,hx⟩
 replace R0:=R0.below hx
 replace GN:=GN.below hx
 replace hb0:=bel_tr hb0 hx
 replace GD:=GD.mono (B':=w.heap.size+1) hsz
 replace hsz:=Nat.le_trans hsz (Below.size hx)
 clear hx
 go_wp2_with fail
 refine (tensY b _ (by omega) (by omega)).mono ?_
 rintro e w4 ⟨cT,nT,kT,rfl,GT,hx⟩
 replace R0:=R0.below hx
 replace GN:=GN.below hx
 replace GD:=GD.below hx
 replace hb0:=bel_tr hb0 hx
 replace GT:=GT.mono (B':=w.heap.size+1) hsz
 replace hsz:=Nat.le_trans hsz (Below.size hx)
 clear hx
 go_wp2_with fail
 refine (rmulV _ GN.num GT.num (by decide)).mono ?_
 rintro e w5 ⟨cQ,nQ,kQ,rfl,GQ,hx⟩
 replace R0:=R0.below hx
 replace GN:=GN.below hx
 replace GD:=GD.below hx
 replace GT:=GT.below hx
 replace hb0:=bel_tr hb0 hx
 replace GQ:=GQ.mono (B':=w.heap.size+1) hsz
 replace hsz:=Nat.le_trans hsz (Below.size hx)
 clear hx
 clear GN
 clear GT
 go_wp2_with fail
 refine (raddV _ GQ.num (GD.le (by decide)).num (by decide)).mono ?_
 rintro e w6 ⟨cM,nM,kM,rfl,GM,hx⟩
 replace R0:=R0.below hx
 replace GD:=GD.below hx
 replace GQ:=GQ.below hx
 replace hb0:=bel_tr hb0 hx
 replace GM:=GM.mono (B':=w.heap.size+1) hsz
 replace hsz:=Nat.le_trans hsz (Below.size hx)
 clear hx
 replace GM:=(GM.val hM.out).shrink hMb.out
 clear GQ
 clear GD
 clear hM hMb
 subst hM1
 go_wp2_with fail
 refine (expY (i:=k) _ (by omega) he hd ho (by omega) hs).mono ?_
 rintro e w7 ⟨rfl,hx⟩
 replace R0:=R0.below hx
 replace GM:=GM.below hx
 replace hb0:=bel_tr hb0 hx
 replace hsz:=Nat.le_trans hsz (Below.size hx)
 clear hx
 have hmz:¬ (mm:Int)=0:=by omega
 have hmb:((mm:Int) == 0)=false:=by simpa using hmz
 subst hok
 subst hen
 have hnb:¬ (9999:Int)<(en:Int):=by omega
 go_wp2_with fail
 refine (tensY b _ (by first|rfl|omega|simp) (by omega)).mono ?_
 rintro e w8 ⟨cA,nA,kA,rfl,GA,hx⟩
 replace R0:=R0.below hx
 replace GM:=GM.below hx
 replace hb0:=bel_tr hb0 hx
 replace GA:=GA.mono (B':=w.heap.size+1) hsz
 replace hsz:=Nat.le_trans hsz (Below.size hx)
 clear hx
 go_wp2_with fail
 refine (tensY en _ rfl (by omega)).mono ?_
 rintro e w9 ⟨cE,nE,kE,rfl,GE,hx⟩
 replace R0:=R0.below hx
 replace GM:=GM.below hx
 replace GA:=GA.below hx
 replace hb0:=bel_tr hb0 hx
 replace GE:=GE.mono (B':=w.heap.size+1) hsz
 replace hsz:=Nat.le_trans hsz (Below.size hx)
 clear hx
 subst hdn
 go_wp2_with fail
 refine (rmulV _ GA.num GE.num (by decide)).mono ?_
 rintro e w10 ⟨cX,nX,kX,rfl,GX,hx⟩
 replace R0:=R0.below hx
 replace GM:=GM.below hx
 replace GA:=GA.below hx
 replace GE:=GE.below hx
 replace hb0:=bel_tr hb0 hx
 replace GX:=GX.mono (B':=w.heap.size+1) hsz
 replace hsz:=Nat.le_trans hsz (Below.size hx)
 clear hx
 go_wp2_with fail
 refine (normD _ (Got.frac (neg:=neg) (GM.le (by decide)) GX) (by decide) (by decide)).mono ?_
 rintro e w11 ⟨f5,c5,n5,k5,d5,m5,l5,rfl,G5,hx⟩
 replace R0:=R0.below hx
 replace GM:=GM.below hx
 replace GA:=GA.below hx
 replace GE:=GE.below hx
 replace GX:=GX.below hx
 replace hb0:=bel_tr hb0 hx
 replace G5:=G5.mono (B':=w.heap.size+1) hsz
 replace hsz:=Nat.le_trans hsz (Below.size hx)
 clear hx
 clear GM
 clear GA
 clear GE
 clear GX
 obtain ⟨r0c0,r0c1,r0c2,r0c3,r0c4,r0c5⟩:=id R0
 obtain ⟨V,OO⟩:=R0.set (.bool f5) (.slice c5 n5 k5) (.slice d5 m5 l5)
 have hw:=hb0.trans (OO.below (B:=w.heap.size) (by omega))
 have GF:=G5.off OO (by omega)
 clear G5 R0 OO hb0
 go_wp2
 refine bodyPost_ret (v:=.tuple #[.agg #[.bool f5,.slice c5 n5 k5,.slice d5 m5 l5],.int .i64 0]) (by simp [results,Tryz.results34,go_sem,V.c0,V.c1,V.c2]) rfl ⟨_,_,_,_,_,_,_,rfl,GF.mono (B':=w.heap.size) (by omega),hw⟩
end Go.Proofs.YtgdilnljjgdinaaGreatDoor
