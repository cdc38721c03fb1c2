import Derived.Test.YtgdilnljjgdinaaGreatDoorR5EAll
namespace Go.Proofs.YtgdilnljjgdinaaGreatDoor
open Go.RowKit Go.Shelf
set_option maxRecDepth 100000 in
set_option maxHeartbeats 4000000 in
theorem dBEa5b {s:ByteArray} {p0 i:Nat} {neg:Bool} {N:Int} (w:World) (hs:s.size≤1048576) (hat:sgJ s 0=p0) (hneg:sgN s 0=neg) (hi:runE s p0=i) (hN:rdF s p0 (i-p0)=N) (ha0:p0≤s.size) (_hi0:i≤s.size) (_hai0:p0≤i) (hai1:p0<i) (hil1:¬ i<s.size) {mm:Nat} (hmm:(i:Int)-(p0:Int)=(mm:Int)) {e:Int} {dn ok:Bool} (he:exV s i=e) (hd:exD s i=dn) (ho:exOk s i=ok) (_hm0:mm≠0) (hok:ok=false)  :
  Calls Tryz.prog 34 #[.string s] w fun e w'=>e = .returned (.tuple #[.agg #[.bool false,.slice none 0 0,.slice none 0 0],.int .i64 5])∧Below w.heap.size w w':=by
 have hai:(p0:Int)<(i:Int):=by omega
 have hii:(0:Int)≤(i:Int):=by omega
 have hil:¬ (i:Int)<(s.size:Int):=by omega
 have R0:=var3_new w (.bool false) (.slice none 0 0) (.slice none 0 0) 44
 have hb0:=bel_d0 w (.cells #[.bool false,.slice none 0 0,.slice none 0 0] 44)
 have hsz:w.heap.size+1≤(w.alloc (.cells #[.bool false,.slice none 0 0,.slice none 0 0] 44)).heap.size:=by simp
 go_enter Tryz.func34,Tryz.ntmps34
 go_wp2_with fail
 generalize w.alloc (.cells #[.bool false,.slice none 0 0,.slice none 0 0] 44)=W0 at *
 refine (signY (i:=0) _ rfl hat hneg (Nat.zero_le _) hs).mono ?_
 rintro e w1 ⟨rfl,hx⟩
 replace R0:=R0.below hx
 replace hb0:=bel_tr hb0 hx
 replace hsz:=Nat.le_trans hsz (Below.size hx)
 clear hx
 go_wp2_with fail
 refine (runY _ rfl hi hN ha0 hs).mono ?_
 rintro e w2 ⟨cN,nN,kN,rfl,GN,hx⟩
 replace R0:=R0.below hx
 replace hb0:=bel_tr hb0 hx
 replace GN:=GN.mono (B':=w.heap.size+1) hsz
 replace hsz:=Nat.le_trans hsz (Below.size hx)
 clear hx
 go_wp2_with fail
 refine (expY (i:=i) _ (by omega) he hd ho (by omega) hs).mono ?_
 rintro e w3 ⟨rfl,hx⟩
 replace R0:=R0.below hx
 replace GN:=GN.below hx
 replace hb0:=bel_tr hb0 hx
 replace hsz:=Nat.le_trans hsz (Below.size hx)
 clear hx
 have hmz:¬ (mm:Int)=0:=by omega
 have hmb:((mm:Int) == 0)=false:=by simpa using hmz
 subst hok
 clear GN
 obtain ⟨r0c0,r0c1,r0c2,r0c3,r0c4,r0c5⟩:=id R0
 obtain ⟨V,O⟩:=R0.set (.bool false) (.slice none 0 0) (.slice none 0 0)
 have hw:=hb0.trans (O.below (B:=w.heap.size) (by omega))
 clear R0 O hb0
 go_wp2
 refine bodyPost_ret (v:=.tuple #[.agg #[.bool false,.slice none 0 0,.slice none 0 0],.int .i64 5]) (by simp [results,Tryz.results34,go_sem,V.c0,V.c1,V.c2]) rfl ⟨rfl,hw⟩
set_option maxRecDepth 100000 in
set_option maxHeartbeats 4000000 in
theorem dBEa8 {s:ByteArray} {p0 i:Nat} {neg:Bool} {N:Int} (w:World) (hs:s.size≤1048576) (hat:sgJ s 0=p0) (hneg:sgN s 0=neg) (hi:runE s p0=i) (hN:rdF s p0 (i-p0)=N) (ha0:p0≤s.size) (_hi0:i≤s.size) (_hai0:p0≤i) (hai1:p0<i) (hil1:¬ i<s.size) {mm:Nat} (hmm:(i:Int)-(p0:Int)=(mm:Int)) {e:Int} {dn ok:Bool} (he:exV s i=e) (hd:exD s i=dn) (ho:exOk s i=ok) (_hm0:mm≠0) (hok:ok=true) (hbig:9999<e)  :
  Calls Tryz.prog 34 #[.string s] w fun e w'=>e = .returned (.tuple #[.agg #[.bool false,.slice none 0 0,.slice none 0 0],.int .i64 8])∧Below w.heap.size w w':=by
 have hai:(p0:Int)<(i:Int):=by omega
 have hii:(0:Int)≤(i:Int):=by omega
 have hil:¬ (i:Int)<(s.size:Int):=by omega
 have R0:=var3_new w (.bool false) (.slice none 0 0) (.slice none 0 0) 44
 have hb0:=bel_d0 w (.cells #[.bool false,.slice none 0 0,.slice none 0 0] 44)
 have hsz:w.heap.size+1≤(w.alloc (.cells #[.bool false,.slice none 0 0,.slice none 0 0] 44)).heap.size:=by simp
 go_enter Tryz.func34,Tryz.ntmps34
 go_wp2_with fail
 generalize w.alloc (.cells #[.bool false,.slice none 0 0,.slice none 0 0] 44)=W0 at *
 refine (signY (i:=0) _ rfl hat hneg (Nat.zero_le _) hs).mono ?_
 rintro e w1 ⟨rfl,hx⟩
 replace R0:=R0.below hx
 replace hb0:=bel_tr hb0 hx
 replace hsz:=Nat.le_trans hsz (Below.size hx)
 clear hx
 go_wp2_with fail
 refine (runY _ rfl hi hN ha0 hs).mono ?_
 rintro e w2 ⟨cN,nN,kN,rfl,GN,hx⟩
 replace R0:=R0.below hx
 replace hb0:=bel_tr hb0 hx
 replace GN:=GN.mono (B':=w.heap.size+1) hsz
 replace hsz:=Nat.le_trans hsz (Below.size hx)
 clear hx
 go_wp2_with fail
 refine (expY (i:=i) _ (by omega) he hd ho (by omega) hs).mono ?_
 rintro e w3 ⟨rfl,hx⟩
 replace R0:=R0.below hx
 replace GN:=GN.below hx
 replace hb0:=bel_tr hb0 hx
 replace hsz:=Nat.le_trans hsz (Below.size hx)
 clear hx
 have hmz:¬ (mm:Int)=0:=by omega
 have hmb:((mm:Int) == 0)=false:=by simpa using hmz
 subst hok
 clear GN
 obtain ⟨r0c0,r0c1,r0c2,r0c3,r0c4,r0c5⟩:=id R0
 obtain ⟨V,O⟩:=R0.set (.bool false) (.slice none 0 0) (.slice none 0 0)
 have hw:=hb0.trans (O.below (B:=w.heap.size) (by omega))
 clear R0 O hb0
 go_wp2
 refine bodyPost_ret (v:=.tuple #[.agg #[.bool false,.slice none 0 0,.slice none 0 0],.int .i64 8]) (by simp [results,Tryz.results34,go_sem,V.c0,V.c1,V.c2]) rfl ⟨rfl,hw⟩
set_option maxRecDepth 100000 in
set_option maxHeartbeats 4000000 in
theorem dBEa0u {s:ByteArray} {p0 i:Nat} {neg:Bool} {N:Int} (w:World) (hs:s.size≤1048576) (hat:sgJ s 0=p0) (hneg:sgN s 0=neg) (hi:runE s p0=i) (hN:rdF s p0 (i-p0)=N) (ha0:p0≤s.size) (_hi0:i≤s.size) (_hai0:p0≤i) (hai1:p0<i) (hil1:¬ i<s.size) {mm:Nat} (hmm:(i:Int)-(p0:Int)=(mm:Int)) {e:Int} {dn ok:Bool} (he:exV s i=e) (hd:exD s i=dn) (ho:exOk s i=ok) (_hm0:mm≠0) (hok:ok=true) {en:Nat} (hen:e=en) (hbig:en≤9999) (hdn:dn=false)  :
  Calls Tryz.prog 34 #[.string s] w fun e w'=>∃ f c n k c' n' k',e = .returned (.tuple #[.agg #[.bool f,.slice c n k,.slice c' n' k'],.int .i64 0])∧GR w' w.heap.size f c n k c' n' k' (Rat.divInt (ws neg (N*p10 en)) (p10 0)) 4194309∧Below w.heap.size w w':=by
 have hai:(p0:Int)<(i:Int):=by omega
 have hii:(0:Int)≤(i:Int):=by omega
 have hil:¬ (i:Int)<(s.size:Int):=by omega
 have R0:=var3_new w (.bool false) (.slice none 0 0) (.slice none 0 0) 44
 have hb0:=bel_d0 w (.cells #[.bool false,.slice none 0 0,.slice none 0 0] 44)
 have hsz:w.heap.size+1≤(w.alloc (.cells #[.bool false,.slice none 0 0,.slice none 0 0] 44)).heap.size:=by simp
 go_enter Tryz.func34,Tryz.ntmps34
 go_wp2_with fail
 generalize w.alloc (.cells #[.bool false,.slice none 0 0,.slice none 0 0] 44)=W0 at *
 refine (signY (i:=0) _ rfl hat hneg (Nat.zero_le _) hs).mono ?_
 rintro e w1 ⟨rfl,hx⟩
 replace R0:=R0.below hx
 replace hb0:=bel_tr hb0 hx
 replace hsz:=Nat.le_trans hsz (Below.size hx)
 clear hx
 go_wp2_with fail
 refine (runY _ rfl hi hN ha0 hs).mono ?_
 rintro e w2 ⟨cN,nN,kN,rfl,GN,hx⟩
 replace R0:=R0.below hx
 replace hb0:=bel_tr hb0 hx
 replace GN:=GN.mono (B':=w.heap.size+1) hsz
 replace hsz:=Nat.le_trans hsz (Below.size hx)
 clear hx
 go_wp2_with fail
 refine (expY (i:=i) _ (by omega) he hd ho (by omega) hs).mono ?_
 rintro e w3 ⟨rfl,hx⟩
 replace R0:=R0.below hx
 replace GN:=GN.below hx
 replace hb0:=bel_tr hb0 hx
 replace hsz:=Nat.le_trans hsz (Below.size hx)
 clear hx
 have hmz:¬ (mm:Int)=0:=by omega
 have hmb:((mm:Int) == 0)=false:=by simpa using hmz
 subst hok
 subst hen
 have hnb:¬ (9999:Int)<(en:Int):=by omega
 go_wp2_with fail
 refine (tensY 0 _ (by first|rfl|omega|simp) (by omega)).mono ?_
 rintro e w4 ⟨cA,nA,kA,rfl,GA,hx⟩
 replace R0:=R0.below hx
 replace GN:=GN.below hx
 replace hb0:=bel_tr hb0 hx
 replace GA:=GA.mono (B':=w.heap.size+1) hsz
 replace hsz:=Nat.le_trans hsz (Below.size hx)
 clear hx
 go_wp2_with fail
 refine (tensY en _ rfl (by omega)).mono ?_
 rintro e w5 ⟨cE,nE,kE,rfl,GE,hx⟩
 replace R0:=R0.below hx
 replace GN:=GN.below hx
 replace GA:=GA.below hx
 replace hb0:=bel_tr hb0 hx
 replace GE:=GE.mono (B':=w.heap.size+1) hsz
 replace hsz:=Nat.le_trans hsz (Below.size hx)
 clear hx
 subst hdn
 go_wp2_with fail
 refine (rmulV _ GN.num GE.num (by decide)).mono ?_
 rintro e w6 ⟨cX,nX,kX,rfl,GX,hx⟩
 replace R0:=R0.below hx
 replace GN:=GN.below hx
 replace GA:=GA.below hx
 replace GE:=GE.below hx
 replace hb0:=bel_tr hb0 hx
 replace GX:=GX.mono (B':=w.heap.size+1) hsz
 replace hsz:=Nat.le_trans hsz (Below.size hx)
 clear hx
 go_wp2_with fail
 refine (normD _ (Got.frac (neg:=neg) GX (GA.le (by decide))) (by decide) (by decide)).mono ?_
 rintro e w7 ⟨f5,c5,n5,k5,d5,m5,l5,rfl,G5,hx⟩
 replace R0:=R0.below hx
 replace GN:=GN.below hx
 replace GA:=GA.below hx
 replace GE:=GE.below hx
 replace GX:=GX.below hx
 replace hb0:=bel_tr hb0 hx
 replace G5:=G5.mono (B':=w.heap.size+1) hsz
 replace hsz:=Nat.le_trans hsz (Below.size hx)
 clear hx
 clear GN
 clear GA
 clear GE
 clear GX
 obtain ⟨r0c0,r0c1,r0c2,r0c3,r0c4,r0c5⟩:=id R0
 obtain ⟨V,OO⟩:=R0.set (.bool f5) (.slice c5 n5 k5) (.slice d5 m5 l5)
 have hw:=hb0.trans (OO.below (B:=w.heap.size) (by omega))
 have GF:=G5.off OO (by omega)
 clear G5 R0 OO hb0
 go_wp2
 refine bodyPost_ret (v:=.tuple #[.agg #[.bool f5,.slice c5 n5 k5,.slice d5 m5 l5],.int .i64 0]) (by simp [results,Tryz.results34,go_sem,V.c0,V.c1,V.c2]) rfl ⟨_,_,_,_,_,_,_,rfl,GF.mono (B':=w.heap.size) (by omega),hw⟩
set_option maxRecDepth 100000 in
set_option maxHeartbeats 4000000 in
theorem dBEa0d {s:ByteArray} {p0 i:Nat} {neg:Bool} {N:Int} (w:World) (hs:s.size≤1048576) (hat:sgJ s 0=p0) (hneg:sgN s 0=neg) (hi:runE s p0=i) (hN:rdF s p0 (i-p0)=N) (ha0:p0≤s.size) (_hi0:i≤s.size) (_hai0:p0≤i) (hai1:p0<i) (hil1:¬ i<s.size) {mm:Nat} (hmm:(i:Int)-(p0:Int)=(mm:Int)) {e:Int} {dn ok:Bool} (he:exV s i=e) (hd:exD s i=dn) (ho:exOk s i=ok) (_hm0:mm≠0) (hok:ok=true) {en:Nat} (hen:e=en) (hbig:en≤9999) (hdn:dn=true)  :
  Calls Tryz.prog 34 #[.string s] w fun e w'=>∃ f c n k c' n' k',e = .returned (.tuple #[.agg #[.bool f,.slice c n k,.slice c' n' k'],.int .i64 0])∧GR w' w.heap.size f c n k c' n' k' (Rat.divInt (ws neg N) (p10 0*p10 en)) 4194309∧Below w.heap.size w w':=by
 have hai:(p0:Int)<(i:Int):=by omega
 have hii:(0:Int)≤(i:Int):=by omega
 have hil:¬ (i:Int)<(s.size:Int):=by omega
 have R0:=var3_new w (.bool false) (.slice none 0 0) (.slice none 0 0) 44
 have hb0:=bel_d0 w (.cells #[.bool false,.slice none 0 0,.slice none 0 0] 44)
 have hsz:w.heap.size+1≤(w.alloc (.cells #[.bool false,.slice none 0 0,.slice none 0 0] 44)).heap.size:=by simp
 go_enter Tryz.func34,Tryz.ntmps34
 go_wp2_with fail
 generalize w.alloc (.cells #[.bool false,.slice none 0 0,.slice none 0 0] 44)=W0 at *
 refine (signY (i:=0) _ rfl hat hneg (Nat.zero_le _) hs).mono ?_
 rintro e w1 ⟨rfl,hx⟩
 replace R0:=R0.below hx
 replace hb0:=bel_tr hb0 hx
 replace hsz:=Nat.le_trans hsz (Below.size hx)
 clear hx
 go_wp2_with fail
 refine (runY _ rfl hi hN ha0 hs).mono ?_
 rintro e w2 ⟨cN,nN,kN,rfl,GN,hx⟩
 replace R0:=R0.below hx
 replace hb0:=bel_tr hb0 hx
 replace GN:=GN.mono (B':=w.heap.size+1) hsz
 replace hsz:=Nat.le_trans hsz (Below.size hx)
 clear hx
 go_wp2_with fail
 refine (expY (i:=i) _ (by omega) he hd ho (by omega) hs).mono ?_
 rintro e w3 ⟨rfl,hx⟩
 replace R0:=R0.below hx
 replace GN:=GN.below hx
 replace hb0:=bel_tr hb0 hx
 replace hsz:=Nat.le_trans hsz (Below.size hx)
 clear hx
 have hmz:¬ (mm:Int)=0:=by omega
 have hmb:((mm:Int) == 0)=false:=by simpa using hmz
 subst hok
 subst hen
 have hnb:¬ (9999:Int)<(en:Int):=by omega
 go_wp2_with fail
 refine (tensY 0 _ (by first|rfl|omega|simp) (by omega)).mono ?_
 rintro e w4 ⟨cA,nA,kA,rfl,GA,hx⟩
 replace R0:=R0.below hx
 replace GN:=GN.below hx
 replace hb0:=bel_tr hb0 hx
 replace GA:=GA.mono (B':=w.heap.size+1) hsz
 replace hsz:=Nat.le_trans hsz (Below.size hx)
 clear hx
 go_wp2_with fail
 refine (tensY en _ rfl (by omega)).mono ?_
 rintro e w5 ⟨cE,nE,kE,rfl,GE,hx⟩
 replace R0:=R0.below hx
 replace GN:=GN.below hx
 replace GA:=GA.below hx
 replace hb0:=bel_tr hb0 hx
 replace GE:=GE.mono (B':=w.heap.size+1) hsz
 replace hsz:=Nat.le_trans hsz (Below.size hx)
 clear hx
 subst hdn
 go_wp2_with fail
 refine (rmulV _ GA.num GE.num (by decide)).mono ?_
 rintro e w6 ⟨cX,nX,kX,rfl,GX,hx⟩
 replace R0:=R0.below hx
 replace GN:=GN.below hx
 replace GA:=GA.below hx
 replace GE:=GE.below hx
 replace hb0:=bel_tr hb0 hx
 replace GX:=GX.mono (B':=w.heap.size+1) hsz
 replace hsz:=Nat.le_trans hsz (Below.size hx)
 clear hx
 go_wp2_with fail
 refine (normD _ (Got.frac (neg:=neg) (GN.le (by decide)) GX) (by decide) (by decide)).mono ?_
 rintro e w7 ⟨f5,c5,n5,k5,d5,m5,l5,rfl,G5,hx⟩
 replace R0:=R0.below hx
 replace GN:=GN.below hx
 replace GA:=GA.below hx
 replace GE:=GE.below hx
 replace GX:=GX.below hx
 replace hb0:=bel_tr hb0 hx
 replace G5:=G5.mono (B':=w.heap.size+1) hsz
 replace hsz:=Nat.le_trans hsz (Below.size hx)
 clear hx
 clear GN
 clear GA
 clear GE
 clear GX
 obtain ⟨r0c0,r0c1,r0c2,r0c3,r0c4,r0c5⟩:=id R0
 obtain ⟨V,OO⟩:=R0.set (.bool f5) (.slice c5 n5 k5) (.slice d5 m5 l5)
 have hw:=hb0.trans (OO.below (B:=w.heap.size) (by omega))
 have GF:=G5.off OO (by omega)
 clear G5 R0 OO hb0
 go_wp2
 refine bodyPost_ret (v:=.tuple #[.agg #[.bool f5,.slice c5 n5 k5,.slice d5 m5 l5],.int .i64 0]) (by simp [results,Tryz.results34,go_sem,V.c0,V.c1,V.c2]) rfl ⟨_,_,_,_,_,_,_,rfl,GF.mono (B':=w.heap.size) (by omega),hw⟩
end Go.Proofs.YtgdilnljjgdinaaGreatDoor
namespace Go.Proofs.YtgdilnljjgdinaaGreatDoor
open Go.RowKit Go.Shelf
set_option maxRecDepth 100000 in
set_option maxHeartbeats 4000000 in
theorem dBEn5a {s:ByteArray} {p0 i:Nat} {neg:Bool} {N:Int} (w:World) (hs:s.size≤1048576) (hat:sgJ s 0=p0) (hneg:sgN s 0=neg) (hi:runE s p0=i) (hN:rdF s p0 (i-p0)=N) (ha0:p0≤s.size) (_hi0:i≤s.size) (_hai0:p0≤i) (hai1:¬ p0<i) (hil1:¬ i<s.size) {mm:Nat} (hmm:(i:Int)-(p0:Int)=(mm:Int)) {e:Int} {dn ok:Bool} (he:exV s i=e) (hd:exD s i=dn) (ho:exOk s i=ok) (hm0:mm=0)  :
  Calls Tryz.prog 34 #[.string s] w fun e w'=>e = .returned (.tuple #[.agg #[.bool false,.slice none 0 0,.slice none 0 0],.int .i64 5])∧Below w.heap.size w w':=by
 have hai:¬ (p0:Int)<(i:Int):=by omega
 have hii:(0:Int)≤(i:Int):=by omega
 have hil:¬ (i:Int)<(s.size:Int):=by omega
 have R0:=var3_new w (.bool false) (.slice none 0 0) (.slice none 0 0) 44
 have hb0:=bel_d0 w (.cells #[.bool false,.slice none 0 0,.slice none 0 0] 44)
 have hsz:w.heap.size+1≤(w.alloc (.cells #[.bool false,.slice none 0 0,.slice none 0 0] 44)).heap.size:=by simp
 go_enter Tryz.func34,Tryz.ntmps34
 go_wp2_with fail
 generalize w.alloc (.cells #[.bool false,.slice none 0 0,.slice none 0 0] 44)=W0 at *
 refine (signY (i:=0) _ rfl hat hneg (Nat.zero_le _) hs).mono ?_
 rintro e w1 ⟨rfl,hx⟩
 replace R0:=R0.below hx
 replace hb0:=bel_tr hb0 hx
 replace hsz:=Nat.le_trans hsz (Below.size hx)
 clear hx
 go_wp2_with fail
 refine (runY _ rfl hi hN ha0 hs).mono ?_
 rintro e w2 ⟨cN,nN,kN,rfl,GN,hx⟩
 replace R0:=R0.below hx
 replace hb0:=bel_tr hb0 hx
 replace GN:=GN.mono (B':=w.heap.size+1) hsz
 replace hsz:=Nat.le_trans hsz (Below.size hx)
 clear hx
 go_wp2_with fail
 refine (expY (i:=i) _ (by omega) he hd ho (by omega) hs).mono ?_
 rintro e w3 ⟨rfl,hx⟩
 replace R0:=R0.below hx
 replace GN:=GN.below hx
 replace hb0:=bel_tr hb0 hx
 replace hsz:=Nat.le_trans hsz (Below.size hx)
 clear hx
 subst hm0
 have hmz:((0:Nat):Int)=0:=rfl
 clear GN
 obtain ⟨r0c0,r0c1,r0c2,r0c3,r0c4,r0c5⟩:=id R0
 obtain ⟨V,O⟩:=R0.set (.bool false) (.slice none 0 0) (.slice none 0 0)
 have hw:=hb0.trans (O.below (B:=w.heap.size) (by omega))
 clear R0 O hb0
 go_wp2
 refine bodyPost_ret (v:=.tuple #[.agg #[.bool false,.slice none 0 0,.slice none 0 0],.int .i64 5]) (by simp [results,Tryz.results34,go_sem,V.c0,V.c1,V.c2]) rfl ⟨rfl,hw⟩
end Go.Proofs.YtgdilnljjgdinaaGreatDoor
namespace Go.Proofs.YtgdilnljjgdinaaGreatDoor
open Go.RowKit Go.Shelf
set_option maxRecDepth 100000 in
set_option maxHeartbeats 4000000 in
theorem dBLa5b {s:ByteArray} {p0 i:Nat} {neg:Bool} {N:Int} (w:World) (hs:s.size≤1048576) (hat:sgJ s 0=p0) (hneg:sgN s 0=neg) (hi:runE s p0=i) (hN:rdF s p0 (i-p0)=N) (ha0:p0≤s.size) (_hi0:i≤s.size) (_hai0:p0≤i) (hai1:p0<i) (hil1:i<s.size) (hB6:byt s i≠46) (hB7:byt s i≠47) {mm:Nat} (hmm:(i:Int)-(p0:Int)=(mm:Int)) {e:Int} {dn ok:Bool} (he:exV s i=e) (hd:exD s i=dn) (ho:exOk s i=ok) (_hm0:mm≠0) (hok:ok=false)  :
  Calls Tryz.prog 34 #[.string s] w fun e w'=>e = .returned (.tuple #[.agg #[.bool false,.slice none 0 0,.slice none 0 0],.int .i64 5])∧Below w.heap.size w w':=by
 have hai:(p0:Int)<(i:Int):=by omega
 have hii:(0:Int)≤(i:Int):=by omega
 have hil:(i:Int)<(s.size:Int):=by omega
 have hby:=byt_get (s:=s) (k:=i) hil1
 have hw1:IntKind.i64.wrap ((i:Int)+1)=(i:Int)+1:=by rw [IntKind.wrap_i64];omega
 generalize byt s i=B at *
 have b46:(B == 46)=false:=by simpa using hB6
 have b47:(B == 47)=false:=by simpa using hB7
 have R0:=var3_new w (.bool false) (.slice none 0 0) (.slice none 0 0) 44
 have hb0:=bel_d0 w (.cells #[.bool false,.slice none 0 0,.slice none 0 0] 44)
 have hsz:w.heap.size+1≤(w.alloc (.cells #[.bool false,.slice none 0 0,.slice none 0 0] 44)).heap.size:=by simp
 go_enter Tryz.func34,Tryz.ntmps34
 go_wp2_with fail
 generalize w.alloc (.cells #[.bool false,.slice none 0 0,.slice none 0 0] 44)=W0 at *
 refine (signY (i:=0) _ rfl hat hneg (Nat.zero_le _) hs).mono ?_
 rintro e w1 ⟨rfl,hx⟩
 replace R0:=R0.below hx
 replace hb0:=bel_tr hb0 hx
 replace hsz:=Nat.le_trans hsz (Below.size hx)
 clear hx
 go_wp2_with fail
 refine (runY _ rfl hi hN ha0 hs).mono ?_
 rintro e w2 ⟨cN,nN,kN,rfl,GN,hx⟩
 replace R0:=R0.below hx
 replace hb0:=bel_tr hb0 hx
 replace GN:=GN.mono (B':=w.heap.size+1) hsz
 replace hsz:=Nat.le_trans hsz (Below.size hx)
 clear hx
 go_wp2_with fail
 refine (expY (i:=i) _ (by omega) he hd ho (by omega) hs).mono ?_
 rintro e w3 ⟨rfl,hx⟩
 replace R0:=R0.below hx
 replace GN:=GN.below hx
 replace hb0:=bel_tr hb0 hx
 replace hsz:=Nat.le_trans hsz (Below.size hx)
 clear hx
 have hmz:¬ (mm:Int)=0:=by omega
 have hmb:((mm:Int) == 0)=false:=by simpa using hmz
 subst hok
 clear GN
 obtain ⟨r0c0,r0c1,r0c2,r0c3,r0c4,r0c5⟩:=id R0
 obtain ⟨V,O⟩:=R0.set (.bool false) (.slice none 0 0) (.slice none 0 0)
 have hw:=hb0.trans (O.below (B:=w.heap.size) (by omega))
 clear R0 O hb0
 go_wp2
 refine bodyPost_ret (v:=.tuple #[.agg #[.bool false,.slice none 0 0,.slice none 0 0],.int .i64 5]) (by simp [results,Tryz.results34,go_sem,V.c0,V.c1,V.c2]) rfl ⟨rfl,hw⟩
set_option maxRecDepth 100000 in
set_option maxHeartbeats 4000000 in
theorem dBLa8 {s:ByteArray} {p0 i:Nat} {neg:Bool} {N:Int} (w:World) (hs:s.size≤1048576) (hat:sgJ s 0=p0) (hneg:sgN s 0=neg) (hi:runE s p0=i) (hN:rdF s p0 (i-p0)=N) (ha0:p0≤s.size) (_hi0:i≤s.size) (_hai0:p0≤i) (hai1:p0<i) (hil1:i<s.size) (hB6:byt s i≠46) (hB7:byt s i≠47) {mm:Nat} (hmm:(i:Int)-(p0:Int)=(mm:Int)) {e:Int} {dn ok:Bool} (he:exV s i=e) (hd:exD s i=dn) (ho:exOk s i=ok) (_hm0:mm≠0) (hok:ok=true) (hbig:9999<e)  :
  Calls Tryz.prog 34 #[.string s] w fun e w'=>e = .returned (.tuple #[.agg #[.bool false,.slice none 0 0,.slice none 0 0],.int .i64 8])∧Below w.heap.size w w':=by
 have hai:(p0:Int)<(i:Int):=by omega
 have hii:(0:Int)≤(i:Int):=by omega
 have hil:(i:Int)<(s.size:Int):=by omega
 have hby:=byt_get (s:=s) (k:=i) hil1
 have hw1:IntKind.i64.wrap ((i:Int)+1)=(i:Int)+1:=by rw [IntKind.wrap_i64];omega
 generalize byt s i=B at *
 have b46:(B == 46)=false:=by simpa using hB6
 have b47:(B == 47)=false:=by simpa using hB7
 have R0:=var3_new w (.bool false) (.slice none 0 0) (.slice none 0 0) 44
 have hb0:=bel_d0 w (.cells #[.bool false,.slice none 0 0,.slice none 0 0] 44)
 have hsz:w.heap.size+1≤(w.alloc (.cells #[.bool false,.slice none 0 0,.slice none 0 0] 44)).heap.size:=by simp
 go_enter Tryz.func34,Tryz.ntmps34
 go_wp2_with fail
 generalize w.alloc (.cells #[.bool false,.slice none 0 0,.slice none 0 0] 44)=W0 at *
 refine (signY (i:=0) _ rfl hat hneg (Nat.zero_le _) hs).mono ?_
 rintro e w1 ⟨rfl,hx⟩
 replace R0:=R0.below hx
 replace hb0:=bel_tr hb0 hx
 replace hsz:=Nat.le_trans hsz (Below.size hx)
 clear hx
 go_wp2_with fail
 refine (runY _ rfl hi hN ha0 hs).mono ?_
 rintro e w2 ⟨cN,nN,kN,rfl,GN,hx⟩
 replace R0:=R0.below hx
 replace hb0:=bel_tr hb0 hx
 replace GN:=GN.mono (B':=w.heap.size+1) hsz
 replace hsz:=Nat.le_trans hsz (Below.size hx)
 clear hx
 go_wp2_with fail
 refine (expY (i:=i) _ (by omega) he hd ho (by omega) hs).mono ?_
 rintro e w3 ⟨rfl,hx⟩
 replace R0:=R0.below hx
 replace GN:=GN.below hx
 replace hb0:=bel_tr hb0 hx
 replace hsz:=Nat.le_trans hsz (Below.size hx)
 clear hx
 have hmz:¬ (mm:Int)=0:=by omega
 have hmb:((mm:Int) == 0)=false:=by simpa using hmz
 subst hok
 clear GN
 obtain ⟨r0c0,r0c1,r0c2,r0c3,r0c4,r0c5⟩:=id R0
 obtain ⟨V,O⟩:=R0.set (.bool false) (.slice none 0 0) (.slice none 0 0)
 have hw:=hb0.trans (O.below (B:=w.heap.size) (by omega))
 clear R0 O hb0
 go_wp2
 refine bodyPost_ret (v:=.tuple #[.agg #[.bool false,.slice none 0 0,.slice none 0 0],.int .i64 8]) (by simp [results,Tryz.results34,go_sem,V.c0,V.c1,V.c2]) rfl ⟨rfl,hw⟩
set_option maxRecDepth 100000 in
set_option maxHeartbeats 4000000 in
theorem dBLa0u {s:ByteArray} {p0 i:Nat} {neg:Bool} {N:Int} (w:World) (hs:s.size≤1048576) (hat:sgJ s 0=p0) (hneg:sgN s 0=neg) (hi:runE s p0=i) (hN:rdF s p0 (i-p0)=N) (ha0:p0≤s.size) (_hi0:i≤s.size) (_hai0:p0≤i) (hai1:p0<i) (hil1:i<s.size) (hB6:byt s i≠46) (hB7:byt s i≠47) {mm:Nat} (hmm:(i:Int)-(p0:Int)=(mm:Int)) {e:Int} {dn ok:Bool} (he:exV s i=e) (hd:exD s i=dn) (ho:exOk s i=ok) (_hm0:mm≠0) (hok:ok=true) {en:Nat} (hen:e=en) (hbig:en≤9999) (hdn:dn=false)  :
  Calls Tryz.prog 34 #[.string s] w fun e w'=>∃ f c n k c' n' k',e = .returned (.tuple #[.agg #[.bool f,.slice c n k,.slice c' n' k'],.int .i64 0])∧GR w' w.heap.size f c n k c' n' k' (Rat.divInt (ws neg (N*p10 en)) (p10 0)) 4194309∧Below w.heap.size w w':=by
 have hai:(p0:Int)<(i:Int):=by omega
 have hii:(0:Int)≤(i:Int):=by omega
 have hil:(i:Int)<(s.size:Int):=by omega
 have hby:=byt_get (s:=s) (k:=i) hil1
 have hw1:IntKind.i64.wrap ((i:Int)+1)=(i:Int)+1:=by rw [IntKind.wrap_i64];omega
 generalize byt s i=B at *
 have b46:(B == 46)=false:=by simpa using hB6
 have b47:(B == 47)=false:=by simpa using hB7
 have R0:=var3_new w (.bool false) (.slice none 0 0) (.slice none 0 0) 44
 have hb0:=bel_d0 w (.cells #[.bool false,.slice none 0 0,.slice none 0 0] 44)
 have hsz:w.heap.size+1≤(w.alloc (.cells #[.bool false,.slice none 0 0,.slice none 0 0] 44)).heap.size:=by simp
 go_enter Tryz.func34,Tryz.ntmps34
 go_wp2_with fail
 generalize w.alloc (.cells #[.bool false,.slice none 0 0,.slice none 0 0] 44)=W0 at *
 refine (signY (i:=0) _ rfl hat hneg (Nat.zero_le _) hs).mono ?_
 rintro e w1 ⟨rfl,hx⟩
 replace R0:=R0.below hx
 replace hb0:=bel_tr hb0 hx
 replace hsz:=Nat.le_trans hsz (Below.size hx)
 clear hx
 go_wp2_with fail
 refine (runY _ rfl hi hN ha0 hs).mono ?_
 rintro e w2 ⟨cN,nN,kN,rfl,GN,hx⟩
 replace R0:=R0.below hx
 replace hb0:=bel_tr hb0 hx
 replace GN:=GN.mono (B':=w.heap.size+1) hsz
 replace hsz:=Nat.le_trans hsz (Below.size hx)
 clear hx
 go_wp2_with fail
 refine (expY (i:=i) _ (by omega) he hd ho (by omega) hs).mono ?_
 rintro e w3 ⟨rfl,hx⟩
 replace R0:=R0.below hx
 replace GN:=GN.below hx
 replace hb0:=bel_tr hb0 hx
 replace hsz:=Nat.le_trans hsz (Below.size hx)
 clear hx
 have hmz:¬ (mm:Int)=0:=by omega
 have hmb:((mm:Int) == 0)=false:=by simpa using hmz
 subst hok
 subst hen
 have hnb:¬ (9999:Int)<(en:Int):=by omega
 go_wp2_with fail
 refine (tensY 0 _ (by first|rfl|omega|simp) (by omega)).mono ?_
 rintro e w4 ⟨cA,nA,kA,rfl,GA,hx⟩
 replace R0:=R0.below hx
 replace GN:=GN.below hx
 replace hb0:=bel_tr hb0 hx
 replace GA:=GA.mono (B':=w.heap.size+1) hsz
 replace hsz:=Nat.le_trans hsz (Below.size hx)
 clear hx
 go_wp2_with fail
 refine (tensY en _ rfl (by omega)).mono ?_
 rintro e w5 ⟨cE,nE,kE,rfl,GE,hx⟩
 replace R0:=R0.below hx
 replace GN:=GN.below hx
 replace GA:=GA.below hx
 replace hb0:=bel_tr hb0 hx
 replace GE:=GE.mono (B':=w.heap.size+1) hsz
 replace hsz:=Nat.le_trans hsz (Below.size hx)
 clear hx
 subst hdn
 go_wp2_with fail
 refine (rmulV _ GN.num GE.num (by decide)).mono ?_
 rintro e w6 ⟨cX,nX,kX,rfl,GX,hx⟩
 replace R0:=R0.below hx
 replace GN:=GN.below hx
 replace GA:=GA.below hx
 replace GE:=GE.below hx
 replace hb0:=bel_tr hb0 hx
 replace GX:=GX.mono (B':=w.heap.size+1) hsz
 replace hsz:=Nat.le_trans hsz (Below.size hx)
 clear hx
 go_wp2_with fail
 refine (normD _ (Got.frac (neg:=neg) GX (GA.le (by decide))) (by decide) (by decide)).mono ?_
 rintro e w7 ⟨f5,c5,n5,k5,d5,m5,l5,rfl,G5,hx⟩
 replace R0:=R0.below hx
 replace GN:=GN.below hx
 replace GA:=GA.below hx
 replace GE:=GE.below hx
 replace GX:=GX.below hx
 replace hb0:=bel_tr hb0 hx
 replace G5:=G5.mono (B':=w.heap.size+1) hsz
 replace hsz:=Nat.le_trans hsz (Below.size hx)
 clear hx
 clear GN
 clear GA
 clear GE
 clear GX
 obtain ⟨r0c0,r0c1,r0c2,r0c3,r0c4,r0c5⟩:=id R0
 obtain ⟨V,OO⟩:=R0.set (.bool f5) (.slice c5 n5 k5) (.slice d5 m5 l5)
 have hw:=hb0.trans (OO.below (B:=w.heap.size) (by omega))
 have GF:=G5.off OO (by omega)
 clear G5 R0 OO hb0
 go_wp2
 refine bodyPost_ret (v:=.tuple #[.agg #[.bool f5,.slice c5 n5 k5,.slice d5 m5 l5],.int .i64 0]) (by simp [results,Tryz.results34,go_sem,V.c0,V.c1,V.c2]) rfl ⟨_,_,_,_,_,_,_,rfl,GF.mono (B':=w.heap.size) (by omega),hw⟩
set_option maxRecDepth 100000 in
set_option maxHeartbeats 4000000 in
theorem dBLa0d {s:ByteArray} {p0 i:Nat} {neg:Bool} {N:Int} (w:World) (hs:s.size≤1048576) (hat:sgJ s 0=p0) (hneg:sgN s 0=neg) (hi:runE s p0=i) (hN:rdF s p0 (i-p0)=N) (ha0:p0≤s.size) (_hi0:i≤s.size) (_hai0:p0≤i) (hai1:p0<i) (hil1:i<s.size) (hB6:byt s i≠46) (hB7:byt s i≠47) {mm:Nat} (hmm:(i:Int)-(p0:Int)=(mm:Int)) {e:Int} {dn ok:Bool} (he:exV s i=e) (hd:exD s i=dn) (ho:exOk s i=ok) (_hm0:mm≠0) (hok:ok=true) {en:Nat} (hen:e=en) (hbig:en≤9999) (hdn:dn=true)  :
  Calls Tryz.prog 34 #[.string s] w fun e w'=>∃ f c n k c' n' k',e = .returned (.tuple #[.agg #[.bool f,.slice c n k,.slice c' n' k'],.int .i64 0])∧GR w' w.heap.size f c n k c' n' k' (Rat.divInt (ws neg N) (p10 0*p10 en)) 4194309∧Below w.heap.size w w':=by
 have hai:(p0:Int)<(i:Int):=by omega
 have hii:(0:Int)≤(i:Int):=by omega
 have hil:(i:Int)<(s.size:Int):=by omega
 have hby:=byt_get (s:=s) (k:=i) hil1
 have hw1:IntKind.i64.wrap ((i:Int)+1)=(i:Int)+1:=by rw [IntKind.wrap_i64];omega
 generalize byt s i=B at *
 have b46:(B == 46)=false:=by simpa using hB6
 have b47:(B == 47)=false:=by simpa using hB7
 have R0:=var3_new w (.bool false) (.slice none 0 0) (.slice none 0 0) 44
 have hb0:=bel_d0 w (.cells #[.bool false,.slice none 0 0,.slice none 0 0] 44)
 have hsz:w.heap.size+1≤(w.alloc (.cells #[.bool false,.slice none 0 0,.slice none 0 0] 44)).heap.size:=by simp
 go_enter Tryz.func34,Tryz.ntmps34
 go_wp2_with fail
 generalize w.alloc (.cells #[.bool false,.slice none 0 0,.slice none 0 0] 44)=W0 at *
 refine (signY (i:=0) _ rfl hat hneg (Nat.zero_le _) hs).mono ?_
 rintro e w1 ⟨rfl,hx⟩
 replace R0:=R0.below hx
 replace hb0:=bel_tr hb0 hx
 replace hsz:=Nat.le_trans hsz (Below.size hx)
 clear hx
 go_wp2_with fail
 refine (runY _ rfl hi hN ha0 hs).mono ?_
 rintro e w2 ⟨cN,nN,kN,rfl,GN,hx⟩
 replace R0:=R0.below hx
 replace hb0:=bel_tr hb0 hx
 replace GN:=GN.mono (B':=w.heap.size+1) hsz
 replace hsz:=Nat.le_trans hsz (Below.size hx)
 clear hx
 go_wp2_with fail
 refine (expY (i:=i) _ (by omega) he hd ho (by omega) hs).mono ?_
 rintro e w3 ⟨rfl,hx⟩
 replace R0:=R0.below hx
 replace GN:=GN.below hx
 replace hb0:=bel_tr hb0 hx
 replace hsz:=Nat.le_trans hsz (Below.size hx)
 clear hx
 have hmz:¬ (mm:Int)=0:=by omega
 have hmb:((mm:Int) == 0)=false:=by simpa using hmz
 subst hok
 subst hen
 have hnb:¬ (9999:Int)<(en:Int):=by omega
 go_wp2_with fail
 refine (tensY 0 _ (by first|rfl|omega|simp) (by omega)).mono ?_
 rintro e w4 ⟨cA,nA,kA,rfl,GA,hx⟩
 replace R0:=R0.below hx
 replace GN:=GN.below hx
 replace hb0:=bel_tr hb0 hx
 replace GA:=GA.mono (B':=w.heap.size+1) hsz
 replace hsz:=Nat.le_trans hsz (Below.size hx)
 clear hx
 go_wp2_with fail
 refine (tensY en _ rfl (by omega)).mono ?_
 rintro e w5 ⟨cE,nE,kE,rfl,GE,hx⟩
 replace R0:=R0.below hx
 replace GN:=GN.below hx
 replace GA:=GA.below hx
 replace hb0:=bel_tr hb0 hx
 replace GE:=GE.mono (B':=w.heap.size+1) hsz
 replace hsz:=Nat.le_trans hsz (Below.size hx)
 clear hx
 subst hdn
 go_wp2_with fail
 refine (rmulV _ GA.num GE.num (by decide)).mono ?_
 rintro e w6 ⟨cX,nX,kX,rfl,GX,hx⟩
 replace R0:=R0.below hx
 replace GN:=GN.below hx
 replace GA:=GA.below hx
 replace GE:=GE.below hx
 replace hb0:=bel_tr hb0 hx
 replace GX:=GX.mono (B':=w.heap.size+1) hsz
 replace hsz:=Nat.le_trans hsz (Below.size hx)
 clear hx
 go_wp2_with fail
 refine (normD _ (Got.frac (neg:=neg) (GN.le (by decide)) GX) (by decide) (by decide)).mono ?_
 rintro e w7 ⟨f5,c5,n5,k5,d5,m5,l5,rfl,G5,hx⟩
 replace R0:=R0.below hx
 replace GN:=GN.below hx
 replace GA:=GA.below hx
 replace GE:=GE.below hx
 replace GX:=GX.below hx
 replace hb0:=bel_tr hb0 hx
 replace G5:=G5.mono (B':=w.heap.size+1) hsz
 replace hsz:=Nat.le_trans hsz (Below.size hx)
 clear hx
 clear GN
 clear GA
 clear GE
 clear GX
 obtain ⟨r0c0,r0c1,r0c2,r0c3,r0c4,r0c5⟩:=id R0
 obtain ⟨V,OO⟩:=R0.set (.bool f5) (.slice c5 n5 k5) (.slice d5 m5 l5)
 have hw:=hb0.trans (OO.below (B:=w.heap.size) (by omega))
 have GF:=G5.off OO (by omega)
 clear G5 R0 OO hb0
 go_wp2
 refine bodyPost_ret (v:=.tuple #[.agg #[.bool f5,.slice c5 n5 k5,.slice d5 m5 l5],.int .i64 0]) (by simp [results,Tryz.results34,go_sem,V.c0,V.c1,V.c2]) rfl ⟨_,_,_,_,_,_,_,rfl,GF.mono (B':=w.heap.size) (by omega),hw⟩
end Go.Proofs.YtgdilnljjgdinaaGreatDoor
namespace Go.Proofs.YtgdilnljjgdinaaGreatDoor
open Go.RowKit Go.Shelf
set_option maxRecDepth 100000 in
set_option maxHeartbeats 4000000 in
theorem dBLn5a {s:ByteArray} {p0 i:Nat} {neg:Bool} {N:Int} (w:World) (hs:s.size≤1048576) (hat:sgJ s 0=p0) (hneg:sgN s 0=neg) (hi:runE s p0=i) (hN:rdF s p0 (i-p0)=N) (ha0:p0≤s.size) (_hi0:i≤s.size) (_hai0:p0≤i) (hai1:¬ p0<i) (hil1:i<s.size) (hB6:byt s i≠46) {mm:Nat} (hmm:(i:Int)-(p0:Int)=(mm:Int)) {e:Int} {dn ok:Bool} (he:exV s i=e) (hd:exD s i=dn) (ho:exOk s i=ok) (hm0:mm=0)  :
  Calls Tryz.prog 34 #[.string s] w fun e w'=>e = .returned (.tuple #[.agg #[.bool false,.slice none 0 0,.slice none 0 0],.int .i64 5])∧Below w.heap.size w w':=by
 have hai:¬ (p0:Int)<(i:Int):=by omega
 have hii:(0:Int)≤(i:Int):=by omega
 have hil:(i:Int)<(s.size:Int):=by omega
 have hby:=byt_get (s:=s) (k:=i) hil1
 have hw1:IntKind.i64.wrap ((i:Int)+1)=(i:Int)+1:=by rw [IntKind.wrap_i64];omega
 generalize byt s i=B at *
 have b46:(B == 46)=false:=by simpa using hB6
 have R0:=var3_new w (.bool false) (.slice none 0 0) (.slice none 0 0) 44
 have hb0:=bel_d0 w (.cells #[.bool false,.slice none 0 0,.slice none 0 0] 44)
 have hsz:w.heap.size+1≤(w.alloc (.cells #[.bool false,.slice none 0 0,.slice none 0 0] 44)).heap.size:=by simp
 go_enter Tryz.func34,Tryz.ntmps34
 go_wp2_with fail
 generalize w.alloc (.cells #[.bool false,.slice none 0 0,.slice none 0 0] 44)=W0 at *
 refine (signY (i:=0) _ rfl hat hneg (Nat.zero_le _) hs).mono ?_
 rintro e w1 ⟨rfl,hx⟩
 replace R0:=R0.below hx
 replace hb0:=bel_tr hb0 hx
 replace hsz:=Nat.le_trans hsz (Below.size hx)
 clear hx
 go_wp2_with fail
 refine (runY _ rfl hi hN ha0 hs).mono ?_
 rintro e w2 ⟨cN,nN,kN,rfl,GN,hx⟩
 replace R0:=R0.below hx
 replace hb0:=bel_tr hb0 hx
 replace GN:=GN.mono (B':=w.heap.size+1) hsz
 replace hsz:=Nat.le_trans hsz (Below.size hx)
 clear hx
 go_wp2_with fail
 refine (expY (i:=i) _ (by omega) he hd ho (by omega) hs).mono ?_
 rintro e w3 ⟨rfl,hx⟩
 replace R0:=R0.below hx
 replace GN:=GN.below hx
 replace hb0:=bel_tr hb0 hx
 replace hsz:=Nat.le_trans hsz (Below.size hx)
 clear hx
 subst hm0
 have hmz:((0:Nat):Int)=0:=rfl
 clear GN
 obtain ⟨r0c0,r0c1,r0c2,r0c3,r0c4,r0c5⟩:=id R0
 obtain ⟨V,O⟩:=R0.set (.bool false) (.slice none 0 0) (.slice none 0 0)
 have hw:=hb0.trans (O.below (B:=w.heap.size) (by omega))
 clear R0 O hb0
 go_wp2
 refine bodyPost_ret (v:=.tuple #[.agg #[.bool false,.slice none 0 0,.slice none 0 0],.int .i64 5]) (by simp [results,Tryz.results34,go_sem,V.c0,V.c1,V.c2]) rfl ⟨rfl,hw⟩
end Go.Proofs.YtgdilnljjgdinaaGreatDoor
